import PyProof.Rows.All
import KE.KFromBytes
import KE.KTab
import KE.KIsAll
import KE.KDictOf
import KE.KEqDeep
import KE.KUnpackStar
import Wide.FinOn
import KE.KSortTup
import PySem.Challenge.RW_lanepacks_k09_whole_plans
set_option Elab.async false
set_option linter.all false
set_option maxRecDepth 100000
set_option maxHeartbeats 4000000
set_option bootstrap.genMatcherCode false
set_option compiler.extract_closed false
open Option renaming some->b0,none->b4
open Bool renaming true->ba,false->bb
open PySem renaming Value->Wr,Addr->Ws,wpAny->Wt,model->Wu,World->Wv,Expr->Ww,assignEach->Wx,Str->Wy,Heap->Wz,foldedSetIterable->Xa,mainGlobals->Xb,Obj->Xc,Scope->Xd,cellsFrom->Xe,Stmt->Xf,NameKind->Xg,assignInOrder->Xh,Sem->Xi
open PySem renaming wpAny_bind->Aa,wpAny_pure->Ad,Shared->Af,Program->Az,starEach->Bi,SetTable->Bn,wpAny_holding->Bu,bootBuiltins->Bv,Around->Bz,wpAny_mono->Cg,wpAny_call_entry->Ck,wpAny_newObj_type->Cp,wpAny_setState_of->Cs,wpAny_seqItems->Cy,wpAny_callSpecial?_slot->Dc,compareOp->Dh,sizeLine_eq->Dn,mem_of_lookup->Dq,ofAClassStatement->Dv,codeAny_builtin->Ee,wpAny_truthy_bool->Eh,wpAny_field->Fc,wpAny_specialOf->Fd,hashByValue->Ff,wpAny_typeOf->Fn,swapsWithSole->Ft,swappedStores->Fu,wpAny_pyIter_list->Fx,wpAny_rule->Gh,wpAny_isInstance->Gi,wpAny_forIn_list->Gj,wpAny_standAt->Go,wpAny_setField_rec->Gr,tupleKeyHash->Gs,Builtin->Gy,Spec->Gz,wpAny_passesOwn->Ha,backTo->Hk,wpAny_askSetting->Hm,sysModules->Ho,wpAny_pyIter_tuple->Hu,binaryOp->Hv,FuncData->Hx,wpAny_Call_Name_kw->Hy,wpAny_tupleItemsOf->Ia,wpAny_eqBool_tuple->Ib,letOwnedTupleGo->Ic,isSubtype_tuple_tuple->Ik,codeAny->Jd,setAddHashed->Jl,swapsWith->Jm,behindInMarks->Jo,attributeBase->Jq,tupleKind_room_in1->Js,plainId_quiet->Jx,wpAny_assign_Name->Kg,sliceBounds->Kj,searchCouldBeSeen->Kn,unsupported->Ko,wpAny_storeSet_of->Kp,wpAny_bindName->Kt,wpAny_setField->Kv,ItemsAre->Kw,codeAny_mono->Kz,wpAny_updateSeq_pair->Ll,bindName->Lo,importedModules->Lw,unpackItems->Ma,keywordEach->Mc,Keyword->Md,wpAny_richCompare_same_room->Mi,holding->Nb,firstArgMember->Nf,wpAny_sequenceKey->Nj,call_meets->Nk,wpAny_comprehension_free->Nq,pickOrder->Nv,getItem->Of,wpAny_of_eq->Oj,wpAny_onRaise->Ol,wpAny_attempt->Om,wpAny_newList->Ow,noFill_tuple_add->Pa,wpAny_pyNext_list_item->Pd,DictEntry->Pk,standAt->Pm,wpAny_execs_nil->Pp,wpAny_pyNext_list_end->Pq,concat_meets->Pt,call_meetsIn->Pu,codeAny_of_tree->Pz,wpAny_isSame_ref_self->Qb,builtinLookup_eq_fast->Qd,wpAny_updateSeq->Qf,ZipApart->Ql,setsByText->Qn,PyData->Qt,newFunctionEnv->Qu,wpAny_runValue->Qv,SetTable->Qw,isSubtype_type->Qz,callerA->Rb,seq_tuple_add->Rp,backToKw->Rr,Fin->Ru,getattributeRaised->Rw,setSearchFrom->Ry,eqIsQuiet->Sb,wpAny_pyHash_tuple->Se,valueAt->Sj,wpAny_Call_method->Sk,wpAny_pyIter_enum->Sq,wpAny_pyIter_slot->Sv,isInstance->Sx,intKind_is->Sy,pyIter->Tc,seqIndex_neg->Td,Params->Tw,PassesOwn->Tz,lastMarks->Ua,BindsTo->Uc,seqIndex_of->Ud,wpAny_letGo->Uh,pushCells->Uj,Thread->Uv,wpAny_Name->Uw,wpAny_load->Ux,call->Uy,setEntries->Vc,GenState->Vi,bindArgs->Vj,collect->Vn,entryFor->Vp,Within->Vx,Result->Vz,stored->Wa,pyHash->We,again->Wo
open Option renaming bind_eq_some_iff->Ac,map_eq_some_iff->Am,bind_some->An,map_some->Mj,isSome_some->Rs,getD_none->Ti,bind->Um
open PySem.Heap renaming get?_push_of_some->Ae,get?_push_size->Ar,lt_size->As,SameBut->Dw,size_push->En,get?_update_self->Et,get?_update_other->Hs,get?_push_ne->Ip,get?_update_ne->Jh,ExtBut->Kk
open List renaming mem_cons_self->Ag,mem_cons_of_mem->Ai,mem_cons->Ak,range->Ao,getElem?_eq_some_iff->Ap,mem_singleton->Aq,size_toArray->At,map_cons->Av,mem_map->Aw,getElem?_append_left->Ax,length_cons->Ba,mem_append_right->Be,length_map->Bf,nil_append->Bg,mem_range->Bj,length_append->Bm,mem_append->Bq,not_mem_nil->Br,mem_append_left->Bw,replicate->Cb,length_set->Ce,getElem?_set_ne->Ci,length_take->Cj,map_map->Cq,append_assoc->Cr,nodup_cons->Ct,take_of_length_le->Cv,getElem?_eq_getElem->Cw,lookup_cons->Cz,getElem?_eq_none->Dd,pairwise_cons->De,getElem?_map->Di,map_nil->Dj,getElem?_append_right->Dk,mem_filter->Dt,pairwise_iff_getElem->Du,getElem?_set_self->Dy,getElem?_take_of_lt->Dz,length_singleton->Ea,map_congr_left->Eb,map_append->Ed,any_eq_true->Ef,drop_eq_getElem_cons->Em,all_eq_true->Eo,take_append_of_le_length->Ep,lookup_cons_self->Ew,set_comm->Ez,getElem?_replicate->Fb,length_eq_zero_iff->Fe,mem_of_getElem?->Fg,range_succ_eq_map->Fh,pairwise_map->Fj,append_nil->Fm,forIn_cons->Fo,foldl_cons->Ge,isEmpty_map->Gk,forIn_nil->Gw,pairwise_append->Gx,length_range->Hd,nodup_append->He,filterMap_cons->Hh,any_cons->Hi,getElem_of_mem->Hj,drop_length->Hl,getElem_mem->Hn,find?_cons->Ig,take_append_drop->Ij,set_append_right->Il,ext_getElem?->Io,mem_of_mem_drop->Iv,cons_append->Ja,nodup_range->Jb,map_id->Je,mem_map_of_mem->Jg,length_nil->Jr,length_eraseIdx_le->Jv,filter_map->Ka,pairwise_singleton->Kb,length_pos_of_mem->Ke,flatten_cons->Ks,toArray->Le,eq_nil_or_concat->Lg,concat_eq_append->Lh,length_drop->Li,map_eq_cons_iff->Lm,mem_of_mem_take->Ln,zip_append->Me,idxOf_lt_length_of_mem->Mk,length_eraseIdx_of_lt->Mq,mem_filterMap->Mu,zip_cons_cons->Mx,map_singleton->Mz,drop_zero->Nd,length_erase_of_mem->Nr,find?_range_eq_none->Nu,all_cons->Oo,isEmpty_iff->Pb,mem_flatten->Pc,filter_eq_nil_iff->Ph,flatten_singleton->Pj,of_mem_zip->Pr,length_replicate->Ps,mem_iff_getElem?->Px,any_map->Py,contains_iff_mem->Qa,getElem?_mapIdx->Qo,mem_erase_of_ne->Qq,perm_cons_erase->Qr,lookup->Rc,take_succ_cons->Rf,filter_eq_self->Ri,length_flatten->Rj,length_pos_iff->Rk,flatten_append->Rl,filterMap_map->Rq,getElem?_take->Rv,getElem_idxOf->Sg,set_cons_zero->Sh,zip_nil_left->So,flatMap_cons->Ta,getElem_inj->Tg,zipIdx_cons->Tl,ext_getElem->Ts,zipIdx_nil->Ug,mapM_cons->Us,take_left->Ut,take_zero->Uu,map_drop->Vu,map_take->Vv,all_map->Wc
open Bool renaming and_eq_true->Ah,false_eq_true->Aj,not_true->Cn,false_ne_true->Db,and_eq_true_iff->Ei,not_false->Fv,and_false->Hr,or_eq_true->Ih,eq_false_iff->Kq,false_and->Ku,not_eq_true->Lj,true_and->Ls,decide_and->Mh,beq_eq_decide_eq->Qj,or_false->Vl,false_or->Vm,and_self->Vr
open Nat renaming le_refl->Al,ne_of_lt->Bd,lt_of_lt_of_le->Bt,lt_irrefl->By,zero_le->Ch,not_lt_zero->Co,le_of_lt_succ->Ex,le_trans->Fl,lt_trichotomy->Fy,zero_add->Gm,ne_of_gt->Hg,lt_of_le_of_lt->Hz,lt_succ_self->Iz,le_succ->Jf,succ_pos->Jk,le_of_succ_le->Km,lt_trans->La,lt_or_ge->Lf,mod_lt->Lv,le_of_lt->Mt,add_right_comm->Mw,lt_or_gt_of_ne->My,lt_or_eq_of_le->Rx,add_assoc->Sf,lt_succ_of_lt->Sw,le_add_right->To,succ_le_succ->Tp,zero_lt_succ->Tq,min_eq_right->Tr,min_le_left->Ui,div_le_self->Ul,min_eq_left->Uo
open PySem.W renaming Frag->Au,kia_one->Gp,SharedT->Od,kas_asc->Oq,kas_sort->Ot,kitx_list->Ra,keepIn->Rn,fnOf->Ro,nsIn->Te,cellsFrom_some->Th,codeIn->Tt,methodObj->Tx,kitx_dict->Ub,BoolBack->Vd,absHeap->Ve,openEnds->Vf,instObj->Vw,OpenLaw->Wb
open PySem.Str renaming ofString->Ay,ofString_eq_toList->Kf
open PySem.Value renaming ref->Bb,isInt_shape->Eg,type->Es,int->Kx,str->Nh,bool->Qk,isStrOf->Vh,builtin->Vo,isInt->Wi,float->Wj
open Array renaming getElem?_eq_some_iff->Bh,getElem?_eq_getElem->Bx,getD_eq_getD_getElem?->Cc,length_toList->Dm,forIn_toList->Ek,mem_toList_iff->Ir,replicate->Jy,getElem?_setIfInBounds->Lr,eraseIdxIfInBounds->Np,getElem_mem->Nt,getElem?_toList->Qg,size_append->Su,getD->Uz,toList->Vy
open PySem.F renaming slot_list_append->Bo,type_list_append->Bp,slot_dict_get->Eu,entry_dict_get->Gf,slot_tuple_iterator_next->Gg,args_tuple_add_2->Ji,entry_tuple_add->Jp,args_dict_get_2->Jt,slot_tuple_add->Kc,args_tuple_iterator_next_1->Lp,entry_tuple_iterator_next->Mf,slot_zip_next->Mg,slot_dict_getitem->Nc,slot_list_remove->Nx,type_list_remove->Ny,args_dict_get_3->Og,plainAttrs_dict->Oh,plainAttrs_list->Oi,plain_list_iadd->Oy,slot_tuple_hash->Oz,type_dict_get->Pw,plain_set_new->Qc,slot_set_iter->Qe,slot_tuple_eq->Qh,slot_tuple_lt->Qi,args_list_remove_2->Qp,entry_list_remove->Rh,slot_list_remove->Rt,args_zip_next_1->Sr,entry_zip_next->Tn
open PySem.NameKind renaming free->Ca,cell->Cu
open Option.some renaming inj->Cd
open Int renaming emod_lt_of_pos->Cf,toNat_natCast->Hb,emod_nonneg->Ii
open PySem.Builtin.SmallTypes renaming nextOf->Cm,ownedTupleIsFree->Er,ownedTupleHandOut->Ix
open PySem.PassesOwn renaming never->Df
open Ne renaming symm->Dg
open Prod renaming fst->Dr,snd->Ej,ext->Vg
open PySem.Around renaming under_plainId->Dx
open PySem.Heap.SameBut renaming update->Ec
open PySem.Obj renaming mapSeq->El,data_mapFields->Gq,isFreed_of_fields->Ld,cls_mapFields->No,putSet->Qm,mapFields->Vt
open PyProof.Rows renaming assignInOrder_cons->Ey,callWith_type1->Fa,slot_tuple_getitem->Fi,seqObj->Gb,IntsAre->Ie,assignInOrder_nil->Kh,listUpdate_at->Lq,envOfC->Mb,listItems_at->Mv,SortKind->Ov,subscriptTail_builtinR->Pe,AllBare->Pl,unpackItems_tuple->Si,seqEpoch_at->Uk,tail_any->Vk
open PySem.Builtin.Tuple renaming tupleHashOf->Fk,tupleExact->Hc,tupleItemsOf->Iq,tupleIsExact->Up
open PySem.SeqAt renaming shaped->Fp
open PySem.AutoSeq1 renaming wpAny_loadPart'->Fq
open PySem.PyData renaming keyHash->Fs,depthAll->Ga,canLay0->Hq,canLayAll0->Kl,depth->Lb,eqv->Lu,int->Sm,strOk->Wg
open PyProof.Rows.F renaming plain_set_update_loop->Fw,entry_set_update_loop->Iy
open ForInStep renaming yield->Fz
open PySem.Builtin.List renaming listExtendWith->Gc,listTooLong->Jj,listSameRef->Nw,listItems->Pg
open PySem.Builtin.Slice renaming slicePlaces->Gu,sliceAdjust->Iw,sliceApplied->Mp,slicePartIndex->Tu,sliceFields->Ur
open PyProof.Rows.KTD renaming datumAt->Gv
open List.cons renaming injEq->Hf
open PySem.Calls renaming callWith_builtin->Ht,spliced_cons->Hw,evalArgs_plain->Iu,spliced_nil->Ki,Name_function_global->Mo,call_function_entry->Ng
open False renaming elim->Im
open PySem.Builtin.Range renaming rangeSize->Jn,small->Wn
open Or renaming inr->Ju,inl->Lk
open PySem.Code renaming quiet_builtin->Jw
open PySem.Expr renaming Call->Jz
open List.Pairwise renaming map->Kr,nil->Nl
open Classical renaming choose_spec->Lc,choose->Tj
open PySem.W.Fast renaming tw10156331382660048174->Lx,tw11892475500146522536->Ly,tw14364793385576792824->Lz,tw1435165496053646825->Ml,tw4187177175401517315->Mm,te4187177175401517315->Mn
open PySem.MeetsSeq renaming entry_remove_loop->Mr,plain_remove_loop->Ms
open Sum renaming inl->Na,inr->Oe
open PyProof.Rows.IsTup renaming new->Ni
open Function renaming comp_def->Nz,comp->Op
open PySem.Challenge renaming pw_lanepacks_k09_whole_plans->Oa,rw_lanepacks_k09_whole_plans->Ob
open PySem.Builtin.Dict renaming updateFrom->Ox,pairItems->Pf,missed->Rg
open PySem.SetTable renaming fresh->Qx,fill->Rz,sizeAbove->Sa,fits->Vq
open PySem.Value.type renaming inj->Qy
open PySem.Paired renaming length->Rm,snoc->Wl
open PySem.Shared renaming TypeIs->Sc,heap->Uf
open PySem.Walks renaming list->Ss,tuple->Wm
open Char renaming toNat->Sz
open PySem.pickOrder renaming go->Tf
open PySem.Builtin.Frozenset renaming updateFrom->Tv,newClass->Uq,addrOf->Va,sizeOf->Vb,slot0->Vs
open PySem.Heap.DictOf renaming new->Ue
open PySem.W.KatTups renaming cons->Wd
open PySem.MeetsSeq.EqGives renaming int->Wh
open PySem.IsRange renaming new->Wk
open PySem.Heap.IsSliceOf renaming new->Wp
open PySem.W.WShape renaming has->Wq
noncomputable section
namespace KK
open PySem PySem.W
noncomputable def EI:List Xc->Nat->BT->Option BT
 |[],_,t=>b0 t
 |o::l,n,t=>match((t.ins n o).get n).isSome with
  |true=>EI l (n+1) (t.ins n o)
  |false=>b4
theorem JC{life:Life}:∀{l:List Xc}{n:Nat}{t t':BT},EI l n t=b0 t'->Ve t' (n+l.length) life=⟨(Ve t n life).objs++l.toArray,life⟩
 |[],n,t,t',h=>by cases h;simp[Ve]
 | o :: l,n,t,t',h => by
  unfold EI at h;split at h;rename_i g;have a:=JC (life:=life) h;rw[show n+(o::l).length=n+1+l.length by simp;lia,a,absHeap_ins g];simp[Heap.push];cases h
def toT(s:Af):Option Od:=(EI s.heap.objs.toList 0 .nil).map λt=>⟨t,s.heap.objs.size,s.heap.life,s.gens,s.drawn,s.toks,s.os⟩
def BY{s:Af}{u:Od}(h:toT s=b0 u):u.abs=s:=by
 unfold toT at h;cases e:EI s.heap.objs.toList 0 .nil with
 |none=>rw[e]at h;cases h
 |some t=>
  rw[e]at h;cases h;have:=JC (life:=s.heap.life) e;simp only[Gm,Dm]at this;obtain⟨⟨c,a⟩,d,drawn,b,os⟩:=s;show(⟨Ve t c.size a,d,drawn,b,os⟩:Af)=_;rw[this];simp[Ve,BT.list]
abbrev StT:=Od->Uv->Option (Od×Uv)
noncomputable def topG(st:StT)(ok:Uv->Bool):Nat->Od->Uv->Option Od
 |0,_,_=>b4
 | n + 1,s,t => match through t with
  |true=>b0 s
  | false => match ok t with
   |false=>b4
   |true=>match st s t with
    |some (b,a)=>topG st ok n b a
    |none=>b4
theorem BZ{c:String->Option Gy}{p:Az}{w:Wv}{a:Nat}{b:Option Wr}:∀{n:Nat}{s d:Od}{t:Uv},topG (stepT (denote c) p w) (stepOk a b) n s t=b0 d->topRun c p w a b n s.abs t=b0 d.abs
 |0,_,_,_,h=>by cases h
 | n + 1,s,d,t,h => by
  unfold topG at h;unfold topRun;cases i:through t with
  |true=>rw[i]at h;cases h;rfl
  |false=>
   rw[i]at h;cases j:stepOk a b t with
   |false=>rw[j]at h;cases h
   |true=>
    rw[j]at h;cases e:stepT (denote c) p w s t with
    |none=>rw[e]at h;cases h
    |some r=>obtain⟨g,f⟩:=r;rw[e]at h;rw[stepT_spec e];exact BZ h
noncomputable def impG(st:StT):Nat->Od->Uv->Option Od
 |0,_,_=>b4
 | n + 1,s,t => match t.atExitBegin with
  |some []=>b0 s
  |some (_::_)=>b4
  |none=>match st s t with
   |some (b,a)=>impG st n b a
   |none=>b4
theorem eE{a:String->Option Gy}{p:Az}{w:Wv}:∀{n:Nat}{s b:Od}{t:Uv},impG (stepT (denote a) p w) n s t=b0 b->importEnds a p w n s.abs t=b0 b.abs
 |0,_,_,_,h=>by cases h
 | n + 1,s,b,t,h => by
  unfold impG at h;unfold importEnds;cases f:t.atExitBegin with
  |some x=>
   rw[f]at h;cases x with
   |nil=>cases h;rfl
   |cons=>cases h
  |none=>
   rw[f]at h;cases c:stepT (denote a) p w s t with
   |none=>rw[c]at h;cases h
   |some r=>obtain⟨e,d⟩:=r;rw[c]at h;dsimp only;rw[stepT_spec c];exact eE h
def chkU(p:Az)(s₀ s:Af):Bool:=staticsOk (Lw p.main.body) s₀.heap s.heap&&namesBound p s.heap&&gensDone s&&laidKept s₀.heap s.heap
noncomputable def O9(p:Az)(w:Wv)(N:Nat):Option (Af×Af):=
 (toT (Ml (opening p)).1).bind λu=>(impG (Lx (Ly Lz) (opening p) w) N u (Ml (opening p)).2).bind λc=>(Fast.tw14289696077712309145 p c.abs).bind λa=>
 match a.heap.isNs Xb&&a.gens.size==0 with
 |true=>(toT a).bind λv=>(topG (Lx (Ly Lz) p w) (Fast.tw6613529449190102663 a.heap.objs.size (a.heap.nsMap Xb "__annotations__")) N v (topStub p)).bind λb=>b0 (a,b.abs)
 |false=>b4
def rm{p:Az}{w:Wv}{N:Nat}{q:Af×Af}(h:O9 p w N=b0 q)(hc:chkU p q.1 q.2=ba):Vf treeTable p w N=b0 q.2:=by
 unfold O9 at h;rw[<-Fast.te1435165496053646825,<-Fast.te10156331382660048174,<-Fast.te11892475500146522536,<-Fast.te14364793385576792824,<-Fast.te14289696077712309145,<-Fast.te6613529449190102663]at h;unfold Vf fencedOpening;obtain⟨u,j,h⟩:=Ac.mp h;obtain⟨l,i,h⟩:=Ac.mp h;obtain⟨a,g,h⟩:=Ac.mp h;have d:=eE i;rw[BY j]at d;rw[d,An,g,An];unfold topFrom;cases c:(a.heap.isNs Xb&&a.gens.size==0)with
 |false=>rw[c]at h;cases h
 |true=>
  rw[c]at h;obtain⟨v,f,h⟩:=Ac.mp h;obtain⟨k,e,h⟩:=Ac.mp h;cases h;have b:=BZ e;rw[BY f]at b;dsimp only;rw[b,An];unfold chkU at hc;rw[hc]
def mapQ{c b:Type}{p:Az}{w:Wv}{N:Nat}{f:Af->c}{g:Af->b}{v:c}{u:b}(a:(O9 p w N).map (λq=>f q.2)=b0 v)(d:(O9 p w N).map (λq=>(chkU p q.1 q.2,g q.2))=b0 (ba,u)):(Vf treeTable p w N).map (λs=>(f s,g s))=b0 (v,u):=by
 cases e:O9 p w N with
 |none=>rw[e]at a;cases a
 |some q=>
  rw[e]at a d;obtain⟨i,h⟩:=Prod.mk.inj (Cd d);rw[rm e i];exact congrArg b0 (Vg (Cd a) h)
end KK
namespace RR
open PySem
def top(i:Nat):Xf:=PySem.Challenge.pw_lanepacks_k09_whole_plans.main.body.getD i (.Pass ⟨0,0,0,0⟩)
end RR
namespace KK
open PySem PySem.W PySem.Calls PyProof.Rows
def dA(s:Xf):Arguments:=match s with
 |.FunctionDef _ a _ _ _ _ _ _ _ _=>a
 |_=>⟨[],[],b4,[],[],b4,[]⟩
def dB(s:Xf):List Xf:=match s with
 |.FunctionDef _ _ b _ _ _ _ _ _ _=>b
 |_=>[]
def dS(s:Xf):Xd:=match s with
 |.FunctionDef _ _ _ _ _ _ c _ _ _=>c
 |_=>{kind:=.function,names:=[],isGenerator:=bb,isCoroutine:=bb}
abbrev s(x:Wy)(t:Nat):Wr:=.str x t
abbrev e(P:Tw)(x:Wy)(t:Nat)(v:Wr):Pk:=⟨PyData.keyHash P x,s x t,v⟩
abbrev f(a i:Nat)(n:Wy)(d m:Wr):Nat×Xc:=(a,⟨.type "function",b4,.func (fnOf n n (dA (RR.top i)) (dB (RR.top i)) (dS (RR.top i)) d .none .none m b4 (.ref (a-1)) .none),#[]⟩)
abbrev fk(a i:Nat)(n:Wy)(d k m:Wr):Nat×Xc:=(a,⟨.type "function",b4,.func (fnOf n n (dA (RR.top i)) (dB (RR.top i)) (dS (RR.top i)) d k .none m b4 (.ref (a-1)) .none),#[]⟩)
abbrev co(a:Nat)(n:Wy)(t:Nat)(l k:Int)(u:Nat)(x y z v:Wr):Nat×Xc:=(a,⟨.type "code",b4,.fields #[s n t,s n (t+1),s "/claim/cut.py" (t+2),.int l 0,.int k 0,.int 0 0,.int 0 0,.int 3 0,x,.bool ba,.int 181 0,y,.none,z,v,.ref (a-1),.int u 0,.int l 0,s "/claim/cut.py" (u+1)],#[]⟩)
abbrev c(a:Nat)(n:Wy)(t:Nat)(l k:Int)(u:Nat):Nat×Xc:=co a n t l k u (.ref (a-5)) (.ref (a-4)) (.ref (a-3)) (.ref (a-2))
abbrev b(a:Nat)(n:Wy)(t:Nat)(l k:Int)(u:Nat):Nat×Xc:=co a n t l k u (.ref (a-3)) (.ref (a-2)) .none .none
abbrev m:Wr:=s "law_lanepacks_k09_whole_plans" 423
noncomputable def K(P:Tw):Frag:=[(3,⟨.type "dict",b4,.dict #[e P "__name__" 165 (s "law_lanepacks_k09_whole_plans" 423),e P "__doc__" 166 (.none),e P "__package__" 167 (.none),e P "__loader__" 168 (.builtin "__main__.__loader__#opaque"),e P "__spec__" 169 (.none),e P "__annotations__" 170 (.ref 6),e P "__builtins__" 171 (.ref 4),e P "__file__" 173 (s "/claim/cut.py" 172),e P "__cached__" 174 (.none),e P "PackError" 206 (.ref 24),e P "NoBlock" 222 (.ref 37),e P "NoLanes" 238 (.ref 49),e P "MOST_WORD" 242 (.int 999 241),e P "DEEDS" 250 (.ref 52),e P "is_whole" 259 (.ref 59),e P "MOST_SURE" 263 (.int 64 262),e P "MOST_ROWS" 265 (.int 40 264),e P "MOST_PLACE" 267 (.int 63 266),e P "DEED_PARTS" 270 (.ref 60),e P "OTHER_PARTS" 296 (.ref 61),e P "READERS" 299 (.ref 68),e P "WRITERS" 302 (.ref 69),e P "parts_of" 309 (.ref 76),e P "makes_word" 316 (.ref 83),e P "place_of" 323 (.ref 90),e P "names_of" 329 (.ref 95),e P "may_name" 337 (.ref 102),e P "fits" 346 (.ref 109),e P "is_row" 352 (.ref 114),e P "is_block" 363 (.ref 121),e P "LEAST_LANES" 367 (.int 2 366),e P "MOST_LANES" 369 (.int 4 368),e P "is_lanes" 376 (.ref 128),e P "may_follow" 387 (.ref 135),e P "is_pack" 393 (.ref 140),e P "rows_within" 399 (.ref 145),e P "fits_plan" 405 (.ref 150),e P "check_lanes" 413 (.ref 157),e P "is_plan" 422 (.ref 164),e P "_law_cell_at" 434 (.ref 171),e P "_law_mixed" 444 (.ref 178),e P "_law_draw" 453 (.ref 185),e P "_law_pick" 462 (.ref 192),e P "_law_same_truth" 470 (.ref 199),e P "_law_place" 481 (.ref 206),e P "_law_row" 487 (.ref 211),e P "_law_rows" 501 (.ref 218),e P "_law_next" 518 (.ref 225),e P "_law_block" 524 (.ref 230),e P "_law_names" 531 (.ref 237),e P "_law_may" 537 (.ref 242),e P "_law_must" 543 (.ref 247),e P "_law_is_pack" 549 (.ref 252),e P "_law_order" 555 (.ref 257),e P "_law_plan" 561 (.ref 262),e P "_law_mixed_order" 567 (.ref 267),e P "_law_renamed" 573 (.ref 272),e P "_law_good" 584 (.ref 279),e P "law" 590 (.ref 284)] 59,#[]⟩),(52,⟨.type "tuple",b4,.seq #[s "plus" 243,s "minus" 244,s "times" 245,s "least" 246,s "most" 247,s "less" 248,s "over" 249] 0,#[]⟩),f 59 7 "is_whole" (.none) (s "lanepacks.words" 239),c 58 "is_whole" 251 11 3 257,(60,⟨.type "tuple",b4,.seq #[s "row" 268,s "row" 269] 0,#[]⟩),(61,⟨.type "dict",b4,.dict #[e P "number" 271 (.ref 62),e P "pick" 273 (.ref 63),e P "load" 277 (.ref 64),e P "take" 279 (.ref 65),e P "store" 283 (.ref 66),e P "put" 286 (.ref 67)] 6,#[]⟩),(62,⟨.type "tuple",b4,.seq #[s "word" 272] 0,#[]⟩),(63,⟨.type "tuple",b4,.seq #[s "row" 274,s "row" 275,s "row" 276] 0,#[]⟩),(64,⟨.type "tuple",b4,.seq #[s "place" 278] 0,#[]⟩),(65,⟨.type "tuple",b4,.seq #[s "place" 280,s "row" 281,s "row" 282] 0,#[]⟩),(66,⟨.type "tuple",b4,.seq #[s "place" 284,s "row" 285] 0,#[]⟩),(67,⟨.type "tuple",b4,.seq #[s "place" 287,s "row" 288,s "row" 289] 0,#[]⟩),(68,⟨.type "tuple",b4,.seq #[s "load" 297,s "take" 298] 0,#[]⟩),(69,⟨.type "tuple",b4,.seq #[s "store" 300,s "put" 301] 0,#[]⟩),f 76 16 "parts_of" (.none) (s "lanepacks.blocks" 260),c 75 "parts_of" 303 23 1 307,f 83 17 "makes_word" (.none) (s "lanepacks.blocks" 260),c 82 "makes_word" 310 27 1 314,f 90 18 "place_of" (.none) (s "lanepacks.blocks" 260),c 89 "place_of" 317 29 1 321,f 95 19 "names_of" (.none) (s "lanepacks.blocks" 260),b 94 "names_of" 324 31 1 327,f 102 20 "may_name" (.none) (s "lanepacks.blocks" 260),c 101 "may_name" 330 34 2 335,f 109 21 "fits" (.none) (s "lanepacks.blocks" 260),c 108 "fits" 338 36 3 344,f 114 22 "is_row" (.none) (s "lanepacks.blocks" 260),b 113 "is_row" 347 42 2 350,f 121 23 "is_block" (.none) (s "lanepacks.blocks" 260),c 120 "is_block" 353 50 1 361,f 128 27 "is_lanes" (.none) (s "lanepacks.plans" 364),c 127 "is_lanes" 370 67 1 374,f 135 28 "may_follow" (.none) (s "lanepacks.plans" 364),c 134 "may_follow" 377 69 3 385,f 140 29 "is_pack" (.none) (s "lanepacks.plans" 364),b 139 "is_pack" 388 75 3 391,f 145 30 "rows_within" (.none) (s "lanepacks.plans" 364),b 144 "rows_within" 394 84 1 397,f 150 31 "fits_plan" (.none) (s "lanepacks.plans" 364),b 149 "fits_plan" 400 86 3 403,f 157 32 "check_lanes" (.none) (s "lanepacks.plans" 364),c 156 "check_lanes" 406 91 2 411,f 164 33 "is_plan" (.none) (s "lanepacks.plans" 364),c 163 "is_plan" 414 96 3 420,f 171 35 "_law_cell_at" (.none) m,c 170 "_law_cell_at" 425 100 2 432,f 178 36 "_law_mixed" (.none) m,c 177 "_law_mixed" 435 109 3 442,f 185 37 "_law_draw" (.none) m,c 184 "_law_draw" 445 112 3 451,f 192 38 "_law_pick" (.none) m,c 191 "_law_pick" 454 115 3 460,f 199 39 "_law_same_truth" (.none) m,c 198 "_law_same_truth" 463 117 2 468,f 206 40 "_law_place" (.none) m,c 205 "_law_place" 471 119 5 479,f 211 41 "_law_row" (.none) m,b 210 "_law_row" 482 122 5 485,f 218 42 "_law_rows" (.none) m,c 217 "_law_rows" 488 140 4 499,f 225 43 "_law_next" (.none) m,c 224 "_law_next" 502 152 6 516,f 230 44 "_law_block" (.none) m,b 229 "_law_block" 519 163 3 522,f 237 45 "_law_names" (.none) m,c 236 "_law_names" 525 172 1 529,f 242 46 "_law_may" (.none) m,b 241 "_law_may" 532 176 2 535,f 247 47 "_law_must" (.none) m,b 246 "_law_must" 538 181 1 541,f 252 48 "_law_is_pack" (.none) m,b 251 "_law_is_pack" 544 193 3 547,f 257 49 "_law_order" (.none) m,b 256 "_law_order" 550 201 2 553,f 262 50 "_law_plan" (.none) m,b 261 "_law_plan" 556 215 4 559,f 267 51 "_law_mixed_order" (.none) m,b 266 "_law_mixed_order" 562 228 3 565,f 272 52 "_law_renamed" (.none) m,b 271 "_law_renamed" 568 235 2 571,f 279 53 "_law_good" (.none) m,c 278 "_law_good" 574 240 3 582,f 284 54 "law" (.none) m,b 283 "law" 585 247 1 588]
noncomputable def A:List Nat:=[3,52,59,58,60,61,62,63,64,65,66,67,68,69,76,75,83,82,90,89,95,94,102,101,109,108,114,113,121,120,128,127,135,134,140,139,145,144,150,149,157,156,164,163,171,170,178,177,185,184,192,191,199,198,206,205,211,210,218,217,225,224,230,229,237,236,242,241,247,246,252,251,257,256,262,261,267,266,272,271,279,278,284,283]
noncomputable def view:Az:={Oa with main:={PySem.Challenge.pw_lanepacks_k09_whole_plans.main with body:=[1,2,3,5,6,7,9,10,11,12,13,14,15,16,17,18,19,20,21,22,23,25,26,27,28,29,30,31,32,33,35,36,37,38,39,40,41,42,43,44,45,46,47,48,49,50,51,52,53,54].map RR.top}}
abbrev lo:List Wy:=["OTHER_PARTS"]
def kA(P:Tw):A=(K P).map (·.1):=by kernel_rfl
noncomputable def X(s:Af):Bool:=xlAt view [] s&&recOk (RowW.records (OpenRow.toRowW PySem.Challenge.rw_lanepacks_k09_whole_plans.row)) s
noncomputable abbrev H:Hook:=kHook K A kA
abbrev pr:Az:=PySem.Challenge.rw_lanepacks_k09_whole_plans.row.prog
set_option maxRecDepth 100000 in
set_option maxHeartbeats 0 in
theorem rAf(w:Wv):(O9 pr (w.withFollow "special-get-raises" bb) 3994).map (λq=>Mm view lo (Lw pr.main.body) X ba q.2)=b0 (openGood view lo):=by kernel_rfl
set_option maxRecDepth 100000 in
set_option maxHeartbeats 0 in
theorem rBf(w:Wv):(O9 pr (w.withFollow "special-get-raises" bb) 3994).map (λq=>(chkU pr q.1 q.2,H.obs q.2))=b0 ((ba,H.val (w.withFollow "special-get-raises" bb))):=by kernel_rfl
set_option maxRecDepth 100000 in
set_option maxHeartbeats 0 in
theorem rAt(w:Wv):(O9 pr (w.withFollow "special-get-raises" ba) 3994).map (λq=>Mm view lo (Lw pr.main.body) X ba q.2)=b0 (openGood view lo):=by kernel_rfl
set_option maxRecDepth 100000 in
set_option maxHeartbeats 0 in
theorem rBt(w:Wv):(O9 pr (w.withFollow "special-get-raises" ba) 3994).map (λq=>(chkU pr q.1 q.2,H.obs q.2))=b0 ((ba,H.val (w.withFollow "special-get-raises" ba))):=by kernel_rfl
def hl:LeftO pr view lo X H.obs H.val 3994:=λw=>byRow2 "special-get-raises" (P:=λw=>(Vf treeTable pr w 3994).map (λs=>(openSeen view lo (Lw pr.main.body) X ba s,H.obs s))=b0 (openGood view lo,H.val w)) (λw=>mapQ (by rw[Mn];exact rAf w) (rBf w)) (λw=>mapQ (by rw[Mn];exact rAt w) (rBt w)) w
set_option maxRecDepth 100000 in
set_option maxHeartbeats 0 in
theorem said:PySem.Challenge.rw_lanepacks_k09_whole_plans.wellSaid=ba:=by rw[Fast.te9446332074065402090];kernel_rfl
abbrev m0:Wr:=.str "lanepacks.blocks" 260
abbrev m1:Wr:=.str "lanepacks.plans" 364
abbrev m2:Wr:=.str "lanepacks.words" 239
abbrev m3:Wr:=.str "law_lanepacks_k09_whole_plans" 423
end KK
namespace L2
open PySem PySem.Spec PyProof.Rows
abbrev bH:=Sum Int Wy
def JT:bH->Wr->Bool
 |.inl k,v=>Wi k v
 |.inr x,v=>Vh x v
def keyH(w:Wv):bH->Int
 |.inl k=>hashInt k
 |.inr x=>hashStr w x
theorem ZU:∀{k:bH}{v:Wr},JT k v=ba->(∃i t,k=Na i/\v=Kx i t)∨(∃x t,k=Oe x/\v=Nh x t)
 |.inl i,v,h=>by obtain⟨t,e⟩:=Eg (k:=i) (v:=v) h;exact .inl ⟨i,t,rfl,e⟩
 |.inr x,v,h=>by obtain⟨t,e⟩:=Value.isStrOf_shape (x:=x) (v:=v) h;exact .inr ⟨x,t,rfl,e⟩
def mY(i:Int)(t:Tok):JT (.inl i) (.int i t)=ba:=by simp[JT,Wi]
def nV(x:Wy)(t:Tok):JT (.inr x) (.str x t)=ba:=by simp[JT,Vh]
def rC(a b:Int):decide ((Na a:bH)=Na b)=(a==b):=by
 by_cases e:a=b;subst e;simp;have h : ¬ (Na a : bH) = Na b := λq => e (Sum.inl.inj q);rw[decide_eq_false h];exact(beq_eq_false_iff_ne.mpr e).symm
def lF(a b:Wy):decide ((Oe a:bH)=Oe b)=decide (a=b):=by
 by_cases e:a=b;subst e;simp;have h : ¬ (Oe a : bH) = Oe b := λq => e (Sum.inr.inj q);rw[decide_eq_false h,decide_eq_false e]
def ql(a:Int)(b:Wy):decide ((Na a:bH)=Oe b)=bb:=decide_eq_false (λq=>nomatch q)
def qG(a:Wy)(b:Int):decide ((Oe a:bH)=Na b)=bb:=decide_eq_false (λq=>nomatch q)
def a9(prog:Az)(w:Wv):PySem.KeyKind prog w bH where
 is:=JT
 hash:=keyH w
 inj:=λv a b l f=>by
  rcases ZU l with⟨i,t,rfl,rfl⟩|⟨x,t,rfl,rfl⟩;rcases ZU f with⟨j,u,rfl,e⟩|⟨y,u,rfl,e⟩;injection e with c _;rw[c];exact nomatch e;rcases ZU f with⟨j,u,rfl,e⟩|⟨y,u,rfl,e⟩;exact nomatch e;injection e with c _;rw[c]
 byValue:=λk v h=>by
  rcases ZU h with⟨i,t,rfl,rfl⟩|⟨x,t,rfl,rfl⟩<;>rfl
 pyHash:=λd h=>by
  rcases ZU d with⟨i,t,rfl,rfl⟩|⟨x,t,rfl,rfl⟩;exact wpAny_pyHash_int h;exact wpAny_pyHash_str h
 eqBool:=λg d h=>by
  rcases ZU g with⟨i,t,rfl,rfl⟩|⟨x,t,rfl,rfl⟩;rcases ZU d with⟨j,u,rfl,rfl⟩|⟨y,u,rfl,rfl⟩;rw[rC]at h;exact wpAny_eqBool_int h;rw[ql]at h;exact SeqAt.EqAt.int_str i t y u _ _ _ _ h;rcases ZU d with⟨j,u,rfl,rfl⟩|⟨y,u,rfl,rfl⟩;rw[qG]at h;exact SeqAt.EqAt.str_int x t j u _ _ _ _ h;rw[lF]at h;exact wpAny_eqBool_str h
 «strs» :=λk x t v h=>by
  rcases ZU h with⟨i,u,rfl,e⟩|⟨y,u,rfl,e⟩;exact nomatch e
  ·injection e with c _
   subst c;cases v<;>rfl
def E1(prog:Az)(w:Wv)(i:Int)(t:Tok):(a9 prog w).is (.inl i) (.int i t)=ba:=mY i t
def E2(prog:Az)(w:Wv)(x:Wy)(t:Tok):(a9 prog w).is (.inr x) (.str x t)=ba:=nV x t
inductive V where
 |non|bl (b:Bool)|int (i:Int)|str (x:Wy)|byt (b:Array UInt8)|flt (b:UInt64)|ref (a:Ws)|ty (n:String)
 deriving DecidableEq
def bP:V->Wr->Prop
 |.non,u=>u=Value.none
 |.bl b,u=>u=Qk b
 |.int i,u=>∃t,u=Kx i t
 |.str x,u=>∃t,u=Nh x t
 |.byt b,u=>∃t,u=Value.bytes b t
 |.flt b,u=>∃t,u=Wj b t
 |.ref a,u=>u=Bb a
 |.ty n,u=>u=Es n
abbrev bT:List V->List Wr->Prop:=Paired bP
def bT.length{xs:List V}{a:List Wr}(r:bT xs a):xs.length=a.length:=Rm r
theorem bT.get:∀{xs:List V}{a:List Wr}{i:Nat}{x:V},bT xs a->xs[i]?=b0 x->∃u,a[i]?=b0 u/\bP x u
 |_,_,_,_,.nil,e=>by simp at e
 |_,_,0,_,.cons r _,e=>by simp at e;subst e;exact⟨_,rfl,r⟩
 |_,_,i+1,x,.cons _ t,e=>by obtain⟨u,c,b⟩:=bT.get (i:=i) (x:=x) t (by simpa using e);exact⟨u,by simpa using c,b⟩
theorem bT.set{x:V}{u:Wr}(r:bP x u):∀{xs:List V}{a:List Wr}(i:Nat),bT xs a->bT (xs.set i x) (a.set i u)
 |_,_,_,.nil=>.nil
 |_,_,0,.cons _ t=>.cons r t
 |_,_,i+1,.cons q t=>.cons q (bT.set r i t)
theorem bT.append:∀{xs ys:List V}{b a:List Wr},bT xs b->bT ys a->bT (xs++ys) (b++a)
 |_,_,_,_,.nil,s=>s
 |_,_,_,_,.cons r t,s=>.cons r (bT.append t s)
theorem bT.take:∀{xs:List V}{a:List Wr}(n:Nat),bT xs a->bT (xs.take n) (a.take n)
 |_,_,0,_=>.nil
 |_,_,_+1,.nil=>.nil
 |_,_,n+1,.cons r t=>.cons r (bT.take n t)
theorem bT.drop:∀{xs:List V}{a:List Wr}(n:Nat),bT xs a->bT (xs.drop n) (a.drop n)
 |_,_,0,r=>r
 |_,_,_+1,.nil=>.nil
 |_,_,n+1,.cons _ t=>bT.drop n t
def N6:Option V->Option Wr->Prop
 |some v,b0 u=>bP v u
 |none,b4=>True
 |_,_=>False
def KV{κ:Type}:List (κ×V)->List (κ×Wr)->Prop:=Paired λ(p:κ×V) (q:κ×Wr)=>p.1=q.1/\bP p.2 q.2
def kV:bH->V
 |.inl i=>.int i
 |.inr x=>.str x
inductive HO where
 |lst (xs:List V)
 |tup (xs:List V)
 |dK (kvs:List (bH×V))|dT (kvs:List (List bH×V))
 |set (S:Int->Bool) (n:Nat)
 |ins (C dx:Ws) (fs:List (Wy×V))
 |own (x:Ws)
 |xd (fs:List (Wy×V))
 |met (f x:Ws)
 |rng (lo hi:Int)
 |frz (o:Xc) (u:HO)
 |tbl (ps:Array Wr)
 |ext (φ:Wz->Prop)
abbrev Hp:=Ws->Option HO
def Z8(H:Hp)(a:Ws)(o:HO):Hp:=λb=>if b=a then b0 o else H b
def b6{H:Hp}{a:Ws}{o:HO}:Z8 H a o a=b0 o:=by unfold Z8;rw[if_pos rfl]
def a8{H:Hp}{a b:Ws}{o:HO}(h:b≠a):Z8 H a o b=H b:=by unfold Z8;rw[if_neg h]
def qy{H:Hp}{a b:Ws}{o u:HO}(h:H a=b0 o)(h':H b=b0 u)(d:o≠u):a≠b:=by intro e;subst e;rw[h]at h';exact d (Cd h')
def XD{H:Hp}{a b:Ws}{o:HO}(h:H a=b0 o)(h':H b=b4):a≠b:=by intro e;subst e;rw[h]at h';cases h'
section
variable(P:Az)(w:Wv)
def ZY(H:Hp)(h:Wz)(a:Ws):HO->Prop
 |.lst c=>c.length<=sizeLine/\∃(b:List Wr) (n:Nat),bT c b/\h.get? a=b0 {cls:=.type "list",data:=.seq b.toArray n}
 |.tup c=>c.length<=sizeLine/\∃b:List Wr,bT c b/\IsTup h a b.toArray
 |.dK kvs=>kvs.length<=sizeLine/\(a==Ho)=bb/\∃i,KV kvs i/\h.DictOf (a9 P w) a i
 | .dT kvs => kvs.length <= sizeLine /\ (a == Ho) = bb /\ ∃ c : List (List bH × Ws × Wr),
   Paired (λ(p:List bH×V) (q:List bH×Ws×Wr)=>p.1=q.1/\H q.2.1=b0 (.tup (p.1.map kV))/\bP p.2 q.2.2) kvs c∧
   ∃o l r,h.get? a=b0 o/\o.ExactDict/\o.data=.dict l r/\l.toList=c.map (entryOfKey (tupleKind (a9 P w)))/\(c.map (·.1)).Nodup
 |.set S n=>h.SetOf (intKind P w) a S n
 | .ins C e fs => H e = b0 (.own a) /\ fs.length <= 1000 /\ e ≠ a /\ h.get? a = b0 (Vw C e) ∧
   ∃d,h.Ns1 e d/\(∀f,N6 (fs.lookup f) (d f))/\Vx d (fs.map (·.1))
 |.own _=>∃o,h.get? a=b0 o
 |.xd fs=>∃d,h.Ns1 a d/\∀f,N6 (fs.lookup f) (d f)
 |.rng lo m=>∃t u v,h.get? a=b0 {cls:=.type "range",data:=.fields #[.int lo t,.int m u,.int 1 v]}
 |.frz o u=>h.get? a=b0 o/\ZY H h a u
 |.tbl ps=>h.get? a=b0 {cls:=.none,data:=.fields ps}
 |.met f x=>h.get? a=b0 (Tx (.ref f) (.ref x))
 |.ext g=>g h/\(∃o,h.get? a=b0 o)/\∀k j:Wz,g k->(∀o,k.get? a=b0 o->j.get? a=b0 o)->g j
def QB(H:Hp)(h:Wz):Prop:=∀a o,H a=b0 o->ZY P w H h a o
end
section
variable{P:Az}{w:Wv}{H H':Hp}{h h':Wz}{a:Ws}{o:HO}
def ZY.lt(x:ZY P w H h a o):a<h.objs.size:=by
 cases o with
 |lst c=>obtain⟨_,_,_,_,e⟩:=x;exact As e
 |tup c=>obtain⟨_,_,_,p⟩:=x;exact p.lt
 |dK b=>obtain⟨_,_,_,_,o,_,_,e,_⟩:=x;exact As e
 |dT b=>obtain⟨_,_,_,_,o,_,_,e,_⟩:=x;exact As e
 |set S n=>obtain⟨o,_,_,_,e,_⟩:=x;exact As e
 |ins C k fs=>obtain⟨_,_,_,e,_⟩:=x;exact As e
 |own y=>obtain⟨_,e⟩:=x;exact As e
 |xd fs=>obtain⟨_,⟨_,_,_,e,_⟩,_⟩:=x;exact As e
 |rng lo j=>obtain⟨_,_,_,e⟩:=x;exact As e
 |frz i u=>obtain⟨e,_⟩:=x;exact As e
 |tbl g=>exact As (show h.get? a=b0 _ from x)
 |met f y=>exact As (show h.get? a=b0 _ from x)
 |ext d=>obtain⟨_,⟨_,e⟩,_⟩:=x;exact As e
theorem Paired.mapP{e d:Type}{F G:e->d->Prop}:∀{l₁:List e}{c:List d},Paired F l₁ c->(∀a b,F a b->G a b)->Paired G l₁ c
 |_,_,.nil,_=>.nil
 |_,_,.cons r t,f=>.cons (f _ _ r) (Paired.mapP t f)
def ZY.stay(x:ZY P w H h a o)(k:∀b u,(b=a∨H b=b0 (.own a))->h.get? b=b0 u->h'.get? b=b0 u)(G:∀b,H b=b0 (.own a)->H' b=b0 (.own a))(F:∀b xs,H b=b0 (.tup xs)->H' b=b0 (.tup xs)):ZY P w H' h' a o:=by
 induction o with
 |lst xs=>obtain⟨z,l,n,r,e⟩:=x;exact⟨z,l,n,r,k _ _ (.inl rfl) e⟩
 |tup xs=>obtain⟨z,l,r,g,e,c⟩:=x;exact⟨z,l,r,g,k _ _ (.inl rfl) e,c⟩
 |dK s=>obtain⟨z,y,B,r,g,i,j,e,c⟩:=x;exact⟨z,y,B,r,g,i,j,k _ _ (.inl rfl) e,c⟩
 |dT s=>
  obtain⟨z,y,xs,r,g,i,j,e,c⟩:=x;exact⟨z,y,xs,Paired.mapP r λp q z=>⟨z.1,F _ _ z.2.1,z.2.2⟩,g,i,j,k _ _ (.inl rfl) e,c⟩
 |set S n=>obtain⟨g,i,j,t,e,c⟩:=x;exact⟨g,i,j,t,k _ _ (.inl rfl) e,c⟩
 |ins C L fs=>
  obtain⟨d,z,D,e,m,⟨od,i,j,I,c⟩,r⟩:=x;exact⟨G _ d,z,D,k _ _ (.inl rfl) e,m,⟨od,i,j,k _ _ (.inr d) I,c⟩,r⟩
 |own y=>obtain⟨g,e⟩:=x;exact⟨g,k _ _ (.inl rfl) e⟩
 |xd fs=>obtain⟨m,⟨od,i,j,e,c⟩,r⟩:=x;exact⟨m,⟨od,i,j,k _ _ (.inl rfl) e,c⟩,r⟩
 |rng lo K=>obtain⟨t,u,v,e⟩:=x;exact⟨t,u,v,k _ _ (.inl rfl) e⟩
 |frz g u E=>obtain⟨e,q⟩:=x;exact⟨k _ _ (.inl rfl) e,E q⟩
 |tbl A=>
  have e:h.get? a=b0 {cls:=.none,data:=.fields A}:=x;show h'.get? a=b0 {cls:=.none,data:=.fields A};exact k a _ (.inl rfl) e
 |met f y=>
  have e:h.get? a=b0 (Tx (.ref f) (.ref y)):=x;show h'.get? a=b0 (Tx (.ref f) (.ref y));exact k a _ (.inl rfl) e
 |ext J=>obtain⟨p,⟨o,e⟩,st⟩:=x;exact⟨st _ _ p λo q=>k _ _ (.inl rfl) q,⟨o,k _ _ (.inl rfl) e⟩,st⟩
def QB.lt(x:QB P w H h)(e:H a=b0 o):a<h.objs.size:=(x a o e).lt
def QB.fresh(x:QB P w H h)(e:h.objs.size<=a):H a=b4:=by
 cases q:H a with
 |none=>rfl
 |some u=>exact absurd (Bt (x.lt q) e) (By _)
def QB.kept(x:QB P w H h)(k:∀b u,h.get? b=b0 u->h'.get? b=b0 u):QB P w H h':=λa o e=>
 (x a o e).stay (λb u _ q=>k b u q) (λ_ q=>q) λ_ _ q=>q
def QB.laid(x:QB P w H h)(k:∀b u,h.get? b=b0 u->h'.get? b=b0 u)(g:h.objs.size<=a)(new:ZY P w (Z8 H a o) h' a o):QB P w (Z8 H a o) h':=λb u e=>by
 have d:=x.fresh g;by_cases f:b=a;subst f;rw[b6]at e;cases e;exact new;rw[a8 f]at e;exact(x b u e).stay (λc v _ q=>k c v q) (λc q=>by rw[a8 (XD q d)];exact q) λc i q=>by rw[a8 (XD q d)];exact q
end
def Rd(H:Hp)(a:Ws)(u:HO):Prop:=H a=b0 u∨∃o,H a=b0 (.frz o u)
def Rd.ok{P:Az}{w:Wv}{H:Hp}{h:Wz}{a:Ws}{u:HO}(r:Rd H a u)(x:QB P w H h):ZY P w H h a u:=by
 rcases r with r|⟨o,r⟩;exact x a u r;obtain⟨_,q⟩:=x a _ r;exact q
def Mut:Option HO->Prop
 |some (.lst _)=>True
 |some (.dK _)=>True
 |some (.dT _)=>True
 |some (.set _ _)=>True
 |some (.ins _ _ _)=>True
 |some (.ext _)=>True
 |_=>False
section
variable{P:Az}{w:Wv}{H:Hp}{h h':Wz}{x e:Ws}{o':HO}
def QB.write(ok:QB P w H h)(f:Mut (H x))(l:e=x∨H e=b0 (.own x))(k:∀b u,b≠e->h.get? b=b0 u->h'.get? b=b0 u)(i:∃u,h'.get? e=b0 u)
  (new:ZY P w (Z8 H x o') h' x o'):QB P w (Z8 H x o') h':=λb u q=>by
 have m:∀c y,H c=b0 (.own y)->c≠x:=λc y r z=>by subst z;rw[r]at f;exact f
 have o:∀c d,H c=b0 (.tup d)->c≠x:=λc d r z=>by subst z;rw[r]at f;exact f
 by_cases g:b=x;subst g;rw[b6]at q;cases q;exact new;rw[a8 g]at q;by_cases a:b=e;have j:H b=b0 (.own x):=by
  rcases l with z|z;exact absurd (a.trans z) g;rw[a];exact z
 rw[q]at j;cases j;obtain⟨v,n⟩:=i;exact⟨v,by rw[a];exact n⟩;refine (ok b u q).stay (λc v hc r => k c v ?_ r) (λc r => by rw [a8 (m c b r)];exact r) λc d r => by rw [a8 (o c d r)];exact r
 rcases hc with rfl|hc;exact a;rintro rfl;rcases l with z|z;exact m c b hc z;rw[hc]at z;cases z;exact g rfl
end
structure Un(fs ex:List Ws)(H H':Hp)(h h':Wz):Prop where
 keep:∀b o,h.get? b=b0 o->H b=b4->b∉fs->b∉ex->h'.get? b=b0 o
 slot:∀b o,h.get? b=b0 o->H b=b4->b∈fs->b∉ex->∃sl,h'.get? b=b0 {o with slots:=sl}
 free:∀b o,h.get? b=b0 o->H b=b4->b∉ex->H' b=b4
 there:∀b o,h.get? b=b0 o->b∉ex->∃o',h'.get? b=b0 o'
 tups:∀b xs,H b=b0 (.tup xs)->H' b=b0 (.tup xs)
 frzs:∀b o u,H b=b0 (.frz o u)->H' b=b0 (.frz o u)
 tbls:∀b ps,H b=b0 (.tbl ps)->∃more,H' b=b0 (.tbl (ps++more))
section
variable{fs fs' ex ex':List Ws}{H H1 H2:Hp}{h h1 h2 h':Wz}{a x e:Ws}{o:HO}
def Un.any(u:Un fs ex H H1 h h1){b:Ws}{a:Xc}(q:h.get? b=b0 a)(n:H b=b4)(d:b∉ex):∃sl,h1.get? b=b0 {a with slots:=sl}:=by
 by_cases e:b∈fs;exact u.slot b a q n e d;exact⟨a.slots,u.keep b a q n e d⟩
def Un.kept(k:∀b u,h.get? b=b0 u->h'.get? b=b0 u):Un fs ex H H h h':=
 ⟨λb a q _ _ _=>k b a q,λb a q _ _ _=>⟨a.slots,k b a q⟩,λ_ _ _ n _=>n,λb a q _=>⟨a,k b a q⟩,λ_ _ q=>q,λ_ _ _ q=>q,λ_ c q=>⟨#[],by rw[q];simp⟩⟩
def Un.refl:Un fs ex H H h h:=Un.kept λ_ _ q=>q
def Un.laid(k:∀b u,h.get? b=b0 u->h'.get? b=b0 u)(e:h.objs.size<=a)(c:H a=b4):Un fs ex H (Z8 H a o) h h' where
 keep:=λb u q _ _ _=>k b u q
 slot:=λb u q _ _ _=>⟨u.slots,k b u q⟩
 free:=λb u q n _=>by rw[a8 (Bd (Bt (As q) e))];exact n
 there:=λb u q _=>⟨u,k b u q⟩
 tups:=λb d q=>by rw[a8 (XD q c)];exact q
 frzs:=λb u d q=>by rw[a8 (XD q c)];exact q
 tbls:=λb f q=>⟨#[],by rw[a8 (XD q c),q];simp⟩
def Un.write(c:Mut (H x))(m:e=x∨H e=b0 (.own x))(k:∀b u,b≠e->h.get? b=b0 u->h'.get? b=b0 u)(f:∃u,h'.get? e=b0 u):Un fs ex H (Z8 H x o) h h':=by
 have g:∀b,H b=b4->b≠x:=λb n z=>by subst z;rw[n]at c;exact c
 have i:∀b,H b=b4->b≠e:=λb n z=>by
  subst z;rcases m with r|r;exact g b n r;rw[n]at r;cases r
 have d:∀b u,H b=b0 u->¬Mut (b0 u)->b≠x:=λb u q l z=>by subst z;rw[q]at c;exact l c
 refine⟨λb u q n _ _=>k b u (i b n) q,λb u q n _ _=>⟨u.slots,k b u (i b n) q⟩,λb u q n _=>by rw[a8 (g b n)];exact n,λb u q _=>?_,λb j q=>by rw[a8 (d b _ q λz=>z)];exact q,λb u j q=>by rw[a8 (d b _ q λz=>z)];exact q,λb p q=>⟨#[],by rw[a8 (d b _ q λz=>z),q];simp⟩⟩;by_cases a:b=e;subst a;exact f;exact⟨u,k b u a q⟩
end
def trk(h:Wz)(H:Hp):List Ws:=(Ao h.objs.size).filter λa=>(H a).isSome
def G9(h:Wz)(H:Hp):Wz:=W.hideAll h (trk h H)
def pR(h:Wz)(H:Hp):(G9 h H).objs.size=h.objs.size:=W.hideAll_size _ _
def kf{h:Wz}{H:Hp}{b:Ws}{o:Xc}(e:h.get? b=b0 o)(n:H b=b4):(G9 h H).get? b=b0 o:=
 W.hideAll_get _ e λa=>by have q:(H b).isSome=ba:=(Dt.mp a).2;rw[n]at q;simp at q
def rR{h:Wz}{H:Hp}{b:Ws}{o:Xc}(e:(G9 h H).get? b=b0 o):h.get? b=b0 o/\H b=b4:=by
 have a:h.get? b=b0 o:=W.of_hideAll (trk h H) e;refine⟨a,?_⟩;cases q:H b with
 |none=>rfl
 |some x=>
  have c:b∈trk h H:=Dt.mpr ⟨Bj.mpr (As a),by simp[q]⟩;have z:(G9 h H).get? b=b4:=W.hideAll_none (trk h H) c;rw[z]at e;cases e
structure Mod(K:Au)(mg:Wy->Option Wr)(base:Wz):Prop where
 kin:K.In base
 glob:base.Ns Xb mg
 blt:∃mb,base.Ns builtinsNs mb/\∀x:Wy,x≠ "__name__" ->mb x=Bv x
 nolimit:base.NoLimit
structure Cx where
 prog:Az
 w:Wv
 K:Au
 mg:Wy->Option Wr
 base:Wz
 A:Bz
 N:List Wy
 s₀:Af
 H₀:Hp
 env:Env
 outer:List Env
 stack:List Env
 ex:List Ws
 fn:Wy->Bool
 calm:Bool
 pn:List (Ws×Xc)
 xe:Wr->Af->Prop
def frs(l:List Env):List Ws:=l.filterMap (·.frame)
abbrev Cx.fs(X:Cx):List Ws:=frs X.outer
def Vis(a:Xd)(x:Wy):Prop:=a.names.lookup x=b0 .local∨a.names.lookup x=b0 .cell∨a.names.lookup x=b0 .free
def CF(a:Xd)(x:Wy):Prop:=a.names.lookup x=b0 .local∨a.names.lookup x=b0 .cell
def Look(env:Env)(h:Wz)(m:Wy->Option Wr)(x:Wy)(u:Wr):Prop:=
 (env.kindOf x=b0 .local/\m x=b0 u)∨((env.kindOf x=b0 .cell∨env.kindOf x=b0 .free)/\∃c,env.cells.lookup x=b0 c/\h.IsCell c (b0 u))
structure Cx.Ok(X:Cx):Prop where
 mod:Mod X.K X.mg X.base
 kind:X.env.scope.kind=.function
 glob:X.env.globals=Xb
 blt:X.env.builtins=builtinsNs
 above:X.s₀.heap.objs.size<=X.env.locals
 inj:∀x y c,X.env.cells.lookup x=b0 c->X.env.cells.lookup y=b0 c->x=y
 has:∀x,(X.env.kindOf x=b0 .cell∨X.env.kindOf x=b0 .free)->∃c,X.env.cells.lookup x=b0 c
 cab:∀x c,X.fn x=ba->X.env.cells.lookup x=b0 c->X.s₀.heap.objs.size<=c
 hd:X.calm=ba->X.A.handled=b4
 frames:X.A.frames=b0 X.stack
 stk:X.stack=X.outer∨(X.stack=X.env::X.outer/\X.env.frame=b0 X.env.locals)
 exf:∀b∈X.ex,b≠X.env.locals/\∀x c,X.env.cells.lookup x=b0 c->c≠b
 bs:∀b o,X.base.get? b=b0 o->X.s₀.heap.get? b=b0 o/\X.H₀ b=b4
 bsz:X.base.objs.size<=X.s₀.heap.objs.size
 noex:∀b o,X.base.get? b=b0 o->b∉X.ex
 exfs:∀b∈X.ex,b∉X.fs
 funs:X.s₀.heap.FunFrames X.base X.outer
 frf:∀b∈X.fs,X.H₀ b=b4
structure b9(X:Cx)(aa:List (Ws×Xc))(σ:List (Option V))(H:Hp)(s:Af):Prop where
 ok:X.Ok
 os:s.os=X.s₀.os
 bare:Pl s.gens
 base:Un X.fs X.ex X.H₀ H X.s₀.heap s.heap
 loc:∃m,s.heap.Ns X.env.locals m/\∀(i:Nat) (x:Wy) (v:V),X.N[i]?=b0 x->σ[i]?=b0 (b0 v)->Vis X.env.scope x->∃u,bP v u/\Look X.env s.heap m x u
 cell:∀x c,X.env.cells.lookup x=b0 c->∃v,s.heap.IsCell c v
 free:H X.env.locals=b4
 freeC:∀x c,X.env.cells.lookup x=b0 c->H c=b4
 pin:∀p∈X.pn++aa,s.heap.get? p.1=b0 p.2/\H p.1=b4/\p.1≠X.env.locals/\p.1∉X.fs/\∀v,p.2.data≠ .cell v
 hok:QB X.prog X.w H s.heap
 len:σ.length=X.N.length
section
variable{X:Cx}{aa:List (Ws×Xc)}{σ:List (Option V)}{H H':Hp}{s:Af}{h':Wz}
section
variable{o:HO}{g':Array Vi}{t' i:Nat}{d':Drawn}{ch:List Ws}{x:Wy}{M:Model}{E:Wr->Af->Prop}{v:V}{u:Wr}{Q:Unit->Af->Prop}
def Cx.Ok.nofr(ok:X.Ok){b:Ws}{o:Xc}(e:X.base.get? b=b0 o):b∉X.fs:=λa=>by
 have:=(ok.funs.mem a).1
 rw[e]at this;cases this
def b9.bs(I:b9 X aa σ H s):∀b o,X.base.get? b=b0 o->s.heap.get? b=b0 o/\H b=b4:=λb o e=>
 ⟨I.base.keep b o (I.ok.bs b o e).1 (I.ok.bs b o e).2 (I.ok.nofr e) (I.ok.noex b o e),I.base.free b o (I.ok.bs b o e).1 (I.ok.bs b o e).2 (I.ok.noex b o e)⟩
def b9.bk(I:b9 X aa σ H s):∀b o,X.base.get? b=b0 o->s.heap.get? b=b0 o:=λb o e=>(I.bs b o e).1
def b9.mod(I:b9 X aa σ H s):Mod X.K X.mg X.base:=I.ok.mod
def b9.kIn(I:b9 X aa σ H s):X.K.In s.heap:=I.ok.mod.kin.keeps I.bk
def b9.lt(I:b9 X aa σ H s):X.env.locals<s.heap.objs.size:=let ⟨_,a,_⟩:=I.loc;a.lt
def b9.sz(I:b9 X aa σ H s):X.s₀.heap.objs.size<=s.heap.objs.size:=Fl I.ok.above (Mt I.lt)
def b9.nofs(I:b9 X aa σ H s){a:Ws}(h:s.heap.objs.size<=a):a∉X.fs:=λc=>by obtain⟨_,o,b,_⟩:=I.ok.funs.mem c;exact absurd (Bt (As b) (Fl I.sz h)) (By _)
def b9.cne(I:b9 X aa σ H s):∀x c,X.env.cells.lookup x=b0 c->c≠X.env.locals:=λx c e z=>by obtain⟨v,o,d,f⟩:=I.cell x c e;obtain⟨m,⟨g,h,i,a,b,_⟩,_⟩:=I.loc;rw[z,a]at d;cases d;rw[b]at f;cases f
def b9.funs(I:b9 X aa σ H s):s.heap.FunFrames X.base X.outer:=by
 have all:∀(l:List Env),(∀b∈frs l,b∈X.fs)->X.s₀.heap.FunFrames X.base l->s.heap.FunFrames X.base l:=by
  intro l;induction l with
  |nil=>intro _ _;trivial
  |cons n r g=>
   intro f hl;obtain⟨k,⟨L,o,a,j,i,m⟩,h⟩:=hl;have d:L∈X.fs:=f L (by unfold frs;rw[Hh,a];exact Ag);obtain⟨sl,e⟩:=I.base.slot L o i (I.ok.frf L d) d λz=>I.ok.exfs L z d;exact⟨k,⟨L,_,a,j,e,m⟩,g (λb c=>f b (by unfold frs;rw[Hh,a];exact Ai _ c)) h⟩
 exact all X.outer (λ_ c=>c) I.ok.funs
def b9.stack(I:b9 X aa σ H s):s.heap.FunFrames X.base X.stack:=by
 rcases I.ok.stk with e|⟨e,b⟩;rw[e];exact I.funs;rw[e];obtain⟨m,a,_⟩:=I.loc;refine .cons (by rw[I.ok.kind];decide) b a ?_ I.funs;exact Heap.get?_none_of_le (Fl I.ok.bsz I.ok.above)
def b9.stkSub(I:b9 X aa σ H s):∀b∈frs X.stack,b∈X.env.locals::X.fs:=λb a=>by
 rcases I.ok.stk with e|⟨e,c⟩;rw[e]at a;exact Ai _ a;rw[e]at a;unfold frs at a;rw[Hh,c]at a;exact a
def b9.stkFree(I:b9 X aa σ H s):∀b∈frs X.stack,H b=b4:=λb a=>by
 rcases Ak.mp (I.stkSub b a)with e|a;rw[e];exact I.free;obtain⟨_,o,c,_⟩:=I.ok.funs.mem a;exact I.base.free b o c (I.ok.frf b a) λz=>I.ok.exfs b z a
def b9.step(I:b9 X aa σ H s)(g:∀b∈ch,(b∈X.ex∨X.s₀.heap.objs.size<=b)/\b≠X.env.locals/\(∀x c,X.env.cells.lookup x=b0 c->c≠b)/\∀p∈X.pn++aa,p.1≠b)(keep:∀b o,b≠X.env.locals->b∉X.fs->b∉ch->s.heap.get? b=b0 o->H b=b4->h'.get? b=b0 o)(slot:∀b o,b≠X.env.locals->b∈X.fs->b∉ch->s.heap.get? b=b0 o->H b=b4->∃sl,h'.get? b=b0 {o with slots:=sl})(free:∀b o,b∉ch->s.heap.get? b=b0 o->H b=b4->H' b=b4)(there:∀b o,b∉ch->s.heap.get? b=b0 o->∃A,h'.get? b=b0 A)(tups:∀b xs,H b=b0 (.tup xs)->H' b=b0 (.tup xs))(frzs:∀b o u,H b=b0 (.frz o u)->H' b=b0 (.frz o u))(tbls:∀b ps,H b=b0 (.tbl ps)->∃more,H' b=b0 (.tbl (ps++more)))(ns:∀m,s.heap.Ns X.env.locals m->h'.Ns X.env.locals m)(F:QB X.prog X.w H' h')(O:Pl g'):b9 X aa σ H' {s with heap:=h',gens:=g',drawn:=d',toks:=t'}:=by
 have B:∀b o,X.s₀.heap.get? b=b0 o->b≠X.env.locals:=λb o e=>Bd (Bt (As e) I.ok.above);have h:∀b o,X.s₀.heap.get? b=b0 o->b∉X.ex->b∉ch:=λb o e a t=>by
  rcases(g b t).1 with z|z;exact a z;exact absurd (Bt (As e) z) (By _)
 have M:∀x c,X.env.cells.lookup x=b0 c->∀v,s.heap.IsCell c v->h'.IsCell c v:=λx c e v q0=>by
  obtain⟨o,y,G⟩:=q0;have f:c∉ch:=λz=>(g c z).2.2.1 x c e rfl;by_cases hc:c∈X.fs;obtain⟨sl,q⟩:=slot c o (I.cne x c e) hc f y (I.freeC x c e);exact⟨_,q,G⟩;exact⟨o,keep c o (I.cne x c e) hc f y (I.freeC x c e),G⟩
 refine⟨I.ok,I.os,O,⟨λb o e n t a=>?_,λb o e n t a=>?_,λb o e n a=>?_,λb o e a=>?_,λb xs e=>tups b xs (I.base.tups b xs e),λb o xs e=>frzs b o xs (I.base.frzs b o xs e),λb ps e=>?_⟩,?_,λx c e=>?_,?_,λx c e=>?_,λp L=>?_,F,I.len⟩;exact keep b o (B b o e) t (h b o e a) (I.base.keep b o e n t a) (I.base.free b o e n a);obtain⟨sl,j⟩:=I.base.slot b o e n t a;obtain⟨E,C⟩:=slot b _ (B b o e) t (h b o e a) j (I.base.free b o e n a);exact⟨E,C⟩;obtain⟨A,j⟩:=I.base.there b o e a;exact free b A (h b o e a) j (I.base.free b o e n a);obtain⟨A,j⟩:=I.base.there b o e a;exact there b A (h b o e a) j;obtain⟨m1,j⟩:=I.base.tbls b ps e;obtain⟨m2,C⟩:=tbls b _ j;exact⟨m1++m2,by rw[C,Array.append_assoc]⟩;obtain⟨m,N,hl⟩:=I.loc;refine⟨m,ns m N,λi x v j C P=>?_⟩;obtain⟨u,r,l⟩:=hl i x v j C P;refine⟨u,r,?_⟩;rcases l with l|⟨k,c,e,z⟩;exact .inl l;exact .inr ⟨k,c,e,M x c e _ z⟩;obtain⟨v,z⟩:=I.cell x c e;exact⟨v,M x c e v z⟩;obtain⟨m,⟨o,_,_,y,_⟩,_⟩:=I.loc;exact free _ o (λz=>(g _ z).2.1 rfl) y I.free;obtain⟨v,o,y,G⟩:=I.cell x c e;exact free c o (λz=>(g c z).2.2.1 x c e rfl) y (I.freeC x c e);obtain⟨e,n,K,J,d⟩:=I.pin p L;have f:p.1∉ch:=λz=>(g p.1 z).2.2.2 p L rfl;exact⟨keep p.1 p.2 K J f e n,free p.1 p.2 f e n,K,J,d⟩
def b9.un(I:b9 X aa σ H s)(u:Un X.fs [] H H' s.heap h')(c:QB X.prog X.w H' h'):b9 X aa σ H' {s with heap:=h',toks:=t'}:=by
 obtain⟨m,⟨o,t,v,h,r⟩,_⟩:=id I.loc;obtain⟨sl,l⟩:=u.any h I.free (by simp);exact I.step (g':=s.gens) (d':=s.drawn) (ch:=[]) (λ_ z=>nomatch z) (λb o _ d _ e n=>u.keep b o e n d (by simp)) (λb o _ d _ e n=>u.slot b o e n d (by simp)) (λb o _ e n=>u.free b o e n (by simp)) (λb o _ e=>u.there b o e (by simp)) u.tups u.frzs u.tbls (λq k=>by obtain⟨p,f,g,a,j⟩:=k;rw[h]at a;cases a;exact⟨_,f,g,l,j⟩) c I.bare
def b9.call(I:b9 X aa σ H s)(u:Un (frs X.stack) ch H H' s.heap h')(f:QB X.prog X.w H' h')(t:Pl g')(d:∀b∈ch,(b∈X.ex∨X.s₀.heap.objs.size<=b)/\b≠X.env.locals/\(∀x c,X.env.cells.lookup x=b0 c->c≠b)/\∀p∈X.pn++aa,p.1≠b):b9 X aa σ H' {s with heap:=h',gens:=g',drawn:=d',toks:=t'}:=by
 obtain⟨m,⟨o,B,C,j,r⟩,_⟩:=id I.loc;obtain⟨sl,g⟩:=u.any j I.free λz=>(d _ z).2.1 rfl;exact I.step (ch:=ch) d (λb o g v hc e n=>u.keep b o e n (λz=>(Ak.mp (I.stkSub b z)).elim g v) hc) (λb o _ _ hc e n=>u.any e n hc) (λb o hc e n=>u.free b o e n hc) (λb o hc e=>u.there b o e hc) u.tups u.frzs u.tbls (λA q=>by obtain⟨y,h,i,a,l⟩:=q;rw[j]at a;cases a;exact⟨_,h,i,g,l⟩) f t
def b9.turned{it:Ws}(I:b9 X aa σ H s)(k:∀b o,b≠it->s.heap.get? b=b0 o->h'.get? b=b0 o)(h:H it=b4)(f:it≠X.env.locals)(w:it∈X.ex∨X.s₀.heap.objs.size<=it)(t:∀x c,X.env.cells.lookup x=b0 c->c≠it)(l:∀p∈X.pn++aa,p.1≠it):b9 X aa σ H {s with heap:=h',toks:=t'}:=by
 have a:∀b u,H b=b0 u->b≠it:=λb u e z=>by rw[z,h]at e;cases e
 refine I.step (g':=s.gens) (d':=s.drawn) (ch:=[it]) (λb j=>?_) (λb o _ _ hc e _=>k b o (λz=>hc (by simp[z])) e) (λb o _ _ hc e _=>⟨o.slots,k b o (λz=>hc (by simp[z])) e⟩) (λ_ _ _ _ n=>n)
  (λb o hc e=>⟨o,k b o (λz=>hc (by simp[z])) e⟩) (λ_ _ e=>e) (λ_ _ _ e=>e) (λb B e=>⟨#[],by rw[e];simp⟩) (λm i=>?_) (λb u e=>?_) I.bare
 have e : b = it := by simpa using j
 subst e;exact⟨w,f,t,l⟩;obtain⟨o,y,A,g,r⟩:=i;exact⟨o,y,A,k _ o (Dg f) g,r⟩;refine (I.hok b u e).stay (λc v hc q => k c v ?_ q) (λ_ q => q) λ_ _ q => q;rcases hc with z|z;rw[z];exact a b u e;exact a c _ z
def b9.tok(I:b9 X aa σ H s)(t:Nat):b9 X aa σ H {s with toks:=t}:=I.un (h':=s.heap) (t':=t) Un.refl I.hok
def b9.kept(I:b9 X aa σ H s)(k:∀b u,s.heap.get? b=b0 u->h'.get? b=b0 u):b9 X aa σ H {s with heap:=h',toks:=t'}:=I.un (Un.kept k) (I.hok.kept k)
def b9.laid{a:Ws}(I:b9 X aa σ H s)(k:∀b u,s.heap.get? b=b0 u->h'.get? b=b0 u)(c:s.heap.objs.size<=a)(new:ZY X.prog X.w (Z8 H a o) h' a o):b9 X aa σ (Z8 H a o) {s with heap:=h',toks:=t'}:=I.un (Un.laid k c (I.hok.fresh c)) (I.hok.laid k c new)
def b9.write{x e:Ws}(I:b9 X aa σ H s)(c:Mut (H x))(f:e=x∨H e=b0 (.own x))(k:∀b u,b≠e->s.heap.get? b=b0 u->h'.get? b=b0 u)(a:∃u,h'.get? e=b0 u)(new:ZY X.prog X.w (Z8 H x o) h' x o):b9 X aa σ (Z8 H x o) {s with heap:=h',toks:=t'}:=I.un (Un.write c f k a) (I.hok.write c f k a new)
def b9.weak{a:List (Option V)}(I:b9 X aa σ H s)(hl:a.length=σ.length)(w:∀(i:Nat) v,a[i]?=b0 (b0 v)->σ[i]?=b0 (b0 v)):b9 X aa a H s:=
 ⟨I.ok,I.os,I.bare,I.base,let ⟨m,c,b⟩:=I.loc;⟨m,c,λi x v f e d=>b i x v f (w i v e) d⟩,I.cell,I.free,I.freeC,I.pin,I.hok,hl.trans I.len⟩
def b9.pins_of{a:List (Ws×Xc)}(I:b9 X aa σ H s)(h:∀p∈a,s.heap.get? p.1=b0 p.2/\H p.1=b4/\p.1≠X.env.locals/\p.1∉X.fs/\∀v,p.2.data≠ .cell v):b9 X a σ H s:=
 ⟨I.ok,I.os,I.bare,I.base,I.loc,I.cell,I.free,I.freeC,λp b=>(Bq.mp b).elim (λz=>I.pin p (Bw _ z)) (h p),I.hok,I.len⟩
def E7{N:List Wy}(c:N.Nodup){j:Nat}(a:N[i]?=b0 x)(b:N[j]?=b0 x):i=j:=by obtain⟨g,e⟩:=Ap.mp a;obtain⟨f,d⟩:=Ap.mp b;exact(Tg c).mp (e.trans d.symm)
def J8{A:Bz}(I:b9 X aa σ H s)(hN:X.N.Nodup)(K:X.N[i]?=b0 x)(l:CF X.env.scope x)(r:bP v u)(h:∀W,b9 X aa (σ.set i (b0 v)) H W->(∃a,Dw a s.heap W.heap/\(a=X.env.locals∨X.env.cells.lookup x=b0 a))->Q () W)(hf:X.fn x=ba∨X.env.scope.names.lookup x=b0 .local:=by first|exact .inl rfl|exact .inr rfl|assumption):Wt M A (storeName X.env x u) Q E s:=by
 obtain⟨m,hn,hl⟩:=id I.loc;have j3:(X.env.scope.kind== .class || (X.env.scope.kind== .module&&X.env.locals !=X.env.globals))=bb:=by rw[I.ok.kind];rfl
 have C:i<σ.length:=by rw[I.len];exact(Ap.mp K).1
 have cne:=I.cne;have cq:∀{a:Ws}{h':Wz},(∃o,s.heap.get? a=b0 o/\H a=b4)->Dw a s.heap h'->QB X.prog X.w H h':=λ{a h'} ha f b ob e=>by
  obtain⟨_,_,bo⟩:=ha;refine(I.hok b ob e).stay (λc P hc q=>(f.2 c ?_).trans q) (λ_ q=>q) λ_ _ q=>q;rintro rfl;rcases hc with rfl|hc
  rw[bo]at e;cases e;rw[bo]at hc;cases hc
 rcases l with B|B;refine wpAny_storeName_local B hn (λh' hn' f => ?_) j3;obtain⟨oL,_,_,hoL,_⟩:=id hn;refine h _ ⟨I.ok,I.os,I.bare,⟨λb o e n G l=>?_,λb o e n G l=>?_,I.base.free,λb o e l=>?_,I.base.tups,I.base.frzs,I.base.tbls⟩,⟨_,hn',λj y T g t e3=>?_⟩,λy c e=>?_,I.free,I.freeC,λp hp=>?_,cq ⟨oL,hoL,I.free⟩ f,by simpa using I.len⟩ ⟨_,f,.inl rfl⟩;exact(f.2 b (Bd (Bt (As e) I.ok.above))).trans (I.base.keep b o e n G l);obtain⟨sl,g⟩:=I.base.slot b o e n G l;exact⟨sl,(f.2 b (Bd (Bt (As e) I.ok.above))).trans g⟩;obtain⟨Z,g⟩:=I.base.there b o e l;exact⟨Z,(f.2 b (Bd (Bt (As e) I.ok.above))).trans g⟩;by_cases D:j=i;subst D;rw[K]at g;cases g;rw[Dy C]at t;cases t;exact⟨u,r,.inl ⟨B,by simp⟩⟩;rw[Ci (Dg D)]at t;obtain⟨U,Y,q⟩:=hl j y T g t e3;refine⟨U,Y,?_⟩;rcases q with⟨k,e⟩|⟨k,c,e,z⟩;refine .inl ⟨k,?_⟩;have:y≠x:=λe=>D (E7 hN g (e▸K))
 simp[this,e];exact .inr ⟨k,c,e,z.sameBut f (cne y c e)⟩;obtain⟨P,z⟩:=I.cell y c e;exact⟨P,z.sameBut f (cne y c e)⟩;obtain⟨e,n,R,nf,d⟩:=I.pin p hp;exact⟨(f.2 p.1 R).trans e,n,R,nf,d⟩;have F:X.fn x=ba:=by
  rcases hf with z|z;exact z;rw[z]at B;cases B
 obtain⟨c,hc⟩:=I.ok.has x (.inl B);obtain⟨P,z⟩:=I.cell x c hc;refine wpAny_storeName_cell I.ok.kind B hc z (λh' O f=>?_);obtain⟨oc,J,ig⟩:=id z;refine h {s with heap:=h'} ⟨I.ok,I.os,I.bare,⟨λb o e n G l=>?_,λb o e n G l=>?_,I.base.free,λb o e l=>?_,I.base.tups,I.base.frzs,I.base.tbls⟩,⟨m,hn.sameBut f (Dg (cne x c hc)),λj y T g t e3=>?_⟩,λy S e=>?_,I.free,I.freeC,λp hp=>?_,cq ⟨oc,J,I.freeC x c hc⟩ f,by simpa using I.len⟩ ⟨c,f,.inr hc⟩;exact(f.2 b (Bd (Bt (As e) (I.ok.cab x c F hc)))).trans (I.base.keep b o e n G l);obtain⟨sl,g⟩:=I.base.slot b o e n G l;exact⟨sl,(f.2 b (Bd (Bt (As e) (I.ok.cab x c F hc)))).trans g⟩;obtain⟨Z,g⟩:=I.base.there b o e l;exact⟨Z,(f.2 b (Bd (Bt (As e) (I.ok.cab x c F hc)))).trans g⟩;by_cases D:j=i;subst D;rw[K]at g;cases g;rw[Dy C]at t;cases t;exact⟨u,r,.inr ⟨.inl B,c,hc,O⟩⟩;rw[Ci (Dg D)]at t;obtain⟨U,Y,q⟩:=hl j y T g t e3;refine⟨U,Y,?_⟩;rcases q with q|⟨k,S,e,z'⟩;exact .inl q;refine .inr ⟨k,S,e,z'.sameBut f ?_⟩;rintro rfl;exact D (E7 hN g (I.ok.inj _ _ _ e hc▸K));by_cases L:S=c;subst L;exact⟨_,O⟩;obtain⟨w2,z2⟩:=I.cell y S e;exact⟨w2,z2.sameBut f L⟩;obtain⟨e,n,R,nf,d⟩:=I.pin p hp;refine⟨(f.2 p.1 ?_).trans e,n,R,nf,d⟩;intro q;rw[q,J]at e;have q':oc=p.2:=Cd e;exact d P (by rw[<-q'];exact ig)
def XZ{A:Bz}(I:b9 X aa σ H s)(e:X.N.Nodup)(c:X.N[i]?=b0 x)(b:CF X.env.scope x)(r:bP v u)(h:∀a,b9 X aa (σ.set i (b0 v)) H a->Q () a)(d:X.fn x=ba∨X.env.scope.names.lookup x=b0 .local:=by first|exact .inl rfl|exact .inr rfl|assumption):Wt M A (storeName X.env x u) Q E s:=
 J8 I e c b r (λa f _=>h a f) d
def b9.call'{a:Af}(I:b9 X aa σ H s)(k:a.os=s.os)(u:Un (frs X.stack) ch H H' s.heap a.heap)(d:QB X.prog X.w H' a.heap)(l:Pl a.gens)(f:∀b∈ch,(b∈X.ex∨X.s₀.heap.objs.size<=b)/\b≠X.env.locals/\(∀x c,X.env.cells.lookup x=b0 c->c≠b)/\∀p∈X.pn++aa,p.1≠b):b9 X aa σ H' a:=by obtain⟨h',h,i,g,j⟩:=a;have e:j=s.os:=k;subst e;exact I.call (g':=h) (t':=g) (d':=i) u d l f
end
end
abbrev XK:=Wr->Option Ws->Hp->Prop
abbrev St:=List (Option V)
abbrev VK:=V->Hp->Prop
abbrev TE:=St->Hp->VK->Prop
abbrev TT:=St->Hp->(Bool->Hp->Prop)->Prop
abbrev TA:=St->Hp->(List V->Hp->Prop)->Prop
structure GO where
 nx:St->Hp->Prop
 rt:VK
 bk:St->Hp->Prop:=λ_ _=>False
 ct:St->Hp->Prop:=λ_ _=>False
abbrev TS:=GO->St->Hp->Prop
inductive EPi(X:Cx)(aa:List (Ws×Xc))(σ:St)(Q:VK)(u:Wr)(s':Af):Prop
 |mk (v:_) (H':_) (h0:b9 X aa σ H' s') (h1:bP v u) (h2:Q v H'):EPi X aa σ Q u s'
def EP(X:Cx)(c:List (Ws×Xc))(a:St)(Q:VK)(u:Wr)(b:Af):Prop:=EPi X c a Q u b
def TP(X:Cx)(e:List (Ws×Xc))(c:St)(Q:Bool->Hp->Prop)(b:Bool)(d:Af):Prop:=∃a,b9 X e c a d/\Q b a
inductive APi(X:Cx)(aa:List (Ws×Xc))(σ:St)(Q:List V->Hp->Prop)(us:List Wr)(s':Af):Prop
 |mk (vs:_) (H':_) (h0:b9 X aa σ H' s') (h1:bT vs us) (h2:Q vs H'):APi X aa σ Q us s'
def AP(X:Cx)(d:List (Ws×Xc))(a:St)(Q:List V->Hp->Prop)(b:List Wr)(c:Af):Prop:=APi X d a Q b c
def SP(X:Cx)(d:List (Ws×Xc))(D:GO)(f:Flow)(c:Af):Prop:=
 match f with
 |.next=>∃a b,b9 X d a b c/\D.nx a b
 |.brk=>∃a b,b9 X d a b c/\D.bk a b
 |.cont=>∃a b,b9 X d a b c/\D.ct a b
 |.ret u=>∃v a b,b9 X d a b c/\bP v u/\D.rt v b
def PE(X:Cx)(e:Ww)(t:TE):Prop:=
 ∀(b:List (Ws×Xc)) (s:Af) (a:St) (H:Hp) (Q:VK),b9 X b a H s->t a H Q->Wt (Wu X.prog X.w) X.A (eval e X.env) (EP X b a Q) X.xe s
def PT(X:Cx)(e:Ww)(t:TT):Prop:=
 ∀(b:List (Ws×Xc)) (s:Af) (a:St) (H:Hp) (Q:Bool->Hp->Prop),b9 X b a H s->t a H Q->Wt (Wu X.prog X.w) X.A (isTrue e X.env (eval e X.env)) (TP X b a Q) X.xe s
def PW(X:Cx)(e:Ww)(t:TT):Prop:=
 ∀(c:Xi Wr) (b:List (Ws×Xc)) (s:Af) (a:St) (H:Hp) (Q:Bool->Hp->Prop),b9 X b a H s->t a H Q->Wt (Wu X.prog X.w) X.A (isTrue e X.env c) (TP X b a Q) X.xe s
def PW.pt{X:Cx}{e:Ww}{t:TT}(h:PW X e t):PT X e t:=h _
def PA(X:Cx)(es:List Ww)(t:TA):Prop:=
 ∀(b:Pos) (c:List (Ws×Xc)) (s:Af) (a:St) (H:Hp) (Q:List V->Hp->Prop),b9 X c a H s->t a H Q->Wt (Wu X.prog X.w) X.A (spliced (Hk b (Bi es X.env))) (AP X c a Q) X.xe s
def PS(X:Cx)(st:Xf)(t:TS):Prop:=
 ∀(b:List (Ws×Xc)) (s:Af) (a:St) (H:Hp) (D:GO),b9 X b a H s->t D a H->Wt (Wu X.prog X.w) X.A (exec st X.env) (SP X b D) X.xe s
def NL(X:Cx)(st:List Xf)(t:TS):Prop:=
 ∀(b:List (Ws×Xc)) (s:Af) (a:St) (H:Hp) (D:GO),b9 X b a H s->t D a H->Wt (Wu X.prog X.w) X.A (execs st X.env) (SP X b D) X.xe s
def Y7{b:Type}{t:Xi b}{Q c:b->Af->Prop}{M:Model}{A:Bz}{E:Wr->Af->Prop}{s:Af}(h:Wt M A t Q E s)(d:∀a s,Q a s->c a s):Wt M A t c E s:=Cg h d λ_ _ x=>x
section
variable{X:Cx}
section
variable{E Q:Wr->Af->Prop}{u:Wr}{a:Pos}{v:V}
def KY(i:Nat):TE:=λa H Q=>∃v,a[i]?=b0 (b0 v)/\Q v H
def tC(v:V):TE:=λ_ H Q=>Q v H
def DJ{i:Nat}{x:Wy}{d:Pos}(q:X.N[i]?=b0 x)(n:Vis X.env.scope x)(f:(x==("__debug__":Wy))=bb:=by decide)(g:(x==("__classdict__":Wy))=bb:=by decide):PE X (.Name x d) (KY i):=by
 intro t s k H Q I h;obtain⟨v,e,h⟩:=h;obtain⟨m,o,hl⟩:=I.loc;obtain⟨u,r,l⟩:=hl i x v q e n;have b:EP X t k Q u s:=⟨v,H,I,r,h⟩;rcases l with⟨a,p⟩|⟨a,c,hc,j⟩;exact Uw (wpAny_loadName_local I.ok.kind a o p b) f;rcases a with a|a;exact Uw (wpAny_loadName_cell I.ok.kind a hc j b) f;exact Uw (wpAny_loadName_free I.ok.kind a hc j b g) f
def pF{i j pos}:PE X (.Constant (.int i) j pos) (tC (.int i)):=λ_ _ _ H _ I h=>wpAny_Constant_int ⟨.int i,H,I.tok _,⟨_,rfl⟩,h⟩
def mD{b j pos}:PE X (.Constant (.bool b) j pos) (tC (.bl b)):=λ_ _ _ H _ I h=>Constant_bool ⟨.bl b,H,I,rfl,h⟩
def nv{j pos}:PE X (.Constant .none j pos) (tC .non):=λ_ _ _ H _ I h=>Constant_none ⟨.non,H,I,rfl,h⟩
def kW{x j pos}:PE X (.Constant (.str x) j pos) (tC (.str x)):=λ_ _ _ H _ I h=>Calls.Constant_str ⟨.str x,H,I.tok _,⟨_,rfl⟩,h⟩
def Gl(X:Cx)(x:Wy):Prop:=X.env.kindOf x=b0 .globalImplicit
def AG{f:List (Ws×Xc)}{s:Af}{b:St}{H:Hp}{x:Wy}(I:b9 X f b H s)(d:Gl X x)(c:X.mg x=b0 u)(h:Q u s)(e:(x==("__debug__":Wy))=bb:=by decide):Wt (Wu X.prog X.w) X.A (eval (.Name x a) X.env) Q E s:=
 Mo I.ok.kind d (Calls.loadGlobal_global (by rw[I.ok.glob];exact I.mod.glob.keeps I.bk) c h) e
def QW{k:List (Ws×Xc)}{s:Af}{b:St}{H:Hp}{x:Wy}(I:b9 X k b H s)(f:Gl X x)(e:X.mg x=b4)(c:Bv x=b0 u)(h:Q u s)(d:x≠ "__name__":=by decide)(g:(x==("__debug__":Wy))=bb:=by decide):Wt (Wu X.prog X.w) X.A (eval (.Name x a) X.env) Q E s:=by obtain⟨l,j,i⟩:=I.mod.blt;exact Mo I.ok.kind f (Calls.loadGlobal_builtin (by rw[I.ok.glob];exact I.mod.glob.keeps I.bk) e (by rw[I.ok.blt];exact j.keeps I.bk) ((i x d).trans c) h) g
def iP{x:Wy}(c:Gl X x)(b:X.mg x=b0 u)(r:bP v u)(d:(x==("__debug__":Wy))=bb:=by decide):PE X (.Name x a) (tC v):=
 λ_ _ _ H _ I h=>AG I c b ⟨v,H,I,r,h⟩ d
def pD{x:Wy}(e:Gl X x)(d:X.mg x=b4)(b:Bv x=b0 u)(r:bP v u)(c:x≠ "__name__":=by decide)(f:(x==("__debug__":Wy))=bb:=by decide):PE X (.Name x a) (tC v):=
 λ_ _ _ H _ I h=>QW I e d b ⟨v,H,I,r,h⟩ c f
end
variable{a b:Ww}{ta tb:TE}{pos:Pos}
def tB(t:TE):TT:=λa H Q=>t a H λx b=>∃c,x=.bl c/\Q c b
def mX{e:Ww}{t:TE}(h:PE X e t)(f:∀a,isTrue e X.env a=(do let v<-a;Pm e.pos;Nb [v] (truthy v)):=by intro _;rfl):PT X e (tB t):=by intro g s b H Q I hw;refine isTrue_plain (Y7 (h g s b H _ I hw) λv k ⟨x,j,i,c,q1⟩=>?_) (f _);obtain⟨d,rfl,q⟩:=q1;cases c;exact Eh ⟨j,i,q⟩
variable{tA tB':TT}{rest:List Ww}
def tAnd(t u:TT):TT:=λa H Q=>t a H λc b=>if c=ba then u a b Q else Q bb b
def tOr(t u:TT):TT:=λa H Q=>t a H λc b=>if c=ba then Q ba b else u a b Q
def tNot(t:TT):TT:=λa H Q=>t a H λc b=>Q (!c) b
def ka(d:PT X a tA):PW X (.BoolOp .And [a] pos) tA:=by
 intro g f s b H Q I h;refine isTrue_and (Y7 (d f s b H Q I h) λc i e=>?_);cases c with
 |true=>exact isTrue_and_nil e
 |false=>exact e
def sy(d:PT X a tA):PW X (.BoolOp .Or [a] pos) tA:=by
 intro g f s b H Q I h;refine isTrue_or (Y7 (d f s b H Q I h) λc i e=>?_);cases c with
 |false=>exact isTrue_or_nil e
 |true=>exact e
def jJ(l:PT X a tA)(k:PW X (.BoolOp .And (b::rest) pos) tB'):PW X (.BoolOp .And (a::b::rest) pos) (tAnd tA tB'):=by
 intro i e s d H Q I h;refine isTrue_and (Y7 (l e s d H _ I h) λc j ⟨g,f,q1⟩=>?_);cases c with
 |true=>exact k i e j d g Q f q1
 |false=>exact⟨g,f,q1⟩
def jH(l:PT X a tA)(k:PW X (.BoolOp .Or (b::rest) pos) tB'):PW X (.BoolOp .Or (a::b::rest) pos) (tOr tA tB'):=by
 intro i e s d H Q I h;refine isTrue_or (Y7 (l e s d H _ I h) λc j ⟨g,f,q1⟩=>?_);cases c with
 |true=>exact⟨g,f,q1⟩
 |false=>exact k i e j d g Q f q1
def pQ(d:PT X a tA):PT X (.UnaryOp .Not a pos) (tNot tA):=by intro e s b H Q I h;exact isTrue_not (d e s b H (λc f=>Q (!c) f) I h)
def ll(ta tb:TE):TE:=λa H Q=>ta a H λx b=>∃c,x=.bl c/\if c=ba then tb a b Q else Q (.bl bb) b
def tOrV(ta tb:TE):TE:=λa H Q=>ta a H λx b=>∃c,x=.bl c/\if c=ba then Q (.bl ba) b else tb a b Q
def sS(ta:TE):TE:=λa H Q=>ta a H λx b=>∃c,x=.bl c/\Q (.bl (!c)) b
def lq{op}{t:TE}(h:PE X a t):PE X (.BoolOp op [a] pos) t:=λc s b H Q I hw=>BoolOp_one (h c s b H Q I hw)
def mB(l:PE X a ta)(k:PE X (.BoolOp .And (b::rest) pos) tb):PE X (.BoolOp .And (a::b::rest) pos) (ll ta tb):=by
 intro e s d H Q I h;refine BoolOp_and (Y7 (l e s d H _ I h) λv i ⟨x,g,f,j,q1⟩=>?_);obtain⟨c,rfl,q1⟩:=q1;cases j;refine Eh ?_;cases c with
 |true=>exact k e i d g Q f q1
 |false=>exact⟨.bl bb,g,f,rfl,q1⟩
def nJ(l:PE X a ta)(k:PE X (.BoolOp .Or (b::rest) pos) tb):PE X (.BoolOp .Or (a::b::rest) pos) (tOrV ta tb):=by
 intro e s d H Q I h;refine BoolOp_or (Y7 (l e s d H _ I h) λv i ⟨x,g,f,j,q1⟩=>?_);obtain⟨c,rfl,q1⟩:=q1;cases j;refine Eh ?_;cases c with
 |false=>exact k e i d g Q f q1
 |true=>exact⟨.bl ba,g,f,rfl,q1⟩
def lr(e:PE X a ta):PE X (.UnaryOp .Not a pos) (sS ta):=by intro f s b H Q I h;refine UnaryOp_ (Y7 (e f s b H _ I h) λv j ⟨x,i,g,d,q1⟩=>?_);obtain⟨c,rfl,q1⟩:=q1;cases d;exact not_of (Eh ⟨.bl (!c),i,g,rfl,q1⟩)
def tIf(t:TT)(ta tb:TE):TE:=λa H Q=>t a H λc b=>if c=ba then ta a b Q else tb a b Q
def FG{c:Ww}(hc:PT X c tA)(l:PE X a ta)(k:PE X b tb):PE X (.IfExp c a b pos) (tIf tA ta tb):=by
 intro f s e H Q I h;refine wpAny_IfExp (Y7 (hc f s e H _ I h) λd g ⟨j,i,q1⟩=>?_);cases d with
 |true=>exact l f g e j Q i q1
 |false=>exact k f g e j Q i q1
end
def WZ(K:Au)(H:Hp)(a:Ws)(xs:List V):Prop:=
 Rd H a (.lst xs)∨
  ∃(o:Xc) (b:Array Wr) (n:Nat),K.lookup a=b0 o/\o.cls=.type "list" /\o.dict=b4/\o.data=.seq b n/\b.size<=sizeLine/\bT xs b.toList
def nI:List V->Bool
 |.int _::_=>bb
 |_=>ba
def WT(K:Au)(H:Hp)(a:Ws)(xs:List V):Prop:=
 H a=b0 (.tup xs)∨
  ∃(o:Xc) (b:Array Wr) (n:Nat),K.lookup a=b0 o/\o.cls=.type "tuple" /\o.data=.seq b n/\b.size<=sizeLine/\bT xs b.toList/\nI xs=ba
noncomputable def absV:Wr->Option V
 |.none=>b0 .non
 |.bool b=>b0 (.bl b)
 |.int i _=>b0 (.int i)
 |.str x _=>b0 (.str x)
 |.bytes b _=>b0 (.byt b)
 |.float b _=>b0 (.flt b)
 |.ref a=>b0 (.ref a)
 |.type n=>b0 (.ty n)
 |_=>b4
def bP.abs{x:V}{u:Wr}(r:bP x u):absV u=b0 x:=by
 cases x with
 |non=>cases r;rfl
 |bl _=>cases r;rfl
 |int _=>obtain⟨t,rfl⟩:=r;rfl
 |str _=>obtain⟨t,rfl⟩:=r;rfl
 |byt _=>obtain⟨t,rfl⟩:=r;rfl
 |flt _=>obtain⟨t,rfl⟩:=r;rfl
 |ref _=>cases r;rfl
 |ty _=>cases r;rfl
def bP.inj{x y:V}{u:Wr}(r:bP x u)(q:bP y u):x=y:=Cd (r.abs.symm.trans q.abs)
theorem bT.inj:∀{xs ys:List V}{a:List Wr},bT xs a->bT ys a->xs=ys
 |_,_,_,.nil,.nil=>rfl
 |_,_,_,.cons r t,.cons c b=>by rw[r.inj c,bT.inj t b]
section
variable{X:Cx}{aa:List (Ws×Xc)}{σ:St}{H:Hp}{s:Af}{a:Ws}{xs ys:List V}
def WZ.of{K:Au}(h:H a=b0 (.lst xs)):WZ K H a xs:=.inl (.inl h)
def WT.of{K:Au}(h:H a=b0 (.tup xs)):WT K H a xs:=.inl h
def b9.list(I:b9 X aa σ H s)(h:WZ X.K H a xs):∃b:List Wr,bT xs b/\PlainL s.heap a b.toArray/\xs.length<=sizeLine:=by
 rcases h with h|⟨o,b,n,d,hc,f,c,g,r⟩;obtain⟨z,b,n,r,e⟩:=h.ok I.hok;exact⟨b,r,⟨_,n,e,rfl,rfl,rfl⟩,z⟩;refine ⟨b.toList,r,⟨o,n,I.kIn a o d,hc,f,by simpa using c⟩,?_⟩;have e:=r.length;simp only[Dm]at e;lia
def b9.tuple(I:b9 X aa σ H s)(h:WT X.K H a xs):∃b:List Wr,bT xs b/\IsTup s.heap a b.toArray/\xs.length<=sizeLine:=by
 rcases h with h|⟨o,b,n,d,hc,c,f,r,_⟩;obtain⟨z,b,r,p⟩:=I.hok a _ h;exact⟨b,r,p,z⟩;refine ⟨b.toList,r,⟨o,I.kIn a o d,hc,n,by simpa using c⟩,?_⟩;have e:=r.length;simp only[Dm]at e;lia
def b9.list_inj(I:b9 X aa σ H s)(h:WZ X.K H a xs)(h':WZ X.K H a ys):xs=ys:=by
 obtain⟨c,r,⟨o,n,e,_,_,d⟩,_⟩:=I.list h;obtain⟨b,i,⟨k,l,f,_,_,g⟩,_⟩:=I.list h';rw[e]at f;cases f;rw[d]at g;injection g with j _;have:c=b:=by simpa using congrArg Vy j
 subst this;exact r.inj i
def b9.tuple_inj(I:b9 X aa σ H s)(h:WT X.K H a xs)(h':WT X.K H a ys):xs=ys:=by
 obtain⟨c,r,⟨o,e,_,n,d⟩,_⟩:=I.tuple h;obtain⟨b,i,⟨k,f,_,l,g⟩,_⟩:=I.tuple h';rw[e]at f;cases f;rw[d]at g;injection g with j _;have:c=b:=by simpa using congrArg Vy j
 subst this;exact r.inj i
end
abbrev Cx.wish(X:Cx)(E:Wr->Af->Prop):Cx:={X with xe:=E}
abbrev Cx.nox(X:Cx):Cx:=X.wish λ_ _=>False
def Cx.Ok.wish{X:Cx}(ok:X.Ok)(E:Wr->Af->Prop):(X.wish E).Ok:=
 ⟨ok.mod,ok.kind,ok.glob,ok.blt,ok.above,ok.inj,ok.has,ok.cab,ok.hd,ok.frames,ok.stk,ok.exf,ok.bs,ok.bsz,ok.noex,ok.exfs,ok.funs,ok.frf⟩
def Cx.Ok.unwish{X:Cx}{E:Wr->Af->Prop}(ok:(X.wish E).Ok):X.Ok:=
 ⟨ok.mod,ok.kind,ok.glob,ok.blt,ok.above,ok.inj,ok.has,ok.cab,ok.hd,ok.frames,ok.stk,ok.exf,ok.bs,ok.bsz,ok.noex,ok.exfs,ok.funs,ok.frf⟩
section
variable{X:Cx}{aa:List (Ws×Xc)}{σ:St}{H:Hp}{s:Af}{E:Wr->Af->Prop}
def b9.wish(I:b9 X aa σ H s)(E:Wr->Af->Prop):b9 (X.wish E) aa σ H s:=⟨I.ok.wish E,I.os,I.bare,I.base,I.loc,I.cell,I.free,I.freeC,I.pin,I.hok,I.len⟩
def b9.unwish(I:b9 (X.wish E) aa σ H s):b9 X aa σ H s:=⟨I.ok.unwish,I.os,I.bare,I.base,I.loc,I.cell,I.free,I.freeC,I.pin,I.hok,I.len⟩
def SP.unwish{D:GO}{f:Flow}{c:Af}(h:SP (X.wish E) aa D f c):SP X aa D f c:=by
 cases f with
 |next=>obtain⟨a,b,I,q⟩:=h;exact⟨a,b,I.unwish,q⟩
 |brk=>obtain⟨a,b,I,q⟩:=h;exact⟨a,b,I.unwish,q⟩
 |cont=>obtain⟨a,b,I,q⟩:=h;exact⟨a,b,I.unwish,q⟩
 |ret u=>obtain⟨v,a,b,I,r,q⟩:=h;exact⟨v,a,b,I.unwish,r,q⟩
def NL.nox{st:List Xf}{t:TS}(h:NL X.nox st t):NL X st t:=λaa s σ H D I hw=>
 Cg (h aa s σ H D (I.wish _) hw) (λ_ _ q=>q.unwish) λ_ _ z=>Im z
end
section
variable{X:Cx}{st:Xf}{rest:List Xf}{t u:TS}{e:Ww}{te:TE}{pos:Pos}
def oS:TS:=λD a H=>D.nx a H
def tSeq(t u:TS):TS:=λD a H=>t {D with nx:=u D} a H
def BD:NL X [] oS:=λ_ _ a H _ I h=>Pp ⟨a,H,I,h⟩
def FO(g:PS X st t)(e:NL X rest u):NL X (st::rest) (tSeq t u):=by
 intro b s c H D I h;refine wpAny_execs_cons (Y7 (g b s c H {D with nx:=u D} I h) λf d q=>?_);cases f with
 |next=>
  obtain⟨a,j,i,q⟩:=q;exact e b d a j D i q
 |ret v=>exact q
 |brk=>exact q
 |cont=>exact q
def b9.quiet{b:List (Ws×Xc)}{a:St}{H:Hp}{s:Af}(I:b9 X b a H s):interactive X.env=bb:=by simp[interactive,I.ok.kind]
def sE(te:TE):TS:=λD a H=>te a H λ_ b=>D.nx a b
def BB(b:PE X e te)(hs:Jm e b4 pos.line X.env=pure bb:=by rfl):PS X (.Expr e pos) (sE te):=by intro c s a H D I h;exact wpAny_Expr_any (Y7 (b c s a H _ I h) λv g ⟨x,f,d,i,q1⟩=>⟨a,f,d,q1⟩) I.quiet hs
def tRet(te:TE):TS:=λD a H=>te a H D.rt
def eY(c:PE X e te):PS X (.Return (b0 e) pos) (tRet te):=by intro d s a H D I h;exact wpAny_Return_some (Y7 (c d s a H _ I h) λv i ⟨x,g,f,b,q1⟩=>⟨x,a,g,f,b,q1⟩)
def tIfS(c:TT)(t u:TS):TS:=λD a H=>c a H λb d=>if b=ba then t D a d else u D a d
def lf{c:Ww}{a b:List Xf}{g:TT}(hc:PT X c g)(m:NL X a t)(l:NL X b u):PS X (.If c a b pos) (tIfS g t u):=by
 intro f s e H D I h;refine wpAny_If (Y7 (hc f s e H _ I h) λd i ⟨k,j,q1⟩=>?_);cases d with
 |true=>exact m f i e k D j q1
 |false=>exact l f i e k D j q1
end
abbrev TG:=V->St->Hp->(St->Hp->Prop)->Prop
abbrev TGs:=List V->St->Hp->(St->Hp->Prop)->Prop
def PG(X:Cx)(f:Ww)(t:TG):Prop:=
 ∀(c:List (Ws×Xc)) (s:Af) (b:St) (H:Hp) (v:V) (u:Wr) (Q:St->Hp->Prop),b9 X c b H s->bP v u->t v b H Q->
  Wt (Wu X.prog X.w) X.A (assign f X.env u) (λ_ e=>∃a d,b9 X c a d e/\Q a d) X.xe s
def PGs(X:Cx)(g:List Ww)(t:TGs):Prop:=
 ∀(e:List (Ws×Xc)) (s:Af) (b:St) (H:Hp) (c:List V) (d:List Wr) (Q:St->Hp->Prop),b9 X e b H s->bT c d->t c b H Q->
  Wt (Wu X.prog X.w) X.A (Xh ((Wx g X.env).map (·.2)) d) (λ_ h=>∃a f,b9 X e a f h/\Q a f) X.xe s
abbrev TSet:=V->V->V->Hp->(Hp->Prop)->Prop
def PSet(X:Cx)(t:TSet):Prop:=
 ∀(d:List (Ws×Xc)) (s:Af) (a:St) (H:Hp) (o i v:V) (b c u:Wr) (Q:Hp->Prop),b9 X d a H s->bP o b->bP i c->bP v u->t o i v H Q->
  Wt (Wu X.prog X.w) X.A (setItem b c u) (λ_ f=>∃e,b9 X d a e f/\Q e) X.xe s
section
variable{X:Cx}{pos:Pos}
def Xk(i:Nat):TG:=λv a H Q=>Q (a.set i (b0 v)) H
def RS{i:Nat}{x:Wy}(d:X.N.Nodup)(b:X.N[i]?=b0 x)(a:CF X.env.scope x)(c:X.fn x=ba∨X.env.scope.names.lookup x=b0 .local:=by first|exact .inl rfl|exact .inr rfl|assumption):PG X (.Name x pos) (Xk i):=by intro j s f H v u Q I r h;exact Kg (XZ I d b a r (λg e=>⟨_,H,e,h⟩) c)
def gNil:TGs:=λb a H Q=>b=[]/\Q a H
def sD(t:TG)(u:TGs):TGs:=λc b H Q=>∃v r,c=v::r/\t v b H λa d=>u r a d Q
def HP:PGs X [] gNil:=by intro d s a H b c Q I r h;obtain⟨e,h⟩:=h;subst e;cases r;exact Kh ⟨a,H,I,h⟩
def UR{e:Ww}{es:List Ww}{t:TG}{u:TGs}(i:PG X e t)(g:PGs X es u)(hs:(Wx (e::es) X.env).map (·.2)=assign e X.env::(Wx es X.env).map (·.2):=by rfl):PGs X (e::es) (sD t u):=by
 intro b s c H m o Q I r h;obtain⟨v,n,j,h⟩:=h;subst j;cases r with
 |cons r f=>
  rw[hs];refine Ey (Y7 (i b s c H _ _ _ I r h) λ_ d ⟨a,l,k,q1⟩=>?_);exact g b d a l _ _ Q k f q1
def gTup(K:Au)(n:Nat)(t:TGs):TG:=λv c H Q=>∃a b,v=.ref a/\WT K H a b/\b.length=n/\t b c H Q
def jN{es:List Ww}{k:Nat}{t:TGs}{n:Nat}(hc:X.calm=ba)(h:PGs X es t)(q:(Wx es X.env).length=n:=by rfl)(VC:(Wx es X.env).findIdx? (·.1)=b4:=by rfl):PG X (.Tuple es k pos) (gTup X.K n t):=by intro g s c H v u Q I r hw;obtain⟨a,i,x,p,hl,hw⟩:=hw;subst x;cases r;obtain⟨j,d,m,z⟩:=I.tuple p;refine assign_Tuple_tuple (I.ok.hd hc) m (by simp[q,<-hl,d.length]) VC λw l=>?_;have y:b9 X g c H {s with heap:=w}:=I.kept (t':=s.toks) λb o e=>l b o (Bd (As e)) e;exact h g _ c H i _ Q y (by simpa using d) hw
def gSub(to b:TE)(t:TSet):TG:=λv a H Q=>to a H λo e=>b a e λi d=>t o i v d λc=>Q a c
def kL{o i:Ww}{to e:TE}{t:TSet}(l:PE X o to)(m:PE X i e)(hs:PSet X t)(n:∀v,assign (.Subscript o i pos) X.env v=(do
   let a<-Nb [v] (eval o X.env)
   let b<-Nb [v,a] (eval i X.env)
   Pm pos
   Nb [v,a,b] (setItem a b v)
   release [v,a,b] []):=by intro _;rfl):PG X (.Subscript o i pos) (gSub to e t):=by
 intro d s c H v u Q I r h;rw[n];refine Aa (Bu (Y7 (l d s c H _ I h) λa g ⟨x,B,w,k,q1⟩=>?_));refine Aa (Bu (Y7 (m d g c B _ w q1) λb f ⟨y,A,q,j,q2⟩=>?_));refine Aa (Go (Aa (Bu (Y7 (hs d f c A x y v a b u _ q k j r q2) λ_ C ⟨z,p,q3⟩=>?_))));exact wpAny_release ⟨c,z,p,q3⟩
def tAsg(b:TE)(g:TG):TS:=λD a H=>b a H λx c=>g x a c D.nx
def MG{a e:Ww}{c:TE}{g:TG}(k:PE X e c)(j:PG X a g)(hs:Ft [a] e pos.line X.env=pure bb:=by rfl)(hw:Fu [a] e X.env=pure b4:=by rfl)(l:(Wx [a] X.env).map (·.2)=[assign a X.env]:=by rfl):PS X (.Assign [a] e pos) (tAsg c g):=by intro d s b H D I h;refine wpAny_Assign_stores (Y7 (k d s b H _ I h) λv f ⟨x,n,m,i,q1⟩=>?_) hs hw;rw[l];exact Y7 (j d f b n x v _ m i q1) λ_ o q=>q
def iY{i:Nat}{x:Wy}{e:Ww}{a:TE}{b:Pos}(l:X.N.Nodup)(g:X.N[i]?=b0 x)(f:CF X.env.scope x)(k:PE X e a)(hs:Jm e (b0 (.Name x b)) pos.line X.env=pure bb:=by rfl)(j:X.fn x=ba∨X.env.scope.names.lookup x=b0 .local:=by first|exact .inl rfl|exact .inr rfl|assumption):PS X (.Assign [.Name x b] e pos) (tAsg a (Xk i)):=by intro m s c H D I h;refine wpAny_Assign_Name (Y7 (k m s c H _ I h) λv r ⟨y,p,o,d,q1⟩=>?_) hs;exact XZ o l g f d (λq n=>⟨_,p,n,q1⟩) j
def tPar(i j:Nat)(c:TA):TS:=λD a H=>c a H λb d=>∃v w,b=[v,w]/\D.nx ((a.set i (b0 v)).set j (b0 w)) d
def mE{i j:Nat}{x y:Wy}{a b:Ww}{u:TA}{m l pt:Pos}{kt k2 pt2}(hc:X.calm=ba)(E:X.N.Nodup)(S:X.N[i]?=b0 x)(R:X.N[j]?=b0 y)(r:i≠j)(B:X.env.scope.names.lookup x=b0 .local)(z:X.env.scope.names.lookup y=b0 .local)(T:PA X [a,b] u)(hw:Fu [.Tuple [.Name x m,.Name y l] kt pt] (.Tuple [a,b] k2 pt2) X.env=pure (b0 [x,y]))(hs:Ft [.Tuple [.Name x m,.Name y l] kt pt] (.Tuple [a,b] k2 pt2) pos.line X.env=pure bb:=by rfl):PS X (.Assign [.Tuple [.Name x m,.Name y l] kt pt] (.Tuple [a,b] k2 pt2) pos) (tPar i j u):=by
 intro G s t H D I h;rw[exec_Assign_arm];refine Aa (Go ?_);rw[hs];refine Aa (Ad ?_);rw[if_neg (by decide)];refine Aa (Tuple_ (Y7 (T _ G s t H _ I h) λL g ⟨vs,K,Z,O,q1⟩=>?_));obtain⟨v,w,U,q1⟩:=q1;subst U;obtain⟨f,d,rfl,M,k⟩:∃f d,L=[f,d]/\bP v f/\bP w d:=by
  cases O with
  |cons p q=>
   cases q with
   |cons Q P=>
    cases P;exact⟨_,_,rfl,p,Q⟩
 refine Cp ?_ (by show 2<=sizeLine;decide);have Y:b9 X G t K {g with heap:=g.heap.push {cls:=.type "tuple",data:=.seq [f,d].toArray}}:=Z.kept (t':=g.toks) λb o e=>Ae _ e;rw[hw];refine Aa (Ad ?_);show Wt (Wu X.prog X.w) X.A (do rule "assign.swapped-stores";let c<-Ma (.ref g.heap.objs.size) 2 b4;Xh [λv=>Lo X.env y v,λv=>Lo X.env x v] c.reverse;pure Flow.next) _ _ _;refine Aa (Gh (Aa (Si (items:= #[f,d]) (I.ok.hd hc) (Ni g.heap _) λF n=>?_)));have W:=Y.kept (h':=F) (t':=g.toks) λb o e=>n b o (Bd (As e)) e;show Wt _ _ (Xh [λv=>Lo X.env y v,λv=>Lo X.env x v] [d,f]>>=λ_=>pure Flow.next) _ _ _;refine Aa (Ey (Kt (XZ W E R (.inl z) k (λs2 V=>?_) (.inr z))));refine Ey (Kt (XZ V E S (.inl B) M (λs3 J=>Kh (Ad ?_)) (.inr B)));rw[Ez _ _ (Dg r)]at J;exact⟨_,K,J,q1⟩
end
section
variable{X:Cx}{pos:Pos}
def oZ(c:TT)(h:TS):TS:=λD a H=>∃W:Nat->St->Hp->Prop,(∃m,W m a H)/\∀m a H,W m a H->
 c a H λb f=>if b=ba then∃N:St->Hp->Prop,(∀d g,N d g->∃e,e<m/\W e d g)/\h {D with nx:=N,ct:=N,bk:=D.nx} a f else D.nx a f
def su{c:Ww}{body:List Xf}{p:TT}{q:TS}(r:Tz (Wu X.prog X.w) X.A X.env X.xe)(hc:PT X c p)(K:NL X body q):PS X (.While c body [] pos) (oZ p q):=by
 intro m s B H D I h;obtain⟨W,⟨m0,E⟩,turn⟩:=h;refine wpAny_While (codeAny_whileLoop (λn J=>∃e z,b9 X m e z J/\W n e z) ?_ m0 ⟨B,H,I,E⟩);rintro n G ⟨d,y,L,C⟩;refine Ha r (Y7 (hc m G d y _ L (turn n d y C)) λb F ⟨x,u,q2⟩=>?_);cases b with
 |true=>
  obtain⟨N,t,q2⟩:=q2;rw[if_pos rfl];refine Ha r (Y7 (K m F d x _ u q2) λf M q3=>?_);cases f with
  |next=>
   obtain⟨a,g,o,j⟩:=q3;obtain⟨k,l,i⟩:=t a g j;exact⟨k,l,a,g,o,i⟩
  |cont=>
   obtain⟨a,g,o,j⟩:=q3;obtain⟨k,l,i⟩:=t a g j;exact⟨k,l,a,g,o,i⟩
  |brk=>exact q3
  |ret v=>exact q3
 |false=>
  rw[if_neg Db];exact Pp ⟨d,x,u,q2⟩
end
structure It where
 go:Nat->Hp->Prop
 yld:Nat->Hp->V->Hp->Prop
 stop:Nat->Hp->Prop
def K5(X:Cx)(a:List (Ws×Xc))(H:Hp)(b:Ws):Prop:=
 H b=b4/\b≠X.env.locals/\b∉X.fs/\(b∈X.ex∨X.s₀.heap.objs.size<=b)/\(∀x c,X.env.cells.lookup x=b0 c->c≠b)/\∀p∈X.pn++a,p.1≠b
def b9.fpOk{X:Cx}{d:List (Ws×Xc)}{g:St}{H f:Hp}{s:Af}{b:Ws}(I:b9 X d g H s)(a:s.heap.objs.size<=b)(i:f b=b4):K5 X d f b:=by
 refine⟨i,Hg (Bt I.lt a),I.nofs a,.inr (Fl I.sz a),λx c e z=>?_,λp h z=>?_⟩;obtain⟨v,q⟩:=I.cell x c e;exact absurd (Bt q.lt (by rw[z];exact a)) (By _);exact absurd (Bt (As (I.pin p h).1) (by rw[z];exact a)) (By _)
structure CK(P:Az)(w:Wv)(K:Au)(tg:Ww)(J:It)(fp:List Ws)(it:Ws)(tn:Nat->Wz->Prop):Prop where
 mem:it∈fp
 obj:∀i h,tn i h->∀b∈fp,∃o,h.get? b=b0 o/\∀v,o.data≠ .cell v
 keep:∀i h h',tn i h->(∀b∈fp,∀o,h.get? b=b0 o->h'.get? b=b0 o)->tn i h'
 item:∀(X:Cx),X.prog=P->X.w=w->X.K=K->X.calm=ba->∀(i:Nat) (aa:List (Ws×Xc)) (s:Af) (σ:St) (H:Hp) (E:Wr->Af->Prop),b9 X aa σ H s->(∀b∈fp,K5 X aa H b)->tn i s.heap->J.go i H->
  Wt (Wu P w) X.A (pyNext (.ref it)) (λr s1=>∃u,r=b0 u∧
   Wt (Wu P w) X.A (Ic tg (.ref it) u) (λ_ s2=>∃x H',b9 X aa σ H' s2/\bP x u/\J.yld i H x H'/\tn (i+1) s2.heap/\∀b∈fp,H' b=b4) E s1) E s
 done:∀(X:Cx),X.prog=P->X.w=w->X.K=K->X.calm=ba->∀(i:Nat) (aa:List (Ws×Xc)) (s:Af) (σ:St) (H:Hp) (E:Wr->Af->Prop),b9 X aa σ H s->(∀b∈fp,K5 X aa H b)->tn i s.heap->J.stop i H->
  Wt (Wu P w) X.A (pyNext (.ref it)) (λr s1=>r=b4/\b9 X aa σ H s1) E s
 self:∀(A:Bz) (i:Nat) (s:Af) (Q:Wr->Af->Prop) (E:Wr->Af->Prop),tn i s.heap->Q (.ref it) s->Wt (Wu P w) A (Tc (.ref it)) Q E s
abbrev TI:=St->Hp->(It->Hp->Prop)->Prop
def PIE(X:Cx)(h:List (Ws×Xc))(i:St)(j:Ww)(R:It->Hp->Prop)(a:Wr)(e:Af):Prop:=
 ∃(f:Ws) (g:List Ws) (d:Nat->Wz->Prop) (J:It) (c:Hp),a=.ref f/\b9 X h i c e/\CK X.prog X.w X.K j J g f d/\d 0 e.heap/\(∀b∈g,K5 X h c b)/\R J c
def PI(X:Cx)(d iter:Ww)(c:TI):Prop:=
 ∀(b:List (Ws×Xc)) (s:Af) (a:St) (H:Hp) (R:It->Hp->Prop),b9 X b a H s->c a H R->
  Wt (Wu X.prog X.w) X.A (eval iter X.env) (λv e=>Wt (Wu X.prog X.w) X.A (Tc v) (PIE X b a d R) X.xe e) X.xe s
def Xx{M:Model}{A:Bz}{E:Wr->Af->Prop}{s:Af}{b:Ww}{it:Ws}{u:Wr}{o:Xc}{n:String}{vs:Array Wr}{Q:Unit->Af->Prop}(c:s.heap.get? it=b0 o)(hc:o.cls= .type n)(e:o.data= .fields vs)(d:["enumerate","zip","dict_itemiterator","dict_reverseitemiterator","odict_iterator","itertools.zip_longest","itertools.pairwise"].contains n=bb)(a:Q () s):Wt M A (Ic b (.ref it) u) Q E s:=by
  unfold Ic;cases b<;>first
    |exact Ad a
    |(cases u<;>first
        |exact Ad a
        | (refine Aa (Ux c ?_)
           rw[hc,e];show Wt M A (if(["enumerate","zip","dict_itemiterator","dict_reverseitemiterator","odict_iterator","itertools.zip_longest","itertools.pairwise"].contains n&&vs[0]? ==b0 (rawInt _))=ba then _ else _) Q E s;rw[if_neg (by intro h;rw[d,Ku]at h;cases h)];exact Ad a))
def Itl(K:Au)(a:Ws):It:=
 ⟨λi H=>∃b x,WZ K H a b/\b[i]?=b0 x,λi H x c=>c=H/\∀b,WZ K H a b->b[i]?=b0 x,λi H=>∃b,WZ K H a b/\b.length<=i⟩
def Itt(K:Au)(a:Ws):It:=
 ⟨λi H=>∃b x,WT K H a b/\b[i]?=b0 x,λi H x c=>c=H/\∀b,WT K H a b->b[i]?=b0 x,λi H=>∃b,WT K H a b/\b.length<=i⟩
def Itr(lo:Int)(n:Nat):It:=⟨λi _=>i<n,λi H x a=>a=H/\x=.int (lo+i),λi _=>n<=i⟩
def rO{P:Az}{w:Wv}{K:Au}{M:Ww}(a it:Ws):CK P w K M (Itl K a) [it] it (λi h=>h.IsListIter it a i) where
 mem:=by simp
 obj:=λi h st b f=>by
  have e:b=it:=by simpa using f
  subst e;obtain⟨o,e,c,d⟩:=st;exact⟨o,e,λv z=>by rw[d]at z;cases z⟩
 keep:=λi h n st k=>st.at λo e=>k it (by simp) o e
 item:=by intro X A hw B hc i J s G H E I m st y;subst A hw B;obtain⟨L,x,l,t⟩:=y;obtain⟨r,q,p,Q⟩:=I.list l;obtain⟨u,S,O⟩:=q.get t;obtain⟨F,f1,f2,f3,D,C⟩:=m it (by simp);refine Pd st p.isList (x:=u) (by simpa using S) λn g N=>?_;have U:b9 X J G H {s with heap:=n}:=I.turned (t':=s.toks) (λb o f e=>(N.2 b f).trans e) F f1 f3 D C;obtain⟨o,e,c,d⟩:=id g;exact⟨u,rfl,Xx (s:={s with heap:=n}) e c d (by decide) ⟨x,H,U,O,⟨rfl,λV R=>by rw[I.list_inj R l];exact t⟩,g,λb f=>(m b f).1⟩⟩
 done:=by intro X A hw B hc i J s G H E I m st y;subst A hw B;obtain⟨L,l,t⟩:=y;obtain⟨r,q,p,Q⟩:=I.list l;obtain⟨F,f1,f2,f3,D,C⟩:=m it (by simp);have hl:=q.length;exact Pq (I.ok.hd hc) st p.isList (by simp;lia) λn T=>⟨rfl,I.turned (t':=s.toks) (λb o f e=>T b o f e) F f1 f3 D C⟩
 self:=λ_ _ _ _ _ st h=>wpAny_pyIter_listiter st h
def D6{P:Az}{w:Wv}{K:Au}{M:Ww}(a it:Ws):CK P w K M (Itt K a) [it] it (λi h=>h.IsTupleIter it a i) where
 mem:=by simp
 obj:=λi h st b g=>by
  have e:b=it:=by simpa using g
  subst e;obtain⟨o,e,c,d⟩:=st;exact⟨o,e,λv z=>by rw[d]at z;cases z⟩
 keep:=λi h q st k=>st.at λo e=>k it (by simp) o e
 item:=by intro X A hw B hc i J s G H E I n st y;subst A hw B;obtain⟨L,x,m,t⟩:=y;obtain⟨f,r,p,Q⟩:=I.tuple m;obtain⟨u,S,O⟩:=r.get t;obtain⟨F,f1,f2,f3,D,C⟩:=n it (by simp);refine wpAny_pyNext_tuple_item st (show s.heap.IsTuple a f.toArray from p) (x:=u) (by simpa using S) λq j N=>?_;have U:b9 X J G H {s with heap:=q}:=I.turned (t':=s.toks) (λb o g e=>(N.2 b g).trans e) F f1 f3 D C;obtain⟨o,e,c,d⟩:=id j;exact⟨u,rfl,Xx (s:={s with heap:=q}) e c d (by decide) ⟨x,H,U,O,⟨rfl,λV R=>by rw[I.tuple_inj R m];exact t⟩,j,λb g=>(n b g).1⟩⟩
 done:=by intro X A hw B hc i J s G H E I n st y;subst A hw B;obtain⟨L,m,t⟩:=y;obtain⟨f,r,p,Q⟩:=I.tuple m;obtain⟨F,f1,f2,f3,D,C⟩:=n it (by simp);have hl:=r.length;exact wpAny_pyNext_tuple_end (I.ok.hd hc) st (show s.heap.IsTuple a f.toArray from p) (by simp;lia) λq T=>⟨rfl,I.turned (t':=s.toks) (λb o g e=>T b o g e) F f1 f3 D C⟩
 self:=λ_ _ _ _ _ st h=>wpAny_pyIter_tupleiter st h
def D5{P:Az}{w:Wv}{K:PySem.W.Frag}{B:Ww}(it:Ws)(lo:Int)(n:Nat):CK P w K B (Itr lo n) [it] it (λi h=>IsRangeIter h it (lo+(i:Nat)*1) ((n:Int)-(i:Nat)) 1) where
 mem:=by simp
 obj:=λi h st b a=>by
  have e:b=it:=by simpa using a
  subst e;exact⟨_,st,λv z=>by have A:Data.fields _=Data.cell v:=z;cases A⟩
 keep:=λi h g st k=>k it (by simp) _ st
 item:=by intro X l hw m hc i y s u H E I f st j;subst l hw m;obtain⟨r,f1,f2,f3,q,p⟩:=f it (by simp);have W:=Walks.range (prog:=X.prog) (w:=X.w) (I.ok.hd hc) it lo 1 n;refine W.item i s _ _ j st λv g x D c C=>?_;obtain⟨t,rfl⟩:=D;have G:b9 X y u H {s with heap:=g,toks:=x}:=I.turned (λb o a e=>C b o (by simpa using a) e) r f1 f3 q p;refine⟨_,rfl,Xx (s:={s with heap:=g,toks:=x}) (n:= "range_iterator") c rfl rfl (by decide) ⟨.int (lo+i),H,G,⟨t,?_⟩,⟨rfl,rfl⟩,c,λb a=>(f b a).1⟩⟩;rw[Int.mul_one]
 done:=by intro X l hw m hc i y s u H E I f st j;subst l hw m;obtain⟨r,f1,f2,f3,q,p⟩:=f it (by simp);exact wpAny_pyNext_range_end (I.ok.hd hc) st (by have:n<=i:=j;lia) λg F=>⟨rfl,I.turned (t':=s.toks) (λb o a e=>F b o a e) r f1 f3 q p⟩
 self:=λ_ _ _ _ _ st h=>wpAny_pyIter_rangeiter st h
section
variable{X:Cx}{tg:Ww}
def fU(K:Au)(e:TE):TI:=λc H R=>e c H λx b=>∃a,x=.ref a/\(∃d,WZ K b a d)/\R (Itl K a) b
def iTup(K:Au)(e:TE):TI:=λc H R=>e c H λx b=>∃a,x=.ref a/\(∃d,WT K b a d)/\R (Itt K a) b
def rB{l:Ww}{f:TE}(hl:PE X l f):PI X tg l (fU X.K f):=by
 intro n s g H R I h;refine Y7 (hl n s g H _ I h) λv c ⟨x,r,d,i,q1⟩=>?_;obtain⟨a,e,⟨t,k⟩,q⟩:=q1;subst e;cases i;obtain⟨j,u,p,w⟩:=d.list k;refine Fx p.isList ?_;refine⟨c.heap.objs.size,[c.heap.objs.size],_,_,r,rfl,d.kept (t':=c.toks) λb o e=>Ae _ e,rO a _,⟨_,Ar _ rfl,rfl,rfl⟩,λb m=>?_,q⟩;have e:b=c.heap.objs.size:=by simpa using m
 subst e;exact d.fpOk (Al _) (d.hok.fresh (Al _))
def iE{l:Ww}{g:TE}(hl:PE X l g):PI X tg l (iTup X.K g):=by
 intro n s i H R I h;refine Y7 (hl n s i H _ I h) λv c ⟨x,r,d,j,q1⟩=>?_;obtain⟨a,e,⟨t,k⟩,q⟩:=q1;subst e;cases j;obtain⟨f,u,p,w⟩:=d.tuple k;refine Hu (show c.heap.IsTuple a f.toArray from p) ?_;refine⟨c.heap.objs.size,[c.heap.objs.size],_,_,r,rfl,d.kept (t':=c.toks) λb o e=>Ae _ e,D6 a _,⟨_,Ar _ rfl,rfl,rfl⟩,λb m=>?_,q⟩;have e:b=c.heap.objs.size:=by simpa using m
 subst e;exact d.fpOk (Al _) (d.hok.fresh (Al _))
def FR{g:List (Ws×Xc)}{d:St}{H:Hp}{s:Af}{R:It->Hp->Prop}{E:Wr->Af->Prop}{lo a:Int}{t u v:Tok}{f:Nat}(I:b9 X g d H s)(m: -(2 ^ 62)<=lo)(l:lo<2 ^ 62)(k: -(2 ^ 62)<=a)(j:a<2 ^ 62)(q:R (Itr lo (a-lo).toNat) H):Wt (Wu X.prog X.w) X.A (Tc (.ref s.heap.objs.size)) (PIE X g d tg R) E {s with heap:=s.heap.push {cls:=.type "range",data:=.fields #[.int lo t,.int a u,.int 1 v]},toks:=f}:=by
 refine wpAny_pyIter_range (Wk ..) (small_one m l k j) ?_;have h:b9 X g d H {s with heap:=s.heap.push {cls:=.type "range",data:=.fields #[.int lo t,.int a u,.int 1 v]},toks:=f}:=I.kept λb o e=>Ae _ e;refine⟨(s.heap.push {cls:=.type "range",data:=.fields #[.int lo t,.int a u,.int 1 v]}).objs.size,[(s.heap.push {cls:=.type "range",data:=.fields #[.int lo t,.int a u,.int 1 v]}).objs.size],_,_,H,rfl,h.kept (t':=f) λb o e=>Ae _ e,D5 _ lo (a-lo).toNat,?_,λb i=>?_,q⟩
 ·have p : lo + ((0 : Nat) : Int) * 1 = lo := by simp
  have n:(((a-lo).toNat:Nat):Int)-((0:Nat):Int)=Jn lo a 1:=by rw[rangeSize_one];split<;>lia
  show IsRangeIter _ _ (lo+((0:Nat):Int)*1) ((((a-lo).toNat:Nat):Int)-((0:Nat):Int)) 1;rw[p,n];exact Ar _ rfl
 have e : b = (s.heap.push { cls := .type "range",data := .fields #[.int lo t,.int a u,.int 1 v] }).objs.size := by simpa using i
 subst e;exact h.fpOk (Al _) (h.hok.fresh (Al _))
def qk(c:TA):TI:=λa H R=>c a H λb d=>∃j:Int,b=[.int j]/\ -(2 ^ 62)<=j/\j<2 ^ 62/\R (Itr 0 j.toNat) d
def lj(c:TA):TI:=λa H R=>c a H λb d=>∃i j:Int,b=[.int i,.int j]/\(-(2 ^ 62)<=i/\i<2 ^ 62/\ -(2 ^ 62)<=j/\j<2 ^ 62)/\R (Itr i (j-i).toNat) d
def jG{a:Ww}{c:TA}{p b:Pos}(k:Gl X "range")(i:X.mg "range"=b4)(l:PA X [a] c)(hs:Bi [a] X.env=[(bb,eval a X.env)]:=by rfl):PI X tg (.Call (.Name "range" p) [a] [] b) (qk c):=by
 intro m s d H R I h;refine Call_ (QW I k i boot_range (Fa (Y7 (l b m s d H _ I h) λu v ⟨o,w,n,g,q1⟩=>?_) hs rfl));obtain⟨j,e,q1,q2,q⟩:=q1;subst e;cases g with
 |cons r f=>
  cases f;obtain⟨t,rfl⟩:=r;exact call_range_1 (FR n (by lia) (by lia) q1 q2 (by simpa using q))
def rY{a b:Ww}{f:TA}{p c:Pos}(o:Gl X "range")(n:X.mg "range"=b4)(u:PA X [a,b] f)(hs:Bi [a,b] X.env=[(bb,eval a X.env),(bb,eval b X.env)]:=by rfl)(C2:Bi [b] X.env=[(bb,eval b X.env)]:=by rfl):PI X tg (.Call (.Name "range" p) [a,b] [] c) (lj f):=by
 intro v s g H R I h;refine Call_ (QW I o n boot_range (Fa (Y7 (u c v s g H _ I h) λy A ⟨x,B,w,k,q1⟩=>?_) (by rw[hs,C2]) (by rw[C2];rfl)));obtain⟨i,j,e,⟨q1,q2,q3,m⟩,q⟩:=q1;subst e;cases k with
 |cons r d=>
  cases d with
  |cons l d=>
   cases d;obtain⟨t,rfl⟩:=r;obtain⟨z,rfl⟩:=l;exact call_range_2 (FR w q1 q2 q3 m q)
def tFor(f:TI)(g:TG)(h:TS):TS:=λD a H=>f a H λJ k=>∃W:Nat->Nat->St->Hp->Prop,(∃m,W 0 m a k)/\∀i m a H,W i m a H->
 (J.stop i H/\D.nx a H)∨(J.go i H/\∃N:St->Hp->Prop,(∀b c,N b c->∃e,e<m/\W (i+1) e b c)/\∀x c,J.yld i H x c->g x a c λd j=>h {D with nx:=N,ct:=N,bk:=D.nx} d j)
def ON(fp:List Ws)(h:Wz):List (Ws×Xc):=fp.filterMap λb=>(h.get? b).map λo=>(b,o)
def XC{fp:List Ws}{h:Wz}{b:Ws}{o:Xc}(a:b∈fp)(e:h.get? b=b0 o):(b,o)∈ON fp h:=Mu.mpr ⟨b,a,by rw[e];rfl⟩
def oT{fp:List Ws}{h:Wz}{p:Ws×Xc}(a:p∈ON fp h):p.1∈fp/\h.get? p.1=b0 p.2:=by
 obtain⟨b,c,e⟩:=Mu.mp a;cases q:h.get? b with
 |none=>rw[q]at e;cases e
 |some o=>
  rw[q]at e;have d:(b,o)=p:=Cd e;subst d;exact⟨c,q⟩
def b9.pinned{a:List (Ws×Xc)}{c:St}{H:Hp}{s:Af}{fp:List Ws}(I:b9 X a c H s)(j:∀b∈fp,K5 X a H b)(i:∀b∈fp,∃o,s.heap.get? b=b0 o/\∀v,o.data≠ .cell v):b9 X (a++ON fp s.heap) c H s:=
 I.pins_of λp h=>(Bq.mp h).elim (λz=>I.pin p (Be _ z)) λz=>by obtain⟨f,e⟩:=oT z;obtain⟨k,f1,f2,_⟩:=j p.1 f;obtain⟨o,g,d⟩:=i p.1 f;rw[e]at g;cases g;exact⟨e,k,f1,f2,d⟩
def b9.unpinned{b pl:List (Ws×Xc)}{a:St}{H:Hp}{s:Af}(I:b9 X (b++pl) a H s):b9 X b a H s:=I.pins_of λp c=>I.pin p (Be _ (Bw _ c))
def p9{iter:Ww}{body:List Xf}{Y:TI}{g:TG}{tb:TS}{Q:Pos}(F:Tz (Wu X.prog X.w) X.A X.env X.xe)(hc:X.calm=ba)(hi:PI X tg iter Y)(hg:PG X tg g)(k:NL X body tb)(hs:∀x,Xa iter X.env x=pure x:=by intro _;rfl):PS X (.For tg iter body [] Q) (tFor Y g tb):=by
 intro z s V H D I h;refine wpAny_For (Y7 (hi z s V H _ I h) λv s1 h1=>Y7 h1 λitv s2 h2=>?_) hs;obtain⟨it,K,Z,J,H2,e,I2,T,O,f2,W,⟨m0,w0⟩,turn⟩:=h2;subst e;have stat:∀{q:Hp},(∀b∈K,q b=b4)->∀b∈K,K5 X z q b:=λhn b k=>⟨hn b k,(f2 b k).2⟩;refine codeAny_forLoop_any (λn s'=>∃i j q,b9 X z j q s'/\Z i s'.heap/\(∀b∈K,q b=b4)/\W i n j q) ?_ m0 ⟨0,V,H2,I2,O,λb k=>(f2 b k).1,w0⟩;rintro n s3 ⟨i,c,L,I3,C,G,w3⟩;rcases turn i n c L w3 with⟨B,qn⟩|⟨go,N,hN,step⟩
 refine Ha F (Y7 (T.done X rfl rfl rfl hc i z s3 c L X.xe I3 (stat G) C B) λr s4 ⟨R,I4⟩ => ?_);subst R;exact Pp ⟨c,L,I4,qn⟩;refine Ha F (Y7 (T.item X rfl rfl rfl hc i z s3 c L X.xe I3 (stat G) C go) λr s4 ⟨u,R,h4⟩ => ?_);subst R;refine Ha F (Y7 h4 λ_ s5 ⟨x,H5,I5,r5,y5,y,S⟩=>?_);have U:=I5.pinned (stat S) (T.obj _ _ y);refine Ha F (Y7 (hg _ s5 c H5 x u _ U r5 (step x H5 y5)) λ_ s6 ⟨M,H6,I6,q6⟩=>?_);refine Ha F (Y7 (k _ s6 M H6 _ I6 q6) λf P t=>?_);have again:∀{a:St}{p:Hp},b9 X (z++ON K s5.heap) a p P->N a p->∃m,m<n/\∃i j q,b9 X z j q P/\Z i P.heap/\(∀b∈K,q b=b4)/\W i m j q:=λ{a p} l E=>by obtain⟨m',hm,w7⟩:=hN a p E;refine⟨m',hm,i+1,a,p,l.unpinned,T.keep _ _ _ y λb k o e=>(l.pin (b,o) (Be _ (Be _ (XC k e)))).1,λb k=>?_,w7⟩;obtain⟨o,e,d⟩:=T.obj _ _ y b k;exact(l.pin (b,o) (Be _ (Be _ (XC k e)))).2.1
 cases f with
 |next=>obtain⟨a,p,l,E⟩:=t;exact again l E
 |cont=>obtain⟨a,p,l,E⟩:=t;exact again l E
 |brk=>obtain⟨a,p,l,t⟩:=t;exact⟨a,p,l.unpinned,t⟩
 |ret v=>obtain⟨x7,a,p,l,r7,t⟩:=t;exact⟨x7,a,p,l.unpinned,r7,t⟩
end
abbrev R2:=V->V->Hp->VK->Prop
def V7(X:Cx)(f:Wr->Wr->Xi Wr)(r:R2):Prop:=
 ∀(b:List (Ws×Xc)) (s:Af) (a:St) (H:Hp) (x y:V) (v u:Wr) (Q:VK),b9 X b a H s->bP x v->bP y u->r x y H Q->
  Wt (Wu X.prog X.w) X.A (f v u) (EP X b a Q) X.xe s
def UnR(X:Cx)(f:Wr->Xi Wr)(r:V->Hp->VK->Prop):Prop:=
 ∀(b:List (Ws×Xc)) (s:Af) (a:St) (H:Hp) (x:V) (v:Wr) (Q:VK),b9 X b a H s->bP x v->r x H Q->
  Wt (Wu X.prog X.w) X.A (f v) (EP X b a Q) X.xe s
def aH(X:Cx)(f:Wr)(r:List V->Hp->VK->Prop):Prop:=
 ∀(d:List (Ws×Xc)) (s:Af) (a:St) (H:Hp) (b:List V) (c:List Wr) (Q:VK),b9 X d a H s->bT b c->r b H Q->
  Wt (Wu X.prog X.w) X.A (call f c) (EP X d a Q) X.xe s
def tOp(r:R2)(c b:TE):TE:=λa H Q=>c a H λx e=>b a e λy d=>r x y d Q
def tUn(r:V->Hp->VK->Prop)(b:TE):TE:=λa H Q=>b a H λx c=>r x c Q
def rI(C:Int->Int->Prop)(g:Int->Int->V):R2:=λx y H Q=>∃i j,x=.int i/\y=.int j/\C i j/\Q (g i j) H
def DO(g:Int->Int->V):R2:=λx y H Q=>∃i j,x=.int i/\y=.int j/\Q (g i j) H
def rU(g:Int->V):V->Hp->VK->Prop:=λx H Q=>∃i,x=.int i/\Q (g i) H
section
variable{X:Cx}{a b c:Ww}{ta tb tc:TE}{pos:Pos}
def binT(q:PE X a ta)(p:PE X b tb){j:List (Ws×Xc)}{s:Af}{c:St}{H:Hp}{R:V->V->Hp->Prop}(I:b9 X j c H s)(h:ta c H λx k=>tb c k λy d=>R x y d){Q:Wr->Af->Prop}{f:Wr->Wr->Xi Wr}(o:∀v u i x y d,b9 X j c d i->bP x v->bP y u->R x y d->Wt (Wu X.prog X.w) X.A (f v u) Q X.xe i):Wt (Wu X.prog X.w) X.A (eval a X.env) (λv g=>Wt (Wu X.prog X.w) X.A (eval b X.env) (λu e=>Wt (Wu X.prog X.w) X.A (f v u) Q X.xe e) X.xe g) X.xe s:=by refine Y7 (q j s c H _ I h) λv l ⟨x,k,t,n,q1⟩=>?_;refine Y7 (p j l c k _ t q1) λu i ⟨y,d,r,m,q2⟩=>?_;exact o v u i x y d r n m q2
def Xu{op:Operator}{r:R2}(g:V7 X (Hv op) r)(j:PE X a ta)(i:PE X b tb):PE X (.BinOp a op b pos) (tOp r ta tb):=by intro k s c H Q I h;exact wpAny_BinOp (binT j i I h λv u d x y m l f e q=>g k d c m x y v u Q l f e q)
def iJ{op:UnaryOp}{r:V->Hp->VK->Prop}(f:UnR X (unaryOp op) r)(g:PE X a ta):PE X (.UnaryOp op a pos) (tUn r ta):=by intro c s b H Q I h;exact UnaryOp_ (Y7 (g c s b H _ I h) λv d ⟨x,j,i,e,q1⟩=>f c d b j x v Q i e q1)
def opI{f:Wr->Wr->Xi Wr}{C:Int->Int->Prop}{g:Int->Int->Int}(rule:∀(i j:Int) (t u:Tok) (s:Af) (Q:Wr->Af->Prop) (E:Wr->Af->Prop),C i j->Q (.int (g i j) s.toks) {s with toks:=s.toks+1}->Wt (Wu X.prog X.w) X.A (f (.int i t) (.int j u)) Q E s):V7 X f (rI C λi j=>.int (g i j)):=by intro k s e H x y v u Q I d c h;obtain⟨i,j,rfl,rfl,hc,q⟩:=h;obtain⟨t,rfl⟩:=d;obtain⟨b,rfl⟩:=c;exact rule i j t b s _ _ hc ⟨.int (g i j),H,I.tok _,⟨_,rfl⟩,q⟩
def opI0{f:Wr->Wr->Xi Wr}{g:Int->Int->Int}(rule:∀(i j:Int) (t u:Tok) (s:Af) (Q:Wr->Af->Prop) (E:Wr->Af->Prop),Q (.int (g i j) s.toks) {s with toks:=s.toks+1}->Wt (Wu X.prog X.w) X.A (f (.int i t) (.int j u)) Q E s):V7 X f (DO λi j=>.int (g i j)):=by intro k s e H x y v u Q I d c h;obtain⟨i,j,rfl,rfl,q⟩:=h;obtain⟨t,rfl⟩:=d;obtain⟨b,rfl⟩:=c;exact rule i j t b s _ _ ⟨.int (g i j),H,I.tok _,⟨_,rfl⟩,q⟩
def opB0{f:Wr->Wr->Xi Wr}{g:Int->Int->Bool}(rule:∀(i j:Int) (t u:Tok) (s:Af) (Q:Wr->Af->Prop) (E:Wr->Af->Prop),Q (.bool (g i j)) s->Wt (Wu X.prog X.w) X.A (f (.int i t) (.int j u)) Q E s):V7 X f (DO λi j=>.bl (g i j)):=by intro e s d H x y v u Q I c b h;obtain⟨i,j,rfl,rfl,q⟩:=h;obtain⟨t,rfl⟩:=c;obtain⟨a,rfl⟩:=b;exact rule i j t a s _ _ ⟨.bl (g i j),H,I,rfl,q⟩
def CDiv(i j:Int):Prop:=0<j/\j<1073741824
def CPow(i j:Int):Prop:=0<=j/\j<=1000000/\i.natAbs<2 ^ 64
def CMul(i j:Int):Prop:=(-(2 ^ 64)<i/\i<2 ^ 64)∨(-(2 ^ 64)<j/\j<2 ^ 64)
def CMul.ok{i j:Int}(h:CMul i j):IntMulOk i j:=by
 rcases h with⟨b,a⟩|⟨b,a⟩;exact .of_left (intBits_le_64 b a);exact .of_right (intBits_le_64 b a)
def zMD:V7 X (Hv .Add) (DO λi j=>.int (i+j)):=opI0 λ_ _ _ _ _ _ _ q=>add_int q
def Q0:V7 X (Hv .Sub) (DO λi j=>.int (i-j)):=opI0 λ_ _ _ _ _ _ _ q=>sub_int q
def nG:V7 X (Hv .Mult) (rI CMul λi j=>.int (i*j)):=opI λ_ _ _ _ _ _ _ hc q=>mul_int q hc.ok
def A0:V7 X (Hv .FloorDiv) (rI CDiv λi j=>.int (i/j)):=opI λi j _ _ _ _ _ hc q=>by have b:(0:Int)<j:=hc.1;have a:j<1073741824:=hc.2;exact floordiv_int (by lia) (by rw[Int.fdiv_eq_ediv_of_nonneg i (by lia)];exact q) (.inl (PyProof.noPylong_small (by lia)))
def SN:V7 X (Hv .Mod) (rI (λ_ j=>0<j) λi j=>.int (i % j)):=opI λi j _ _ _ _ _ hc q=>by have a:(0:Int)<j:=hc;exact mod_int' (by lia) (by rw[Int.fmod_eq_emod_of_nonneg i (by lia)];exact q)
def pS:V7 X (Hv .Pow) (rI CPow λi j=>.int (i ^ j.toNat)):=opI λ_ _ _ _ _ _ _ hc q=>pow_int_small hc.1 hc.2.1 hc.2.2 q
def unI{f:Wr->Xi Wr}{g:Int->Int}(rule:∀(i:Int) (t:Tok) (s:Af) (Q:Wr->Af->Prop) (E:Wr->Af->Prop),Q (.int (g i) s.toks) {s with toks:=s.toks+1}->Wt (Wu X.prog X.w) X.A (f (.int i t)) Q E s):UnR X f (rU λi=>.int (g i)):=by intro d s c H x v Q I b h;obtain⟨i,rfl,q⟩:=h;obtain⟨t,rfl⟩:=b;exact rule i t s _ _ ⟨.int (g i),H,I.tok _,⟨_,rfl⟩,q⟩
def jy:UnR X (unaryOp .USub) (rU λi=>.int (-i)):=unI λ_ _ _ _ _ q=>neg_int q
end
section
variable{X:Cx}{a b c:Ww}{ta tb tc:TE}{pos:Pos}
def G6{b:List (Ws×Xc)}{a:St}{H:Hp}{s:Af}{Q:VK}{k k':Bool}(I:b9 X b a H s)(q:Q (.bl k) H)(e:k=k'):EP X b a Q (.bool k') s:=by subst e;exact⟨.bl k,H,I,rfl,q⟩
def FD:V7 X (Dh .Lt) (DO λi j=>.bl (decide (i<j))):=opB0 λ_ _ _ _ _ _ _ q=>lt_int q
def Xs:V7 X (Dh .LtE) (DO λi j=>.bl (decide (i<=j))):=opB0 λ_ _ _ _ _ _ _ q=>le_int q
def MA:V7 X (Dh .Gt) (DO λi j=>.bl (decide (j<i))):=opB0 λ_ _ _ _ _ _ _ q=>gt_int q
def cZ:V7 X (Dh .GtE) (DO λi j=>.bl (decide (j<=i))):=opB0 λ_ _ _ _ _ _ _ q=>ge_int q
def fK:V7 X (Dh .Is) (λx y H Q=>y=.non/\Q (.bl (decide (x=.non))) H):=by
 intro d s c H x y v u Q I a b h;obtain⟨rfl,q⟩:=h;cases b;refine is_none_gen (G6 I q ?_);cases x<;>first
  |(cases a;rfl)
  |(obtain⟨t,rfl⟩:=a;rfl)
def jv:V7 X (Dh .IsNot) (λx y H Q=>y=.non/\Q (.bl (!decide (x=.non))) H):=by
 intro d s c H x y v u Q I a b h;obtain⟨rfl,q⟩:=h;cases b;refine isnot_none_gen (G6 I q ?_);cases x<;>first
  |(cases a;rfl)
  |(obtain⟨t,rfl⟩:=a;rfl)
def V7.or{f:Wr->Wr->Xi Wr}{r d:R2}(h:V7 X f r)(h':V7 X f d):V7 X f (λx y H Q=>r x y H Q∨d x y H Q):=by
 intro e s a H x y v u Q I c b q;rcases q with q|q;exact h e s a H x y v u Q I c b q;exact h' e s a H x y v u Q I c b q
def HH(b:Ww){op:CmpOp}(h:op≠ .In:=by decide)(a:op≠ .NotIn:=by decide):Jo op b=bb:=by
 have d:(op==CmpOp.In)=bb:=by cases op<;>first|rfl|exact absurd rfl h
 have c:(op==CmpOp.NotIn)=bb:=by cases op<;>first|rfl|exact absurd rfl a
 cases b<;>simp[Jo,d,c]
def lu{op:CmpOp}{r:R2}(g:V7 X (Dh op) r)(k:PE X a ta)(j:PE X b tb)(i:Jo op b=bb):PE X (.Compare a [op] [b] pos) (tOp r ta tb):=by intro l s c H Q I h;exact wpAny_Compare1 (binT k j I h λv u d x y n m f e q=>g l d c n x y v u Q m f e q) i
def fM(t:TE):TT:=λa H Q=>t a H λx b=>∃k,x=.bl k/\Q k b
def m6{op:CmpOp}{r:R2}(n:V7 X (Dh op) r)(q:PE X a ta)(p:PE X b tb)(o:Jo op b=bb):PT X (.Compare a [op] [b] pos) (fM (tOp r ta tb)):=by
 intro f s d H Q I h;refine wpAny_isTrue_Compare1 (Y7 (q f s d H _ I h) λv i ⟨x,D,A,m,q1⟩=>Y7 (p f i d D _ A q1) λu g ⟨y,C,w,l,q2⟩=>
  Y7 (n f g d C x y v u _ w m l q2) λc E ⟨z,B,t,j,k,e,q3⟩=>?_) o
 subst e;cases j;exact Eh ⟨B,t,q3⟩
def D4(r d:R2)(ta tb tc:TE):TE:=λa H Q=>ta a H λx g=>tb a g λy f=>r x y f λz b=>∃k,z=.bl k∧
 (if k=ba then tc a b λc e=>d y c e Q else Q (.bl bb) b)
def ju{op f:CmpOp}{r m:R2}(G:V7 X (Dh op) r)(j:V7 X (Dh f) m)(L:PE X a ta)(K:PE X b tb)(hc:PE X c tc)(J:Ua [op,f] [b,c]=bb:=by with_unfolding_all rfl):PE X (.Compare a [op,f] [b,c] pos) (D4 r m ta tb tc):=by
 intro i s g H Q I h;refine Compare_chain (Y7 (L i s g H _ I h) λv B ⟨x,S,O,E,q1⟩=>chain_link (Y7 (K i B g S _ O q1) λu A ⟨y,R,N,l,q2⟩=>
  Y7 (G i A g R x y v u _ N E l q2) λd w ⟨z,o,n,D,k,e,q3⟩=>?_)) J
 subst e;cases D;refine Eh ?_;cases k with
 |false=>exact ite_ff ⟨.bl bb,o,n,rfl,q3⟩
 |true=>exact ite_tt (chain_last (Y7 (hc i w g o _ n q3) λq t ⟨p,P,M,C,F⟩=>j i t g P y p u q Q M l C F))
def oF{op f:CmpOp}{r m:R2}(L:V7 X (Dh op) r)(j:V7 X (Dh f) m)(O:PE X a ta)(N:PE X b tb)(hc:PE X c tc)(M:Ua [op,f] [b,c]=bb:=by with_unfolding_all rfl):PT X (.Compare a [op,f] [b,c] pos) (fM (D4 r m ta tb tc)):=by
 intro i s g H Q I h;refine isTrue_chain (Y7 (O i s g H _ I h) λv B ⟨x,H1,V,F,q1⟩=>test_link (Y7 (N i B g H1 _ V q1) λu A ⟨y,Z,U,l,q2⟩=>
  Y7 (L i A g Z x y v u _ U F l q2) λd w ⟨z,o,n,E,k,e,q3⟩=>?_)) M
 subst e;cases E;refine Eh ?_;cases k with
 |false=>
  obtain⟨k',R,K⟩:=q3;cases R;exact ite_ff ⟨o,n,K⟩
 |true=>
  refine ite_tt (test_last (Y7 (hc i w g o _ n q3) λq t ⟨p,Y,T,D,J⟩=>Y7 (j i t g Y y p u q _ T l D J) λd' s5 ⟨z2,W,S,C,k2,P,G⟩=>?_));subst P;cases C;exact Eh ⟨W,S,G⟩
def OI:(sizeLine:Nat)<2 ^ 63:=by rw[Dn];decide
def DG:V7 X (Hv .Add) (λx y H Q=>∃i j,x=.str i/\y=.str j/\i.length+j.length<=sizeLine/\Q (.str (i++j)) H):=by intro g s e H x y v u Q I c b h;obtain⟨i,j,rfl,rfl,d,q⟩:=h;obtain⟨t,rfl⟩:=c;obtain⟨a,rfl⟩:=b;exact add_str (λa f=>⟨.str (i++j),H,I.tok _,⟨_,rfl⟩,q⟩) d
def VZ{x:V}{a:List Wr}(r:bT [x] a):∃u,a=[u]/\bP x u:=by
 cases r with
 |cons c b=>cases b;exact⟨_,rfl,c⟩
def B7{x y:V}{b:List Wr}(r:bT [x,y] b):∃u a,b=[u,a]/\bP x u/\bP y a:=by
 cases r with
 |cons f e=>
  cases e with
  |cons d c=>cases c;exact⟨_,_,rfl,f,d⟩
def qW(hc:X.calm=ba):aH X (.builtin "max") (λb H Q=>∃i j,b=[.int i,.int j]/\Q (.int (if j>i then j else i)) H):=by
 intro m s c H b e Q I r h;obtain⟨i,j,rfl,q⟩:=h;obtain⟨u,d,rfl,⟨t,rfl⟩,⟨g,rfl⟩⟩:=B7 r;refine max_two_ints (I.ok.hd hc) λl f k=>⟨_,H,I.kept k,?_,q⟩;by_cases a:j>i;rw[if_pos a,if_pos a];exact⟨_,rfl⟩;rw[if_neg a,if_neg a];exact⟨_,rfl⟩
def mU(hc:X.calm=ba):aH X (.builtin "min") (λb H Q=>∃i j,b=[.int i,.int j]/\Q (.int (if j<i then j else i)) H):=by
 intro m s c H b e Q I r h;obtain⟨i,j,rfl,q⟩:=h;obtain⟨u,d,rfl,⟨t,rfl⟩,⟨g,rfl⟩⟩:=B7 r;refine min_two_ints (I.ok.hd hc) λl f k=>⟨_,H,I.kept k,?_,q⟩;by_cases a:j<i;rw[if_pos a,if_pos a];exact⟨_,rfl⟩;rw[if_neg a,if_neg a];exact⟨_,rfl⟩
end
structure ObjM(h:Wz)(x dx C:Ws)(mA:Wy->Option Wr):Prop where
 obj:h.get? x=b0 (Vw C dx)
 ns:h.Ns1 dx mA
 ne:dx≠x
def jK{h:Wz}{d:Ws}{b:Wy->Option Wr}(n:h.Ns1 d b):∃od,h.get? d=b0 od/\∀name,W.lookIn name od=b0 (b name):=by
 obtain⟨o,c,p,i,l,k,_,j⟩:=n;refine⟨o,i,λname=>?_⟩;have e:=j name;unfold nsFind findBy at e;rw[<-Array.find?_toList]at e;unfold W.lookIn;rw[l];dsimp only;split;rename_i y q;rw[q]at e;exact congrArg b0 e;rename_i q;rw[q]at e;have a:c.toList.any (·.refKey)=bb:=by rw[List.any_eq_false];intro y g;obtain⟨z,t,f⟩:=k y (Ir.mp g);simp[DictEntry.refKey,f]
 have m:¬c.toList.any (·.refKey)=ba:=by rw[a];exact Db
 rw[if_neg m];exact congrArg b0 e
def ObjM.look{h:Wz}{x b C:Ws}{a:Wy->Option Wr}(I:ObjM h x b C a):∃od,W.InstAt h x (Vw C b) C (b0 od)/\∀name,W.lookIn name od=b0 (a name):=
 let ⟨od,c,hl⟩:=jK I.ns
 ⟨od,⟨I.obj,rfl,rfl,c⟩,hl⟩
def N6.some_of{v:V}{o:Option Wr}(r:N6 (b0 v) o):∃u,o=b0 u/\bP v u:=by
 cases o with
 |none=>exact(show False from r).elim
 |some u=>exact⟨u,rfl,r⟩
section
variable{P:Az}{w:Wv}{H H':Hp}{h h':Wz}{a C dx:Ws}{fs fs':List (Wy×V)}
def kj(c:QB P w H h)(e:H a=b0 (.ins C dx fs)):∃b,ObjM h a dx C b/\(∀f,N6 (fs.lookup f) (b f))/\Vx b (fs.map (·.1))/\fs.length<=1000/\H dx=b0 (.own a):=by obtain⟨d,z,i,g,b,n,r,q⟩:=(show ZY P w H h a (.ins C dx fs) from c a _ e);exact⟨b,⟨g,n,i⟩,r,q,z,d⟩
end
structure Cls(K:Au)(C:Ws):Prop where
 pg:W.plainGet K C Str.empty=ba
 hd:W.hasDictIn K C=ba
 po:W.plainOver K C=ba
 sa:W.findIn K (.ref C) "__setattr__"=b0 (b0 (.builtin "object.__setattr__"))
def Cls.get{K:Au}{C:Ws}(c:Cls K C)(f:Wy):W.plainGet K C f=ba:=c.pg
section
variable{X:Cx}{aa:List (Ws×Xc)}{σ:St}{H:Hp}{s:Af}{A:Bz}{E:Wr->Af->Prop}{Q:Wr->Af->Prop}{c:Wr}{b:Bool}
inductive NC(K:Au)(H:Hp):V->Wr->Prop where
 |non:NC K H .non (.type "NoneType")
 |bl (x:Bool):NC K H (.bl x) (.type "bool")
 |int (i:Int):NC K H (.int i) (.type "int")
 |str (x:Wy):NC K H (.str x) (.type "str")
 |flt (x:UInt64):NC K H (.flt x) (.type "float")
 |lst {a:Ws}{xs:List V}(e:H a=b0 (.lst xs)):NC K H (.ref a) (.type "list")
 |frz {a:Ws}{o:Xc}{xs:List V}(e:H a=b0 (.frz o (.lst xs))):NC K H (.ref a) (.type "list")
 |tup {a:Ws}{xs:List V}(e:H a=b0 (.tup xs)):NC K H (.ref a) (.type "tuple")
 |dK {a:Ws}{kvs:List (bH×V)}(e:H a=b0 (.dK kvs)):NC K H (.ref a) (.type "dict")
 |dT {a:Ws}{kvs:List (List bH×V)}(e:H a=b0 (.dT kvs)):NC K H (.ref a) (.type "dict")
 |ins {a C dx:Ws}{fs:List (Wy×V)}(e:H a=b0 (.ins C dx fs)) (cl:Cls K C) (ha:W.findIn K (.ref C) "__class__"=b0 (b0 (.builtin "object.__class__")))
   (hn:W.specialIn K (.builtin "object.__class__") "__get__"=b0 (b0 (.builtin "getset_descriptor.__get__"))) (htk:W.takesIn K (.builtin "object.__class__")=b0 ba)
   (hm:W.mroIn K C (.type "object")=b0 ba):NC K H (.ref a) (.ref C)
def UM{x:V}{u t:Wr}(I:b9 X aa σ H s)(d:bP x u)(ty:NC X.K H x t)(e:W.kitOne X.K t c=b0 b)(h:∀B,Q (.bool b) {s with toks:=B}):Wt (Wu X.prog X.w) A (call (.builtin "isinstance") [u,c]) Q E s:=by
 cases ty with
 |non=>cases (show u=Value.none from d);exact Gp W.kitx_none I.kIn True.intro e (λz=>nomatch z) h
 |bl y=>cases (show u=Qk y from d);exact Gp W.kitx_bool I.kIn True.intro e (λz=>nomatch z) h
 |int i=>obtain⟨t,q⟩:=(show∃t,u=Kx i t from d);cases q;exact Gp W.kitx_int I.kIn True.intro e (λz=>nomatch z) h
 |str y=>obtain⟨t,q⟩:=(show∃t,u=Nh y t from d);cases q;exact Gp W.kitx_str I.kIn True.intro e (λz=>nomatch z) h
 |flt y=>obtain⟨t,q⟩:=(show∃t,u=Wj y t from d);cases q;exact Gp W.kitx_float I.kIn True.intro e (λz=>nomatch z) h
 | @lst a k f=>
  cases (show u=Bb a from d);obtain⟨_,_,n,_,g⟩:=(show ZY X.prog X.w H s.heap a (.lst k) from I.hok a _ f);exact Gp Ra I.kIn ⟨_,g,rfl⟩ e (λz=>nomatch z) h
 | @frz a D k f=>
  cases (show u=Bb a from d);obtain⟨_,_,_,n,_,g⟩:=(show ZY X.prog X.w H s.heap a (.frz D (.lst k)) from I.hok a _ f);exact Gp Ra I.kIn ⟨_,g,rfl⟩ e (λz=>nomatch z) h
 | @tup a k f=>
  cases (show u=Bb a from d);obtain⟨_,_,_,p⟩:=(show ZY X.prog X.w H s.heap a (.tup k) from I.hok a _ f);obtain⟨o,g,l,_⟩:=p;exact Gp W.kitx_tuple I.kIn ⟨o,g,l⟩ e (λz=>nomatch z) h
 | @dK a j f=>
  cases (show u=Bb a from d);obtain⟨_,_,P,_,p⟩:=(show ZY X.prog X.w H s.heap a (.dK j) from I.hok a _ f);obtain⟨o,M,N,g,l,_⟩:=p;exact Gp Ub I.kIn ⟨o,g,l.1⟩ e (λz=>nomatch z) h
 | @dT a j f=>
  cases (show u=Bb a from d);obtain⟨_,_,k,_,o,M,N,g,l,_⟩:=(show ZY X.prog X.w H s.heap a (.dT j) from I.hok a _ f);exact Gp Ub I.kIn ⟨o,g,l.1⟩ e (λz=>nomatch z) h
 | @ins a C S fs f v L F m G=>
  cases (show u=Bb a from d);obtain⟨R,O,_⟩:=kj I.hok f;obtain⟨od,J,_⟩:=O.look;exact Gp (W.kitx_own (v.get _) v.hd L F m G) I.kIn J e (λz=>nomatch z) h
end
structure WR(k:Nat)(A:Bz):Prop where
 hd:A.handled=b4
 dp:A.depth+3*k+5<recursionLimit
 un:A.units+16*k+200<cLine
def WR.mono{j k:Nat}{A:Bz}(r:WR k A)(h:j<=k):WR j A:=⟨r.hd,by have:=r.dp;lia,by have:=r.un;lia⟩
def WR.deeper{k:Nat}{A:Bz}(r:WR (k+1) A)(env:Env):WR k (A.deeper env):=
 ⟨r.hd,by have:=r.dp;show A.depth+1+3*k+5<_;lia,by have:=r.un;show A.units+3+16*k+200<_;lia⟩
def WR.depth{k:Nat}{A:Bz}(r:WR k A):A.depth<recursionLimit:=by have:=r.dp;lia
def WR.units{k:Nat}{A:Bz}(r:WR k A):A.units+64<cLine:=by have:=r.un;lia
def tNil:TA:=λ_ H Q=>Q [] H
def J9(c:TE)(tr:TA):TA:=λa H Q=>c a H λx e=>tr a e λb d=>Q (x::b) d
section
variable{X:Cx}{e:Ww}{es:List Ww}{te:TE}{t:TA}{pos:Pos}
def Z1:PA X [] tNil:=λ_ _ _ _ H Q I h=>Ki ⟨[],H,I,.nil,h⟩
def bV(j:PE X e te)(i:PA X es t)(hs:Bi (e::es) X.env=(bb,eval e X.env)::Bi es X.env:=by rfl):PA X (e::es) (J9 te t):=by intro pos b s a H Q I h;rw[hs];show Wt _ _ (spliced ((bb,eval e X.env)::Hk pos (Bi es X.env))) _ _ s;refine Hw (Y7 (j b s a H _ I h) λu d ⟨x,n,l,g,q1⟩=>?_);exact Y7 (i pos b d a n _ l q1) λo p ⟨c,m,k,f,q2⟩=>⟨x::c,m,k,.cons g f,q2⟩
def tTup(t:TA):TE:=λc H Q=>t c H λa b=>a.length<=sizeLine/\∀p,b p=b4->Q (.ref p) (Z8 b p (.tup a))
def tLst(t:TA):TE:=λc H Q=>t c H λa b=>a.length<=sizeLine/\∀p,b p=b4->Q (.ref p) (Z8 b p (.lst a))
def DI{x1}(h:PA X es t):PE X (.Tuple es x1 pos) (tTup t):=by intro l s f H Q I j;refine wpAny_Tuple_spliced (Y7 (h pos l s f H _ I j) λi a ⟨g,d,c,r,z,q⟩=>⟨by rw[<-r.length];exact z,?_⟩);have k:d a.heap.objs.size=b4:=c.hok.fresh (Al _);refine⟨.ref a.heap.objs.size,Z8 d a.heap.objs.size (.tup g),c.laid (t':=a.toks) (λb u e=>Ae _ e) (Al _) ?_,rfl,q _ k⟩;exact⟨z,i,r,⟨_,Ar _ rfl,rfl,_,rfl⟩⟩
def lJ(h:PA X es t):PE X (.List es pos) (tLst t):=by intro l s f H Q I j;refine wpAny_List_spliced (Y7 (h pos l s f H _ I j) λi a ⟨g,d,c,r,z,q⟩=>⟨by rw[<-r.length];exact z,?_⟩);have k:d a.heap.objs.size=b4:=c.hok.fresh (Al _);refine⟨.ref a.heap.objs.size,Z8 d a.heap.objs.size (.lst g),c.laid (t':=a.toks) (λb u e=>Ae _ e) (Al _) ?_,rfl,q _ k⟩;exact⟨z,i,0,r,Ar _ rfl⟩
end
abbrev Sp:=List V->Hp->VK->XK->Prop
abbrev CXT:=List Env->Hp->Af->XK->Wr->Af->Prop
structure Env0(P:Az)(w:Wv)(K:Au)(mg:Wy->Option Wr)(base:Wz)(A:Bz)(outer:List Env)(s:Af)(H:Hp):Prop where
 frames:A.frames=b0 outer
 mod:Mod K mg base
 bs:∀b o,base.get? b=b0 o->s.heap.get? b=b0 o/\H b=b4
 bsz:base.objs.size<=s.heap.objs.size
 funs:s.heap.FunFrames base outer
 frf:∀b∈frs outer,H b=b4
 hok:QB P w H s.heap
 bare:Pl s.gens
def CE(outer:List Env)(P:Az)(w:Wv)(H:Hp)(s:Af)(Q:VK)(u:Wr)(a:Af):Prop:=
 ∃v b,a.os=s.os/\Pl a.gens/\Un (frs outer) [] H b s.heap a.heap/\QB P w b a.heap/\bP v u/\Q v b
def CR(CX:CXT)(outer:List Env)(P:Az)(w:Wv)(H:Hp)(s:Af)(Q:VK)(E:XK)(r:Vz)(a:Af):Prop:=
 match r with
 |.ok (.ret u)=>CE outer P w H s Q u a
 |.ok _=>False
 |.error e=>CX outer H s E e a
structure N5(P:Az)(w:Wv)(K:Au)(mg:Wy->Option Wr)(base:Wz)(CX:CXT)(k:Nat)(f:Ws)(fd:Hx)(ps:List Wy)(sp:Sp):Prop where
 len:∀vs H Q E,sp vs H Q E->vs.length=ps.length
 run:∀(A:Bz) (outer:List Env) (s:Af) (H:Hp) (args:Args) (us:List Wr) (vs:List V) (Q:VK) (E:XK),WR k A->Env0 P w K mg base A outer s H->Uc s fd args (ps.zip us)->bT vs us->sp vs H Q E->
  Jd (Wu P w) A (.call (.ref f) args) (CR CX outer P w H s Q E) s
section
variable{X:Cx}{aa:List (Ws×Xc)}{σ:St}{H:Hp}{s s':Af}
def b9.env0(I:b9 X aa σ H s):Env0 X.prog X.w X.K X.mg X.base X.A X.stack s H:=
 ⟨I.ok.frames,I.ok.mod,I.bs,Fl I.ok.bsz I.sz,I.stack,I.stkFree,I.hok,I.bare⟩
def b9.after{Q:VK}{u:Wr}(I:b9 X aa σ H s)(h:CE X.stack X.prog X.w H s Q u s'):EP X aa σ Q u s':=by obtain⟨v,i,os,a,un,e,r,q⟩:=h;obtain⟨f,g,d,t,c⟩:=s';obtain rfl:c=s.os:=os;exact⟨v,i,I.call (h':=f) (g':=g) (d':=d) (t':=t) (ch:=[]) un e a (λb z=>absurd z (by simp)),r,q⟩
end
def Xv(sp:Sp)(a:List V)(E:XK)(t:TA):TE:=λb H Q=>t b H λc d=>sp (c++a) d Q E
def IJ(K:Au)(b:Hx)(ps:List Wy)(ds:List Wr):Prop:=
 ∀(s:Af) (a:List Wr),K.In s.heap->(a++ds).length=ps.length->Uc s b ⟨a,[]⟩ (ps.zip (a++ds))
def IJ.all{K:Au}{b:Hx}{ps:List Wy}(h:∀a:List Wr,a.length=ps.length->Vj b ⟨a,[]⟩=pure (ps.zip a)):IJ K b ps []:=λs a _ hl=>by rw[Fm]at hl⊢;exact .of_eq (h a hl)
def CH(CX:CXT)(X:Cx)(E:XK):Prop:=∀(c:List (Ws×Xc)) (b:St) (H:Hp) (s:Af) (e:Wr) (a:Af),b9 X c b H s->CX X.stack H s E e a->X.xe e a
section
variable{X:Cx}{CX:CXT}{k:Nat}{f C:Ws}{fd:Hx}{ps:List Wy}{sp:Sp}{dvs:List V}{ds:List Wr}{E:XK}{x m:Wy}{p pos aj:Pos}{e o:Ww}{es:List Ww}{ta:TE}{t:TA}
def o9{d:List (Ws×Xc)}{c:St}{H:Hp}{s:Af}{Q:VK}{a:List Wr}{vs:List V}(F:N5 X.prog X.w X.K X.mg X.base CX k f fd ps sp)(l:WR k X.A)(n:IJ X.K fd ps ds)(m:bT dvs ds)(j:CH CX X E)(I:b9 X d c H s)(r:bT vs a)(h:sp (vs++dvs) H Q E):Wt (Wu X.prog X.w) X.A (call (.ref f) a) (EP X d c Q) X.xe s:=by
 have g:bT (vs++dvs) (a++ds):=r.append m;have hl:(a++ds).length=ps.length:=by rw[<-g.length];exact F.len _ _ _ _ h
 refine wpAny_call (Kz (F.run X.A X.stack s H ⟨a,[]⟩ (a++ds) (vs++dvs) Q E l I.env0 (n s a I.kIn hl) g h) λr i b=>?_);cases r with
 |error e=>exact j d c H s e i I b
 |ok o=>
  cases o with
  |ret u=>exact I.after b
  |next=>exact Im b
  |brk=>exact Im b
  |cont=>exact Im b
def qf(F:N5 X.prog X.w X.K X.mg X.base CX k f fd ps sp)(i:WR k X.A)(m:Gl X x)(j:X.mg x=b0 (.ref f))(l:Rn X.K (.ref f)=ba)(u:IJ X.K fd ps ds)(o:bT dvs ds)(g:CH CX X E)(v:PA X (e::es) t)(b:(x==("__debug__":Wy))=bb:=by decide)(n:Bi (e::es) X.env=(bb,eval e X.env)::Bi es X.env:=by rfl)(a:(Hk pos (Bi es X.env)).any (·.1)=bb:=by rfl):PE X (.Call (.Name x p) (e::es) [] pos) (Xv sp dvs E t):=by intro y s d H Q I h;refine Hy (AG I m j ?_ b);refine W.callWith_K (h₀:=X.base) I.ok.mod.kin l (Y7 (v pos y s d H _ I h) λB C ⟨z,D,c,r,q⟩=>⟨c.kIn,?_⟩) n a;exact o9 F i u o g c r q
end
structure WC(N P:List Wy)(sc:Xd):Prop where
 kind:sc.kind=.function
 co:sc.isCoroutine=bb
 gen:sc.isGenerator=bb
 nd:N.Nodup
 pre:N.take P.length=P
 par:∀x∈P,sc.names.lookup x=b0 .local∨sc.names.lookup x=b0 .cell
 nofree:∀y∈sc.names,y.2≠ .free
theorem JB{kindOf:Wy->Option Xg}{x:Wy}:∀{binds:List (Wy×Wr)}{m:Wy->Option Wr},(∀v,(x,v)∉binds)->bindL kindOf binds m x=m x
 |[],_,_=>rfl
 | (n,v) :: r,m,h => by
  unfold bindL;rw[JB λw hw=>h w (Ai _ hw)];split;have : x ≠ n := by rintro rfl;exact h v Ag
  simp[this];rfl
theorem IZ{kindOf:Wy->Option Xg}{x:Wy}:∀{binds:List (Wy×Wr)}{m:Wy->Option Wr},(∀v,(x,v)∉binds)->bindC kindOf binds m x=m x
 |[],_,_=>rfl
 | (n,v) :: r,m,h => by
  unfold bindC;rw[IZ λw hw=>h w (Ai _ hw)];split;rfl;have : x ≠ n := by rintro rfl;exact h v Ag
  simp[this]
theorem JA{kindOf:Wy->Option Xg}{x:Wy}{v:Wr}:∀{P:List Wy}{vs:List Wr}{i:Nat}{m:Wy->Option Wr},P.Nodup->P[i]?=b0 x->vs[i]?=b0 v->kindOf x=b0 .local->bindL kindOf (P.zip vs) m x=b0 v
 |[],_,_,_,_,h,_,_=>by simp at h
 |_::_,[],_,_,_,_,h,_=>by simp at h
 |p::P,w::vs,0,m,c,b,a,d=>by simp at b a;subst b;subst a;show bindL kindOf ((p,w)::P.zip vs) m p=_;unfold bindL;rw[JB λv e=>(Ct.mp c).1 (Pr e).1,if_pos d];simp
 |p::P,w::vs,i+1,m,c,b,a,d=>by show bindL kindOf ((p,w)::P.zip vs) m x=_;unfold bindL;exact JA (i:=i) (Ct.mp c).2 (by simpa using b) (by simpa using a) d
theorem IW{kindOf:Wy->Option Xg}{x:Wy}{v:Wr}:∀{P:List Wy}{vs:List Wr}{i:Nat}{m:Wy->Option Wr},P.Nodup->P[i]?=b0 x->vs[i]?=b0 v->kindOf x≠b0 .local->bindC kindOf (P.zip vs) m x=b0 v
 |[],_,_,_,_,h,_,_=>by simp at h
 |_::_,[],_,_,_,_,h,_=>by simp at h
 |p::P,w::vs,0,m,c,b,a,d=>by simp at b a;subst b;subst a;show bindC kindOf ((p,w)::P.zip vs) m p=_;unfold bindC;rw[IZ λv e=>(Ct.mp c).1 (Pr e).1,if_neg d];simp
 |p::P,w::vs,i+1,m,c,b,a,d=>by show bindC kindOf ((p,w)::P.zip vs) m x=_;unfold bindC;exact IW (i:=i) (Ct.mp c).2 (by simpa using b) (by simpa using a) d
def start(N:List Wy)(vs:List V):St:=vs.map b0++Cb (N.length-vs.length) b4
def G3(CX:CXT)(P:Az)(w:Wv)(K:Au)(mg:Wy->Option Wr)(base:Wz)(N:List Wy)(a:Wy)(scope:Xd)(f:Ws)(c:Wr)(A:Bz)(outer:List Env)(s:Af)(H:Hp)(E:XK):Cx where
 prog:=P
 w:=w
 K:=K
 mg:=mg
 base:=base
 A:=A.deeper (Mb a scope s.heap.objs.size f c)
 N:=N
 s₀:=s
 H₀:=H
 env:=Mb a scope s.heap.objs.size f c
 outer:=outer
 stack:=Mb a scope s.heap.objs.size f c::outer
 ex:=[]
 calm:=ba
 fn:=λ_=>ba
 pn:=[]
 xe:=λe d=>Wt (Wu P w) (A.deeper (Mb a scope s.heap.objs.size f c)) (leaving (Mb a scope s.heap.objs.size f c) e) (λ_ b=>CX outer H s E e b) (λg b=>CX outer H s E g b) d
def EL{a:Xd}{n:Nat}{x:Wy}(h:a.names.lookup x=b0 .cell):∃c,(Xe n a.names []).lookup x=b0 c:=by have q:=Th a.names n [] (.inl h);exact Option.isSome_iff_exists.mp q
def pP{CX:CXT}{P:Az}{w:Wv}{K:Au}{mg:Wy->Option Wr}{base:Wz}{N ps:List Wy}{d:Wy}{scope:Xd}{f:Ws}{D:Wr}{A:Bz}{outer:List Env}{s G:Af}{H:Hp}{E:XK}{F:List Wr}{vs:List V}(S:WC N ps scope)(O:A.handled=b4)(j:Env0 P w K mg base A outer s H)(hl:vs.length=ps.length)(r:bT vs F)(x:InCallC s s.heap.objs.size (bindL (Mb d scope s.heap.objs.size f D).kindOf (ps.zip F) λ_=>b4) (Xe (s.heap.objs.size+1) scope.names []) (bindC (Mb d scope s.heap.objs.size f D).kindOf (ps.zip F) λ_=>b4) G):b9 (G3 CX P w K mg base N d scope f D A outer s H E) [] (start N vs) H G:=by
 have M:ps.length<=N.length:=by have:=congrArg List.length S.pre;rw[Cj]at this;lia
 obtain⟨C,R,rfl,J⟩:=x.done;have l:∀b:Ws,b∉(G3 CX P w K mg base N d scope f D A outer s H E).ex:=λb z=>absurd (show b∈([]:List Ws) from z) (by simp);refine⟨⟨j.mod,S.kind,rfl,rfl,Al _,λy z c C g=>?_,λy m=>?_,λy c _ h=>?_,λ_=>O,Around.frames_deeper j.frames,.inr ⟨rfl,rfl⟩,λb z=>absurd z (l b),j.bs,j.bsz,λb _ _=>l b,λb z=>absurd z (l b),j.funs,j.frf⟩,rfl,j.bare,Un.kept J,⟨_,x.toInCall.ns,λi y v C g T=>?_⟩,λy c h=>⟨_,x.cell y c h⟩,j.hok.fresh (Al _),λy c h=>?_,λp t=>absurd (show p∈([]:List (Ws×Xc)) from t) (by simp),j.hok.kept J,?_⟩;exact name_of_addr x.apart (Dq C) (Dq g);have m:scope.names.lookup y=b0 .cell∨scope.names.lookup y=b0 .free:=m;rcases m with m|m;exact EL m;exact absurd rfl (S.nofree _ (Dq m));exact Mt (x.above y c (Dq h))
 ·have B:i<vs.length:=by
   unfold start at g;by_cases B:i<vs.length;exact B
   ·rw [Dk (by simpa using B)]at g
    rw[Fb]at g;split at g<;>cases g
  have Q:vs[i]?=b0 v:=by
   unfold start at g;rw[Ax (by simpa using B),Di]at g;cases e:vs[i]? with
   |none=>rw[e]at g;cases g
   |some a=>rw[e]at g;cases g;rfl
  obtain⟨u,I,L⟩:=r.get Q;have t:ps[i]?=b0 y:=by rw[<-S.pre,Dz (by lia)];exact C
  have o:ps.Nodup:=by rw[<-S.pre];exact S.nd.sublist (List.take_sublist _ _)
  refine⟨u,L,?_⟩;rcases S.par y (Fg t)with k|k;exact .inl ⟨k,JA o t I k⟩;obtain⟨c,e⟩:=EL (n:=s.heap.objs.size+1) k;refine .inr ⟨.inl k,c,e,?_⟩;have q:=x.cell y c e;rw[IW o t I (by show scope.names.lookup y≠_;rw[k];decide)]at q;exact q
 exact j.hok.fresh (Mt (x.above y c (Dq h)));unfold start;show _=N.length;rw[Bm,Bf,Ps];lia
def iF{CX:CXT}{P:Az}{w:Wv}{K:Au}{mg:Wy->Option Wr}{base:Wz}{k:Nat}{f:Ws}{name a:Wy}{d:Arguments}{body:List Xf}{scope:Xd}{M kV doc L c ct U:Wr}{O od:Option Ws}{B:Array (Option Wr)}{N ps:List Wy}{sp:Sp}(X:K.lookup f=b0 ⟨U,od,.func (Ro name a d body scope M kV doc L O c ct),B⟩)(F:Tt K c a=ba)(S:WC N ps scope)(len:∀vs H Q E,sp vs H Q E->vs.length=ps.length)(bp:∀(A:Bz) (outer:List Env) (s:Af) (H:Hp) (vs:List V) (Q:VK) (E:XK),WR k (A.deeper (Mb a scope s.heap.objs.size f c))->sp vs H Q E->∃t,NL (G3 CX P w K mg base N a scope f c A outer s H E) body t/\t {nx:=λ_ h=>Q .non h,rt:=Q} (start N vs) H):N5 P w K mg base CX (k+1) f (Ro name a d body scope M kV doc L O c ct) ps sp:=by
 refine⟨len,λA outer s H args T vs Q E D m hb r j=>?_⟩;have hl:=len _ _ _ _ j;have R:K.In s.heap:=m.mod.kin.keeps λb o e=>(m.bs b o e).1;have C:s.heap.NoLimit:=m.mod.nolimit.keeps λb o e=>(m.bs b o e).1;have g9:∀y∈ps.zip T,scope.names.lookup y.1=b0 .local∨(scope.names.lookup y.1=b0 .cell/\((Xe (s.heap.objs.size+1) scope.names []).lookup y.1).isSome=ba):=λ⟨n,v⟩ Y=>by
  rcases S.par n (Pr Y).1 with q|q;exact .inl q;exact .inr ⟨q,Th _ _ _ (.inl q)⟩
 refine codeAny_call_function D.depth (R _ _ X) rfl S.co S.gen rfl (W.codeRec_of R F) (hb _ _ _ _ ?_);refine wpAny_newFunctionEnv_cells S.kind g9 λenv he G x=>?_;subst he;refine⟨C.keeps x.toInCall.keep,codeAny_func ?_⟩;obtain⟨t,Z,hq⟩:=bp A outer s H vs Q E (D.deeper _) j;have I:b9 (G3 CX P w K mg base N a scope f c A outer s H E) [] (start N vs) H G:=pP S D.hd m hl r x;refine Cg (Z [] G (start N vs) H _ I hq) (λfl p i=>?_) λe p i=>i;have l:∀{g:St}{h:Hp}{v:V}{u:Wr},b9 (G3 CX P w K mg base N a scope f c A outer s H E) [] g h p->bP v u->Q v h->CE outer P w H s Q u p:=
  λ{g h v u} J z q=>⟨v,h,J.os,J.bare,J.base,J.hok,z,q⟩
 cases fl with
 |ret u=>
  obtain⟨v,g,h,J,z,q⟩:=i;exact l J z q
 |next=>
  obtain⟨g,h,J,q⟩:=i;exact l (v:=V.non) (u:=Value.none) J rfl q
 |brk=>
  obtain⟨_,_,_,q⟩:=i;exact Im q
 |cont=>
  obtain⟨_,_,_,q⟩:=i;exact Im q
section
variable{X:Cx}{x:Wy}{p pos:Pos}{e:Ww}{es:List Ww}{t:TA}{id T:String}{r:List V->Hp->VK->Prop}
def tCB(r:List V->Hp->VK->Prop)(t:TA):TE:=λa H Q=>t a H λb c=>r b c Q
def SQ(hc:aH X (.builtin id) r)(n:Gl X x)(m:X.mg x=b4)(k:Bv x=b0 (.builtin id))(q:PA X (e::es) t)(l:x≠ "__name__":=by decide)(b:(x==("__debug__":Wy))=bb:=by decide)(o:Bi (e::es) X.env=(bb,eval e X.env)::Bi es X.env:=by rfl)(a:(Hk pos (Bi es X.env)).any (·.1)=bb:=by rfl):PE X (.Call (.Name x p) (e::es) [] pos) (tCB r t):=by intro d s c H Q I h;refine Hy (QW I n m k ?_ l b);exact PyProof.Rows.callWith_builtin1 (Y7 (q pos d s c H _ I h) λg i ⟨f,v,u,j,q1⟩=>hc d i c v f g Q u j q1) o a
def XF(hc:aH X (.type T) r)(n:Gl X x)(m:X.mg x=b4)(k:Bv x=b0 (.type T))(q:PA X (e::es) t)(l:x≠ "__name__":=by decide)(b:(x==("__debug__":Wy))=bb:=by decide)(o:Bi (e::es) X.env=(bb,eval e X.env)::Bi es X.env:=by rfl)(a:(Hk pos (Bi es X.env)).any (·.1)=bb:=by rfl):PE X (.Call (.Name x p) (e::es) [] pos) (tCB r t):=by intro d s c H Q I h;refine Hy (QW I n m k ?_ l b);exact Fa (Y7 (q pos d s c H _ I h) λg i ⟨f,v,u,j,q1⟩=>hc d i c v f g Q u j q1) o a
end
end L2
namespace HT
open PySem PyProof.Rows
section
variable{prog:Az}{w:Wv}{A:Bz}{E:Wr->Af->Prop}{s:Af}
def zIX{t b:Ws}{vs a:List Wr}{Q:Wr->Af->Prop}(q:IsTup s.heap t vs.toArray)(r:IsTup s.heap b a.toArray)(l:vs≠[])(v:a=[]->Q (.ref t) s)(u:a≠[]->Q (.ref s.heap.objs.size) {s with heap:=s.heap.push {cls:=.type "tuple",data:=.seq (vs++a).toArray}})(hsz:vs.length+a.length<=sizeLine):Wt (Wu prog w) A (Hv .Add (.ref t) (.ref b)) Q E s:=by
 obtain⟨⟨j,p,data,sl⟩,i,hc,n,o⟩:=id q;obtain⟨⟨x,h,data2,d⟩,c,g,k,f⟩:=id r;simp only at hc o g f;subst hc o g f;have e:vs.toArray++a.toArray=(vs++a).toArray:=by simp
 by_cases hw:a=[];exact Pt ⟨_,i,rfl⟩ ⟨_,c,rfl⟩ Pa Rp Kc Jp (Ji _ _)
  (tuple_addW1 t b vs.toArray a.toArray n k p h sl d (by simpa using l) (by simp[hw])) ⟨i,c,v hw⟩
 refine Pt ⟨_,i,rfl⟩ ⟨_,c,rfl⟩ Pa Rp Kc Jp (Ji _ _)
  (tuple_addW2 t b vs.toArray a.toArray n k p h sl d (by simpa using l) (by simpa using hw) (by rw[At,At];exact hsz)) ⟨i,c,?_⟩
 rw[e];exact u hw
def sIx(n d:Nat):Option Int->Nat
 |none=>d
 |some v=>if v<0 then(v+(n:Int)).toNat else min v.toNat n
def P0(n d:Nat):sIx n d b4=d:=rfl
def HX(n d k:Nat):sIx n d (b0 (k:Int))=min k n:=by show(if(k:Int)<0 then((k:Int)+(n:Int)).toNat else min (k:Int).toNat n)=min k n;rw[if_neg (by lia),Hb]
def lZ(n d:Nat)(b:d<=n)(o:Option Int):sIx n d o<=n:=by
 cases o with
 |none=>exact b
 |some v=>
  show(if v<0 then(v+(n:Int)).toNat else min v.toNat n)<=n;by_cases a:v<0;rw[if_pos a];lia;rw[if_neg a];exact Nat.min_le_right _ _
def fZ(v:Int)(n d:Nat):(if v<0 then max (v+(n:Int)) 0 else min v (n:Int))=((sIx n d (b0 v):Nat):Int):=by
 show(if v<0 then max (v+(n:Int)) 0 else min v (n:Int))=(((if v<0 then(v+(n:Int)).toNat else min v.toNat n):Nat):Int);by_cases a:v<0;simp only[if_pos a];lia;simp only[if_neg a];lia
def CL(lo a:Option Int)(n:Nat):Iw lo a 1 (n:Int)=(((sIx n 0 lo:Nat):Int),((sIx n n a:Nat):Int)):=by
 have b:¬((1:Int)<0):=by lia
 unfold Iw;simp only[b,if_false];refine Vg ?_ ?_;cases lo with
 |none=>rfl
 |some v=>exact fZ v n 0
 cases a with
 |none=>rfl
 |some v=>exact fZ v n n
def DM(i j:Nat):Gu (i:Int) (j:Int) 1=j-i:=by
 unfold Gu;have a:(1:Int)>0:=by lia
 simp only[a,if_true,Int.ediv_one];split<;>lia
def ML{v:Wr}{o:Option Int}{Q:Option Int->Af->Prop}(p:IsPart v o)(h:Q o s):Wt (Wu prog w) A (Tu v) Q E s:=by
 cases p with
 |none=>exact slicePart_none h
 |int i t=>exact slicePart_int h
def UU{sl:Ws}{e d:Wr}{lo b:Option Int}{n:Nat}{Q:Int×Int×Nat->Af->Prop}(hs:s.heap.IsSliceOf sl e d .none)(pl:IsPart e lo)(pu:IsPart d b)(h:Q (((sIx n 0 lo:Nat):Int),1,sIx n n b-sIx n 0 lo) s):Wt (Wu prog w) A (Mp (.ref sl) (pure (n:Int))) Q E s:=by obtain⟨os,a,f,c⟩:=id hs;unfold Mp Ur;refine Aa (Aa (Fc a c (x:=e) rfl (Aa (Fc a c (x:=d) rfl (Aa (Fc a c (x:=.none) rfl (Ad ?_)))))));refine Aa (slicePart_none ?_);show Wt _ _ (if((1:Int)==0)=ba then _ else _) _ _ s;rw[if_neg (by decide)];refine Aa (ML pl (Aa (ML pu (Aa (Ad ?_)))));show Wt _ _ (match Iw lo b 1 (n:Int)with|(lo,b)=>pure (lo,(1:Int),Gu lo b 1)) _ _ s;rw[CL lo b n];show Wt _ _ (pure (((sIx n 0 lo:Nat):Int),(1:Int),Gu ((sIx n 0 lo:Nat):Int) ((sIx n n b:Nat):Int) 1)) _ _ s;rw[DM];exact Ad h
def lI(xs:Array Wr)(i k:Nat):((Ao k).filterMap λ(m:Nat)=>xs[((i:Int)+(m:Int)*1).toNat]?).toArray=((xs.toList.drop i).take k).toArray:=by
 have e:(λ(m:Nat)=>xs[((i:Int)+(m:Int)*1).toNat]?)=λm=>xs[i+m]? :=by
  funext m;have:((i:Int)+(m:Int)*1).toNat=i+m:=by lia
  rw[this]
 rw[e];have:=pick_run xs i k;rw[Rq]at this;have a:((λx=>xs[x]?)∘λx=>i+x)=λm=>xs[i+m]? :=rfl;rw[a]at this;rw[this]
def PC{t sl:Ws}{items:Array Wr}{j i:Wr}{lo a:Option Int}{Q:Wr->Af->Prop}(b:IsTup s.heap t items)(hs:s.heap.IsSliceOf sl j i .none)(pl:IsPart j lo)(pu:IsPart i a)(hw:¬(sIx items.size 0 lo=0/\sIx items.size items.size a=items.size))(h:Q (.ref s.heap.objs.size) {s with heap:=s.heap.push {cls:=.type "tuple",data:=.seq ((items.toList.drop (sIx items.size 0 lo)).take (sIx items.size items.size a-sIx items.size 0 lo)).toArray}})(hsz:items.size<=sizeLine):Wt (Wu prog w) A (Of (.ref t) (.ref sl)) Q E s:=by
 have c:sizeOk (.seq ((items.toList.drop (sIx items.size 0 lo)).take (sIx items.size items.size a-sIx items.size 0 lo)).toArray):=by show((items.toList.drop (sIx items.size 0 lo)).take (sIx items.size items.size a-sIx items.size 0 lo)).toArray.size<=sizeLine;rw[At,Cj,Li,Dm];lia
 have n:sIx items.size items.size a<=items.size:=lZ _ _ (Al _) a;obtain⟨os,d,f,l⟩:=id hs;have g:s.TypeIs (.ref sl) "slice":=⟨os,d,f⟩;unfold Of;try with_reducible refine Bu ?_
 first|refine Aa (Ad ?_)|skip
 refine Aa (Nj b.typeIs (by decide) ?_);refine Aa (Dc (name:=Ay "__getitem__") b.typeIs Fi
  (Ck Fi b.typeIs entry_tuple_getitem ?_ (args_tuple_getitem _ _)))
 show Wt _ _ (Iq (.ref t)>>=_) _ _ s;refine Aa (tupleItemsOf_ b ?_);refine Aa (Fn g ?_);rw[if_pos (by decide)];refine Aa (UU hs pl pu ?_);have e:¬((((sIx items.size 0 lo:Nat):Int)==0&&(1:Int)==1&&(sIx items.size items.size a-sIx items.size 0 lo)==items.size)=ba):=by intro q;rw[Ah,Ah]at q;have q1:((sIx items.size 0 lo:Nat):Int)=0:=eq_of_beq q.1.1;have q2:sIx items.size items.size a-sIx items.size 0 lo=items.size:=eq_of_beq q.2;exact hw ⟨by lia,by lia⟩
 show Wt _ _ (if(((sIx items.size 0 lo:Nat):Int)==0&&(1:Int)==1&&(sIx items.size items.size a-sIx items.size 0 lo)==items.size)=ba then _ else _) _ _ s;rw[if_neg e,lI]
 first
  |exact Aa (m:=Hc _) (Cp (Ad ⟨_,rfl,Ad h⟩) c)
  |exact Aa (m:=Hc _) (Cp (Aa (Ad (Ad ⟨_,rfl,Ad h⟩))) c)
  |exact Aa (Aa (m:=Hc _) (Cp (Ad (Ad ⟨_,rfl,Ad h⟩)) c))
  |exact Aa (Aa (m:=Hc _) (Cp (Ad ⟨_,rfl,Ad h⟩) c))
end
end HT
namespace L2
open PySem PySem.Spec PyProof.Rows
abbrev TO:=St->Hp->(Option Int->Hp->Prop)->Prop
def PO(X:Cx)(e:Option Ww)(t:TO):Prop:=
 ∀(b:List (Ws×Xc)) (s:Af) (a:St) (H:Hp) (Q:Option Int->Hp->Prop),b9 X b a H s->t a H Q->
  Wt (Wu X.prog X.w) X.A (evalPart e X.env) (λu d=>∃o c,b9 X b a c d/\IsPart u o/\Q o c) X.xe s
def p6:TO:=λ_ H Q=>Q b4 H
def jO(t:TE):TO:=λa H Q=>t a H λx b=>∃i,x=.int i/\Q (b0 i) b
def QV{ns:List Int}:∀{a:List Wr},bT (ns.map V.int) a->Ie a ns:=by
 induction ns with
 |nil=>intro a r;rw[Dj]at r;cases r;exact .nil
 |cons n ns d=>
  intro a r;rw[Av]at r;cases r with
  |cons c b=>
   obtain⟨t,e⟩:=c;subst e;exact .cons n t (d b)
section
variable{X:Cx}{e:Ww}{te:TE}{lo hi:Option Ww}{tl th:TO}{pos p2:Pos}
def zHQ:PO X b4 p6:=by intro b s a H Q I h;rw[evalPart_none];exact Ad ⟨b4,H,I,.none,h⟩
def jP(h:PE X e te):PO X (b0 e) (jO te):=by intro c s a H Q I hw;rw[evalPart_some];refine Y7 (h c s a H _ I hw) λu g ⟨x,f,d,b,q1⟩=>?_;obtain⟨i,rfl,q⟩:=q1;obtain⟨t,rfl⟩:=b;exact⟨b0 i,f,d,.int i t,q⟩
def SlR(X:Cx)(r:V->Option Int->Option Int->Hp->VK->Prop):Prop:=
 ∀(d:List (Ws×Xc)) (s:Af) (a:St) (H:Hp) (x:V) (v c b:Wr) (lo hi:Option Int) (sl:Ws) (Q:VK),b9 X d a H s->bP x v->s.heap.IsSliceOf sl c b .none->IsPart c lo->IsPart b hi->r x lo hi H Q->
  ∃T id,typeLookup (.type T) "__getitem__"=pure (b0 (.builtin id))/\s.TypeIs v T/\Wt (Wu X.prog X.w) X.A (Of v (.ref sl)) (EP X d a Q) X.xe s
def SlR.or{r e:V->Option Int->Option Int->Hp->VK->Prop}(h:SlR X r)(h':SlR X e):SlR X (λx lo hi H Q=>r x lo hi H Q∨e x lo hi H Q):=by
 intro j s a H x v c b lo hi sl Q I d i g f q;rcases q with q|q;exact h j s a H x v c b lo hi sl Q I d i g f q;exact h' j s a H x v c b lo hi sl Q I d i g f q
def tSl(r:V->Option Int->Option Int->Hp->VK->Prop)(te:TE)(tl th:TO):TE:=λa H Q=>te a H λx d=>tl a d λl c=>th a c λu b=>r x l u b Q
def nq{r:V->Option Int->Option Int->Hp->VK->Prop}(z:SlR X r)(C:PE X e te)(hl:PO X lo tl)(t:PO X hi th):PE X (.Subscript e (.Slice lo hi b4 p2) pos) (tSl r te tl th):=by intro f s d H Q I h;refine Subscript_ (Y7 (C f s d H _ I h) λv m ⟨x,L,J,n,q1⟩=>?_);refine wpAny_Slice (Y7 (hl f m d L _ J q1) λi k ⟨l,K,G,p,q2⟩=>Y7 (t f k d K _ G q2) λg a ⟨u,j,F,o,q3⟩=>?_);rw[evalPart_none];refine Ad ?_;have E:b9 X f d j {a with heap:=a.heap.push {cls:=.type "slice",data:=.fields #[i,g,.none]}}:=F.kept (t':=a.toks) λb M q=>Ae _ q;obtain⟨T,id,D,y,B⟩:=z f {a with heap:=a.heap.push {cls:=.type "slice",data:=.fields #[i,g,.none]}} d j x v i g l u a.heap.objs.size Q E n (Wp ..) p o q3;show Wt (Wu X.prog X.w) X.A (subscriptTail e (.Slice lo hi b4 p2) v (.ref a.heap.objs.size)) (EP X f d Q) X.xe {a with heap:=a.heap.push {cls:=.type "slice",data:=.fields #[i,g,.none]}};exact Vk (ops:=[.ref a.heap.objs.size,v]) y D B (by with_unfolding_all rfl)
def EN(xs:List V)(lo hi:Option Int):List V:=(xs.drop (HT.sIx xs.length 0 lo)).take (HT.sIx xs.length xs.length hi-HT.sIx xs.length 0 lo)
def NP(xs:List V)(lo hi:Option Int):(EN xs lo hi).length<=xs.length:=by unfold EN;rw[Cj,Li];lia
def rSlT(K:Au):V->Option Int->Option Int->Hp->VK->Prop:=λx lo hi H Q=>∃a b,x=.ref a/\WT K H a b∧
 ¬(HT.sIx b.length 0 lo=0/\HT.sIx b.length b.length hi=b.length)/\∀p,H p=b4->Q (.ref p) (Z8 H p (.tup (EN b lo hi)))
def zL9:SlR X (rSlT X.K):=by
 intro w s n H x v t p lo hi sl Q I i m k j h;obtain⟨a,d,rfl,l,hw,q⟩:=h;cases i;obtain⟨e,r,g,f⟩:=I.tuple l;have c:e.toArray.size=d.length:=by rw[At];exact r.length.symm
 refine⟨"tuple",_,PyProof.Rows.slot_tuple_getitem.lookup,g.typeIs,?_⟩;refine HT.PC g m k j (by rw[c];exact hw) ?_ (by rw[c];exact f);rw[c];refine⟨.ref s.heap.objs.size,_,I.laid (t':=s.toks) (o:=.tup (EN d lo hi)) (λb u q=>Ae _ q) (Al _) ?_,rfl,q _ (I.hok.fresh (Al _))⟩;exact⟨Fl (NP d lo hi) f,_,(r.drop (HT.sIx d.length 0 lo)).take (HT.sIx d.length d.length hi-HT.sIx d.length 0 lo),Ni _ _⟩
def bT.nil_iff{xs:List V}{a:List Wr}(r:bT xs a):a=[]↔xs=[]:=by
 cases r with
 |nil=>simp
 |cons _ _=>simp
end
def HB(n:Nat)(i:Int):Option Nat:=if 0<=i then(if i<n then b0 i.toNat else b4)else if -(n:Int)<=i then b0 (i+n).toNat else b4
def U8{a:Type}(xs:List a)(i:Int):Option a:=(HB xs.length i).bind λj=>xs[j]?
def Zq{n:Nat}{i:Int}{j:Nat}(h:HB n i=b0 j):seqIndex? i n=b0 j/\j<n/\ -(n:Int)<=i/\i<n:=by
 unfold HB at h;by_cases b:0<=i;rw[if_pos b]at h;by_cases a:i<n;rw[if_pos a]at h;have e:i.toNat=j:=Cd h;exact⟨by rw[Ud b a,e],by lia,by lia,a⟩;rw[if_neg a]at h;cases h;rw[if_neg b]at h;by_cases a: -(n:Int)<=i;rw[if_pos a]at h;have e:(i+n).toNat=j:=Cd h;exact⟨by rw[Td (by lia) a,e],by lia,a,by lia⟩;rw[if_neg a]at h;cases h
def GU{a:Type}{xs:List a}{i:Int}{v:a}(h:U8 xs i=b0 v):∃j,seqIndex? i xs.length=b0 j/\xs[j]?=b0 v/\j<xs.length/\ -(xs.length:Int)<=i/\i<xs.length:=by
 unfold U8 at h;cases e:HB xs.length i with
 |none=>rw[e]at h;cases h
 |some j=>
  rw[e]at h;obtain⟨f,d,c,b⟩:=Zq e;exact⟨j,f,h,d,c,b⟩
def R0{a:Type}(xs:List a)(v:a):U8 (xs++[v]) (-1)=b0 v:=by
 have hl:(xs++[v]).length=xs.length+1:=by simp
 have e:HB (xs++[v]).length (-1)=b0 xs.length:=by unfold HB;rw[hl,if_neg (by decide),if_pos (by lia)];congr 1;lia
 unfold U8;rw[e];show(xs++[v])[xs.length]?=b0 v;simp
def GQ(b:Ww):Prop:=∀o i,subscripted b bb o i=operate [o,i] (Of o i)
def IxR(X:Cx)(r:R2):Prop:=
 ∀(value a:Ww) (c:List (Ws×Xc)) (s:Af) (b:St) (H:Hp) (x y:V) (v u:Wr) (Q:VK),b9 X c b H s->bP x v->bP y u->r x y H Q->
  subscripted a bb v u=operate [v,u] (Of v u)->Wt (Wu X.prog X.w) X.A (subscriptTail value a v u) (EP X c b Q) X.xe s
def MtR(X:Cx)(id:String)(r:V->List V->Hp->VK->Prop):Prop:=
 ∀(d:List (Ws×Xc)) (s:Af) (a:St) (H:Hp) (x:V) (b:List V) (v:Wr) (c:List Wr) (Q:VK),b9 X d a H s->bP x v->bT b c->r x b H Q->
  Wt (Wu X.prog X.w) X.A (call (.builtin id) (v::c)) (EP X d a Q) X.xe s
section
variable{X:Cx}{a b:Ww}{ta tb:TE}{pos:Pos}
def IxR.or{r e:R2}(h:IxR X r)(h':IxR X e):IxR X (λx y H Q=>r x y H Q∨e x y H Q):=by
 intro value a g s b H x y v u Q I d c q f;rcases q with q|q;exact h value a g s b H x y v u Q I d c q f;exact h' value a g s b H x y v u Q I d c q f
def kU{r:R2}(g:IxR X r)(j:PE X a ta)(i:PE X b tb)(hs:GQ b):PE X (.Subscript a b pos) (tOp r ta tb):=by intro k s c H Q I h;exact Subscript_ (binT j i I h λv u d x y m l f e q=>g a b k d c m x y v u Q l f e q (hs _ _))
def rIxL(K:Au):R2:=λx y H Q=>∃p a i v,x=.ref p/\y=.int i/\WZ K H p a/\U8 a i=b0 v/\Q v H
def rIxT(K:Au):R2:=λx y H Q=>∃p a i v,x=.ref p/\y=.int i/\WT K H p a/\U8 a i=b0 v/\Q v H
def rIxS:R2:=λx y H Q=>∃z i c,x=.str z/\y=.int i/\z.length<=sizeLine/\U8 z.cps.toList i=b0 c/\Q (.str ⟨#[c]⟩) H
def zIK:IxR X (rIxL X.K):=by
 intro value c o s k H x y v u Q I C B h l;obtain⟨p,L,i,z,rfl,rfl,D,E,q⟩:=h;cases C;obtain⟨t,rfl⟩:=B;obtain⟨f,r,e,M⟩:=I.list D;obtain⟨j,b,J,O,G,F⟩:=GU E;obtain⟨w,n,d⟩:=r.get J;have hl:=r.length;have N:=OI;have a:EP X o k Q w s:=⟨z,H,I,d,q⟩;by_cases m:0<=i;have g:i.toNat=j:=by rw[Ud m F]at b;exact Cd b
 exact item_listR e.isList m (by lia) (by rw[g];simpa using n) a l
 ·have g:(i+(f.toArray.size:Int)).toNat=j:=by rw[Td (by lia) G]at b;rw[At,<- hl];exact Cd b
  exact Pe (x:=w) e.isList.typeIs slot_list_getitem.lookup
   (wpAny_getItem_list_neg (Q:=λr A=>r=w/\EP X o k Q r A) e.isList (by lia) (by rw[At]<;>lia) (by lia) (by rw[g];simpa using n) ⟨rfl,a⟩) l
def zMX:IxR X (rIxT X.K):=by
 intro value a f s d H x y v u Q I l k h n;obtain⟨p,E,i,z,rfl,rfl,o,A,q⟩:=h;cases l;obtain⟨t,rfl⟩:=k;obtain⟨m,r,e,F⟩:=I.tuple o;obtain⟨j,C,B,M,L,J⟩:=GU A;obtain⟨w,D,b⟩:=r.get B;have hl:=r.length;have G:=OI;have c:EP X f d Q w s:=⟨z,H,I,b,q⟩;exact Pe (x:=w) e.typeIs slot_tuple_getitem.lookup
  (getItem_tuple (j:=j) (Q:=λr g=>r=w/\EP X f d Q r g) e (by lia) (by lia) (by rw[At,<-hl];exact C) (by simpa using D) ⟨rfl,c⟩) n
def rP:IxR X rIxS:=by
 intro value a C s p H x y v u Q I e d h f;obtain⟨z,i,c,rfl,rfl,w,g,q⟩:=h;obtain⟨t,rfl⟩:=e;obtain⟨r,rfl⟩:=d;obtain⟨j,b,m,B,l,k⟩:=GU g;have hl:z.cps.toList.length=z.length:=by simp[Str.length]
 rw[hl]at b l k;have A:=OI;exact Vk (typeIs_str s z t) slot_str_getitem.lookup (getItem_str (c:=c) (by have o:decide (i< -(2 ^ 63:Int))=bb:=decide_eq_false (by lia);have n:decide (i≥2 ^ 63)=bb:=decide_eq_false (by lia);rw[o,n,Vl]) (by rw[b];simpa using m) ⟨.str ⟨#[c]⟩,H,I.tok _,⟨_,rfl⟩,q⟩) f
def rIx(K:Au):R2:=λx y H Q=>rIxL K x y H Q∨rIxT K x y H Q∨rIxS x y H Q
def zMZ:IxR X (rIx X.K):=zIK.or (zMX.or rP)
def C7(a:List Wr)(n j:Nat)(u:Wr):El (·.setIfInBounds j u) {cls:=.type "list",data:=.seq a.toArray n}={cls:=.type "list",data:=.seq (a.set j u).toArray n}:=by simp[El]
def b9.lst{c:List (Ws×Xc)}{b:St}{H:Hp}{s:Af}{p:Ws}{xs:List V}(I:b9 X c b H s)(h:H p=b0 (.lst xs)):∃(a:List Wr) (n:Nat),bT xs a/\s.heap.get? p=b0 {cls:=.type "list",data:=.seq a.toArray n}/\xs.length<=sizeLine:=by obtain⟨z,a,n,r,e⟩:=I.hok p _ h;exact⟨a,n,r,e,z⟩
def b9.lstUpd{j:List (Ws×Xc)}{d:St}{H:Hp}{s:Af}{p:Ws}{xs ys:List V}{a its':List Wr}{n c:Nat}{f:Xc->Xc}(I:b9 X j d H s)(h:H p=b0 (.lst xs))(k:s.heap.get? p=b0 {cls:=.type "list",data:=.seq a.toArray n})(g:f {cls:=.type "list",data:=.seq a.toArray n}={cls:=.type "list",data:=.seq its'.toArray c})(r:bT ys its')(hz:ys.length<=sizeLine)(t:Nat):b9 X j d (Z8 H p (.lst ys)) {s with heap:=s.heap.update p f,toks:=t}:=by
 have e:(s.heap.update p f).get? p=b0 {cls:=.type "list",data:=.seq its'.toArray c}:=by rw[Et f k (by rw[g]<;>rfl),g]
 refine I.write (x:=p) (e:=p) (by rw[h];trivial) (.inl rfl) (λb u l q=>(Hs _ _ (Dg l)).trans q) ⟨_,e⟩ ?_;exact⟨hz,its',c,r,e⟩
def jS:V->V->V->Hp->(Hp->Prop)->Prop:=λo i v H Q=>∃p a k j,o=.ref p/\i=.int k/\H p=b0 (.lst a)/\HB a.length k=b0 j/\Q (Z8 H p (.lst (a.set j v)))
def kF:PSet X jS:=by
 intro E s x H o i v F G u Q I A B z h;obtain⟨p,y,k,j,rfl,rfl,e,D,q⟩:=h;cases A;obtain⟨t,rfl⟩:=B;obtain⟨a,n,r,c,C⟩:=I.lst e;obtain⟨b,K,l,g⟩:=Zq D;have hl:=r.length;have J:=OI;have w:b9 X E x (Z8 H p (.lst (y.set j v))) {s with heap:=s.heap.update p (El (·.setIfInBounds j u))}:=
  I.lstUpd e c (C7 a n j u) (r.set z j) (by rw[Ce];exact C) s.toks
 by_cases m:0<=k;have d:k.toNat=j:=by rw[Ud m g]at b;exact Cd b
 exact W.ki_setAt c m (by lia) (by rw[At,<-hl];exact g) (by rw[d];exact⟨_,w,q⟩);have d:(k+(a.toArray.size:Int)).toNat=j:=by rw[Td (by lia) l]at b;rw[At,<- hl];exact Cd b
 exact W.ki_setBack c (by lia) (by rw[At,<-hl];exact l) (by lia) (by rw[d];exact⟨_,w,q⟩)
def HY(lo a:Option Int)(n:Nat):(Kj lo a b4 n).1=((HT.sIx n 0 lo:Nat):Int)/\(Kj lo a b4 n).2.1=((HT.sIx n n a:Nat):Int)/\(Kj lo a b4 n).2.2=1:=by
 refine⟨?_,?_,rfl⟩
 ·cases lo with
  |none=>simp[Kj,HT.sIx]
  |some i=>
   simp only[Kj,HT.sIx,Ti,show(1:Int)>0 by decide,if_true];by_cases h:i<0
   ·simp only[h,if_true]<;>lia
   ·simp only[h,if_false]<;>lia
 ·cases a with
  |none=>simp[Kj,HT.sIx]
  |some i=>
   simp only[Kj,HT.sIx,Ti,show(1:Int)>0 by decide,if_true];by_cases h:i<0
   ·simp only[h,if_true]<;>lia
   ·simp only[h,if_false]<;>lia
def KU(a:List Wr)(lo b:Option Int):slicePick a.toArray lo b b4=((a.drop (HT.sIx a.length 0 lo)).take (HT.sIx a.length a.length b-HT.sIx a.length 0 lo)).toArray:=by obtain⟨e,d,c⟩:=HY lo b a.toArray.size;unfold slicePick;rw[e,d,c];simp only[sliceRange_one,pick_run,At]<;>rfl
def rSlL(K:Au):V->Option Int->Option Int->Hp->VK->Prop:=λx lo c H Q=>∃a b,x=.ref a/\WZ K H a b/\∀p,H p=b4->Q (.ref p) (Z8 H p (.lst (EN b lo c)))
def ny:SlR X (rSlL X.K):=by intro y s p H x v u t lo e sl Q I g n j i h;obtain⟨a,c,rfl,m,q⟩:=h;cases g;obtain⟨k,r,f,l⟩:=I.list m;have d:=r.length;refine⟨"list",_,slot_list_getitem.lookup,f.isList.typeIs,?_⟩;refine wpAny_getItem_list_slice f.isList n j i .none (by simp) ?_ (by rw[At]<;>lia);rw[KU,<-d];refine⟨.ref s.heap.objs.size,_,I.laid (t':=s.toks) (o:=.lst (EN c lo e)) (λb w q=>Ae _ q) (Al _) ?_,rfl,q _ (I.hok.fresh (Al _))⟩;exact⟨Fl (NP c lo e) l,_,0,(r.drop (HT.sIx c.length 0 lo)).take (HT.sIx c.length c.length e-HT.sIx c.length 0 lo),Ar _ rfl⟩
def GY:aH X (.builtin "len") (λf H Q=>∃p ys,f=[.ref p]/\(WZ X.K H p ys∨WT X.K H p ys)/\Q (.int ys.length) H):=by
 intro m s j H f k Q I r h;obtain⟨p,ys,rfl,b,q⟩:=h;obtain⟨u,rfl,g⟩:=VZ r;cases g;have l:=OI;rcases b with b|b
 ·obtain⟨e,c,d,i⟩:=I.list b
  have a:=c.length;exact Calls.call_len_list d.isList (by simp only[At]<;>lia) ⟨.int ys.length,H,I.tok _,⟨s.toks+1,by rw[At,a]⟩,q⟩
 ·obtain⟨e,c,d,i⟩:=I.tuple b
  have a:=c.length;exact len_tuple d (by simp only[At]<;>lia) ⟨.int ys.length,H,I.tok _,⟨s.toks+1,by rw[At,a]⟩,q⟩
def GZ:aH X (.builtin "len") (λa H Q=>∃z,a=[.str z]/\z.length<=sizeLine/\Q (.int z.length) H):=by intro f s b H a c Q I r h;obtain⟨z,rfl,d,q⟩:=h;obtain⟨u,rfl,t,rfl⟩:=VZ r;have e:=OI;exact len_str (by lia) ⟨.int z.length,H,I.tok _,⟨_,rfl⟩,q⟩
def aH.or{f:Wr}{r e:List V->Hp->VK->Prop}(h:aH X f r)(h':aH X f e):aH X f (λa H Q=>r a H Q∨e a H Q):=by
 intro g s b H a c Q I d q;rcases q with q|q;exact h g s b H a c Q I d q;exact h' g s b H a c Q I d q
def G0:aH X (.type "list") (λy H Q=>∃p ys,y=[.ref p]/\(WZ X.K H p ys∨WT X.K H p ys)/\∀l,H l=b4->Q (.ref l) (Z8 H l (.lst ys))):=by
 intro D s B H y E Q I r h;obtain⟨p,ys,rfl,j,q⟩:=h;obtain⟨u,rfl,C⟩:=VZ r;cases C;have m:∀(a:List Wr),bT ys a->ys.length<=sizeLine->∀(c:Wz) (f:Nat),(∀b z,s.heap.get? b=b0 z->c.get? b=b0 z)->
   c.get? s.heap.objs.size=b0 {cls:=.type "list",dict:=b4,data:=.seq a.toArray f,slots:= #[]}->EP X D B Q (.ref s.heap.objs.size) {s with heap:=c}:=λa d i c f g e=>
  ⟨.ref s.heap.objs.size,_,I.laid (t':=s.toks) g (Al _) (show ZY X.prog X.w _ c _ (.lst ys) from⟨i,a,f,d,e⟩),rfl,q _ (I.hok.fresh (Al _))⟩
 rcases j with j|j
 ·obtain⟨a,d,t,i⟩:=I.list j
  have k:=d.length;obtain⟨o,v,hc,n,x⟩:=t.isList;exact call_list_seq p (.inl rfl) v hc x (λc f g e=>m a d i c f g e) (by simp only[At]<;>lia)
 ·obtain⟨a,d,t,i⟩:=I.tuple j
  have k:=d.length;obtain⟨o,v,hc,n,x⟩:=t;exact call_list_seq p (.inr rfl) v hc x (λc f g e=>m a d i c f g e) (by simp only[At]<;>lia)
def KQ:aH X (.type "tuple") (λk H Q=>∃p ys,k=[.ref p]/\((WZ X.K H p ys/\∀l,H l=b4->Q (.ref l) (Z8 H l (.tup ys)))∨(WT X.K H p ys/\Q (.ref p) H))):=by
 intro t s j H k A Q I r h;obtain⟨p,ys,rfl,h⟩:=h;obtain⟨u,rfl,x⟩:=VZ r;cases x;rcases h with⟨i,q⟩|⟨i,q⟩
 ·obtain⟨a,f,g,m⟩:=I.list i
  have n:=f.length;refine call_tuple_list g.isList (λd y=>?_) (by simp only[At]<;>lia);have v:b9 X t j H {s with heap:=d}:=I.kept (t':=s.toks) y;have z:b9 X t j (Z8 H d.objs.size (.tup ys)) {s with heap:=d.push {cls:=.type "tuple",data:=.seq a.toArray}}:=
   v.laid (t':=s.toks) (λb o e=>Ae _ e) (Al _) (show ZY X.prog X.w _ _ _ (.tup ys) from⟨m,a,f,Ni _ _⟩)
  exact⟨.ref d.objs.size,_,z,rfl,q _ (v.hok.fresh (Al _))⟩
 obtain⟨a,f,g,m⟩:=I.tuple i;exact call_tuple_same g ⟨.ref p,H,I,rfl,q⟩
def tyV(K:Au)(T:String)(x:V)(H:Hp):Prop:=match x with
 |.str _=>T= "str"
 |.int _=>T= "int"
 | .ref p => (T = "list" /\ ∃ b,WZ K H p b) ∨ (T = "tuple" /\ ∃ o,K.lookup p = b0 o /\ o.cls = .type "tuple" /\ o.dict = b4) ∨
   (T= "dict" /\((∃a,H p=b0 (.dK a))∨∃a,H p=b0 (.dT a)))∨(T= "set" /\∃S n,H p=b0 (.set S n))
 |_=>False
def m9{u:List (Ws×Xc)}{l:St}{H:Hp}{s:Af}{T:String}{x:V}{v:Wr}(I:b9 X u l H s)(r:bP x v)(ty:tyV X.K T x H):s.TypeIs v T/\∀a,v=.ref a->∃k,s.heap.get? a=b0 k/\k.dict=b4:=by
 cases x with
 |str z=>
  obtain⟨t,rfl⟩:=r;cases (show T= "str" from ty);exact⟨typeIs_str s z t,λ_ e=>nomatch e⟩
 |int i=>
  obtain⟨t,rfl⟩:=r;cases (show T= "int" from ty);exact⟨typeIs_int s i t,λ_ e=>nomatch e⟩
 |ref p=>
  cases r;rcases ty with⟨rfl,w,q⟩|⟨rfl,o,b,hc,g⟩|⟨rfl,b⟩|⟨rfl,S,n,b⟩
  obtain⟨m,_,j,_⟩:=I.list q;refine⟨j.isList.typeIs,λa e=>?_⟩;cases e;obtain⟨o,n,e,c,g,_⟩:=j;exact⟨o,e,g⟩;refine ⟨⟨o,I.kIn p o b,hc⟩,λa e => ?_⟩;cases e;exact⟨o,I.kIn _ o b,g⟩;have z: ∃o,s.heap.get? p=b0 o/\o.ExactDict:=by
   rcases b with⟨f,b⟩|⟨f,b⟩;obtain⟨_,_,_,_,o,_,_,e,d,_⟩:=I.hok p _ b;exact⟨o,e,d⟩;obtain⟨_,_,_,_,o,_,_,e,d,_⟩:=I.hok p _ b;exact⟨o,e,d⟩
  obtain⟨o,e,d⟩:=z;refine⟨⟨o,e,d.1⟩,λa h=>?_⟩;cases h;exact⟨o,e,d.2.1⟩;obtain⟨o,_,_,_,e,d,_⟩:=I.hok p _ b;refine⟨⟨o,e,d.1⟩,λa h=>?_⟩;cases h;exact⟨o,e,d.2.1⟩
 |_=>exact Im ty
def tBM(K:Au)(T:String)(r:V->List V->Hp->VK->Prop)(to:TE)(t:TA):TE:=λa H Q=>to a H λx b=>tyV K T x b/\t a b λc d=>r x c d Q
variable{o e:Ww}{es:List Ww}{to:TE}{t:TA}{name:Wy}{aj ab:Pos}{T id:String}{r:V->List V->Hp->VK->Prop}
def kg(n:PlainAttrs T)(slot:Slot T name id)(b:typeOf (.builtin id)=pure (.type "method_descriptor"))(q:MtR X id r)(p:PE X o to)(u:PA X (e::es) t)(A:Jq o name X.env (eval o X.env)=eval o X.env:=by rfl)(z:((Hk ab (Bi (e::es) X.env)).all (λx=> !x.1)&&(Rr ab (Mc [] X.env)).all (λx=>x.1.isSome)&&decide ((e::es).length+([]:List Md).length+(if([]:List Md).isEmpty then 0 else 1)<30))=ba:=by rfl)(B:(aj.endLine==ab.line)=ba:=by rfl)(hs:Bi (e::es) X.env=(bb,eval e X.env)::Bi es X.env:=by rfl)(C:(Hk ab (Bi es X.env)).any (·.1)=bb:=by rfl):PE X (.Call (.Attribute o name aj) (e::es) [] ab) (tBM X.K T r to t):=by intro c s a H Q I h;refine wpAny_Call_method_late A z B rfl (Y7 (p c s a H _ I h) λv l ⟨x,F,g,d,ty,q1⟩=>?_);obtain⟨y,w⟩:=m9 g d ty;refine⟨T,id,n,slot,b,y,w,?_⟩;have f:=u ab c l a F _ g q1;rw[hs]at f⊢;refine Ht (by show(bb || (Hk ab (Bi es X.env)).any (·.1))=bb;rw[C]<;>rfl) (Iu ?_);exact Y7 f λj k ⟨i,E,D,m,q2⟩=>q c k a E x i v j Q D d m q2
end
def MtM(X:Cx)(id:String)(r:V->List V->Hp->VK->Prop):Prop:=
 ∀(d:List (Ws×Xc)) (s:Af) (a:St) (H:Hp) (x:V) (b:List V) (v:Wr) (c:List Wr) (Q:VK),b9 X d a H s->bP x v->bT b c->r x b H Q->
  Wt (Wu X.prog X.w) X.A (call (.builtin id) (v::c)) (EP X d a Q) X.xe s
theorem bT.one:∀{x:V}{a:List Wr},bT [x] a->∃u,a=[u]/\bP x u
 |_,_,.cons r .nil=>⟨_,rfl,r⟩
theorem bT.eraseIdx:∀{xs:List V}{a:List Wr}(i:Nat),bT xs a->bT (xs.eraseIdx i) (a.eraseIdx i)
 |_,_,_,.nil=>.nil
 |_,_,0,.cons _ t=>t
 |_,_,i+1,.cons r t=>.cons r (bT.eraseIdx i t)
section
variable{X:Cx}{aa:List (Ws×Xc)}{σ:St}{H:Hp}{s:Af}{l b:Ws}{xs ys zs:List V}
def b9.lset{a its':List Wr}{n:Nat}{f:Array Wr->Array Wr}{t':Nat}(I:b9 X aa σ H s)(i:H l=b0 (.lst xs))(e:s.heap.get? l=b0 {cls:=.type "list",data:=.seq a.toArray n})(g:f a.toArray=its'.toArray)(c:bT ys its')(hz:ys.length<=sizeLine):b9 X aa σ (Z8 H l (.lst ys)) {s with heap:=s.heap.update l (El f),toks:=t'}:=by have q:=PySem.IsL.update e f;rw[g]at q;refine I.write (x:=l) (e:=l) (by rw[i];exact trivial) (.inl rfl) (λj u h d=>(Hs s.heap (El f) (Dg h)).trans d) ⟨_,q⟩ ?_;exact⟨hz,its',_,c,q⟩
def b9.lnew{a:List Wr}{t':Nat}(I:b9 X aa σ H s)(c:bT ys a)(hz:ys.length<=sizeLine):b9 X aa σ (Z8 H s.heap.objs.size (.lst ys)) {s with heap:=s.heap.push {cls:=.type "list",data:=.seq a.toArray},toks:=t'}:=
 I.laid (λ_ _ q=>Ae _ q) (Al _) ⟨hz,a,0,c,Ar _ rfl⟩
def b9.fresh(I:b9 X aa σ H s):H s.heap.objs.size=b4:=I.hok.fresh (Al _)
def b9.lstM(I:b9 X aa σ H s)(b:H l=b0 (.lst xs)):xs.length<=sizeLine/\∃(a:List Wr) (n:Nat),bT xs a/\xs.length=a.length/\s.heap.get? l=b0 {cls:=.type "list",data:=.seq a.toArray n}:=by obtain⟨z,a,n,r,e⟩:=I.hok l _ b;exact⟨z,a,n,r,r.length,e⟩
def pN{n:Nat}(h:n<=sizeLine):Jj n=bb:=by unfold Jj;exact decide_eq_false (by lia)
end
section
variable{X:Cx}
def BJ:V->List V->Hp->VK->Prop:=λx b H Q=>∃l a y,x=.ref l/\b=[y]/\H l=b0 (.lst a)/\a.length<sizeLine/\Q .non (Z8 H l (.lst (a++[y])))
def aR:MtM X "list.append" BJ:=by intro o s g H x j v k Q I c d h;obtain⟨l,i,y,rfl,rfl,b,m,q⟩:=h;cases c;obtain⟨u,rfl,f⟩:=d.one;obtain⟨z,a,n,r,hl,e⟩:=I.lstM b;refine Nk F.slot_list_append ⟨_,e,rfl⟩ F.entry_list_append (F.args_list_append_2 _ _) (PySem.list_append l a.toArray n u (by rw[At];lia)) ⟨e,?_⟩;refine⟨.non,_,I.lset (its':=a++[u]) b e (by simp) (r.append (.cons f .nil)) ?_,rfl,q⟩;rw[Bm,Ea];lia
end
section
variable{prog:Az}{w:Wv}{A:Bz}{E:Wr->Af->Prop}{s:Af}
set_option maxRecDepth 100000 in
end
section
variable{κ:Type}[DecidableEq κ]
def RB(kvs:List (κ×V))(k:κ):Option V:=(kvs.find? λa=>decide (a.1=k)).map (·.2)
def WV(kvs:List (κ×V))(k:κ)(v:V):List (κ×V):=
 if(kvs.any λa=>decide (a.1=k))=ba then kvs.map (λa=>if a.1=k then(a.1,v)else a)else kvs++[(k,v)]
def P8{p:κ×V}{r:List (κ×V)}{k:κ}(e:p.1=k):RB (p::r) k=b0 p.2:=by simp[RB,Ig,e]
def SV{p:κ×V}{r:List (κ×V)}{k:κ}(e:¬p.1=k):RB (p::r) k=RB r k:=by simp[RB,Ig,e]
theorem MN(k:κ):∀kvs:List (κ×V),(kvs.any λa=>decide (a.1=k))=(RB kvs k).isSome
 |[]=>rfl
 |p::r=>by
  rw[Hi];by_cases e:p.1=k;simp only[P8 e,decide_eq_true e,Bool.true_or,Rs];rw[SV e,decide_eq_false e,Vm];exact MN k r
def NT(kvs:List (κ×V))(k:κ)(v:V):(WV kvs k v).length<=kvs.length+1:=by
 unfold WV;split;rw[Bf];lia;rw[Bm,Ba,Jr];lia
def iM{kvs:List (κ×V)}{k:κ}(v:V)(h:RB kvs k=b4):WV kvs k v=kvs++[(k,v)]:=by unfold WV;rw[MN,h];exact if_neg (by decide)
def N6.isSome_eq{o:Option V}{u:Option Wr}(r:N6 o u):o.isSome=u.isSome:=by
 cases o with
 |none=>cases u with
  |none=>rfl
  |some _=>exact(show False from r).elim
 |some _=>cases u with
  |none=>exact(show False from r).elim
  |some _=>rfl
def N6.getD{o:Option V}{u:Option Wr}{d:V}{d':Wr}(r:N6 o u)(a:bP d d'):bP (o.getD d) (u.getD d'):=by
 cases o with
 |none=>cases u with
  |none=>exact a
  |some _=>exact(show False from r).elim
 |some _=>cases u with
  |none=>exact(show False from r).elim
  |some _=>exact r
def KV.val{kvs:List (κ×V)}{vs:List (κ×Wr)}(r:KV kvs vs)(k:κ):N6 (RB kvs k) (Sj vs k):=by
 unfold KV at r;induction r with
 |nil=>exact True.intro
 | @cons p q i a h t f=>
  obtain⟨d,g⟩:=h;by_cases e:p.1=k;have c:q.1=k:=d.symm.trans e;have b:Sj (q::a) k=b0 q.2:=by simp[Sj,Ig,c]
  rw[P8 e,b];exact g;have c : ¬ q.1 = k := λz => e (d.trans z);have b:Sj (q::a) k=Sj a k:=by simp[Sj,Ig,c]
  rw[SV e,b];exact f
def KV.any{kvs:List (κ×V)}{vs:List (κ×Wr)}(r:KV kvs vs)(k:κ):(kvs.any λa=>decide (a.1=k))=vs.any λa=>decide (a.1=k):=by
 unfold KV at r;induction r with
 |nil=>rfl
 |cons h t b=>rw[Hi,Hi,b,h.1]
def KV.repl{kvs:List (κ×V)}{vs:List (κ×Wr)}(r:KV kvs vs)(k:κ){y:V}{u:Wr}(c:bP y u):KV (kvs.map λa=>if a.1=k then(a.1,y)else a) (vs.map λa=>if a.1=k then(a.1,u)else a):=by
 unfold KV at r⊢;induction r with
 |nil=>exact .nil
 | @cons p q i g h t d=>
  rw[Av,Av];refine .cons ?_ d;obtain⟨b,f⟩:=h;by_cases e:p.1=k;rw[if_pos e,if_pos (b.symm.trans e)];exact⟨b,c⟩;rw[if_neg e,if_neg (λz=>e (b.trans z))];exact⟨b,f⟩
def KV.put{kvs:List (κ×V)}{vs:List (κ×Wr)}(r:KV kvs vs)(k:κ){y:V}{u:Wr}(a:bP y u):KV (WV kvs k y) (Wa vs k u):=by
 unfold WV Wa;rw[r.any k];by_cases e:(vs.any λb=>decide (b.1=k))=ba;rw[if_pos e,if_pos e];exact r.repl k a;rw[if_neg e,if_neg e];exact Wl r ⟨rfl,a⟩
def KV.length{kvs:List (κ×V)}{vs:List (κ×Wr)}(r:KV kvs vs):kvs.length=vs.length:=Rm r
end
section
variable{u:Wr}{kvs:List (List bH×V)}{xs:List (List bH×Ws×Wr)}
def NS{P:Az}{w:Wv}{k:bH}(r:bP (kV k) u):(a9 P w).is k u=ba:=by
 cases k with
 |inl i=>obtain⟨t,e⟩:=(show∃t,u=Kx i t from r);subst e;exact E1 P w i t
 |inr x=>obtain⟨t,e⟩:=(show∃t,u=Nh x t from r);subst e;exact E2 P w x t
theorem JS{P:Az}{w:Wv}:∀{ks:List bH}{a:List Wr},bT (ks.map kV) a->ItemsAre (a9 P w) ks a
 |[],_,r=>by rw[Dj]at r;cases r;exact .nil
 |k::ks,_,r=>by
  rw[Av]at r;cases r with
  |cons h t=>exact .cons (NS h) (JS t)
abbrev KT(H:Hp):List (List bH×V)->List (List bH×Ws×Wr)->Prop:=Paired λp q=>p.1=q.1/\H q.2.1=b0 (.tup (p.1.map kV))/\bP p.2 q.2.2
def KT.val{H:Hp}(r:KT H kvs xs)(k:List bH):N6 (RB kvs k) ((atKey xs k).map (·.2)):=by
 induction r with
 |nil=>exact True.intro
 | @cons p q i a h t f=>
  obtain⟨d,_,g⟩:=h;by_cases e:p.1=k;have c:q.1=k:=d.symm.trans e;have b:atKey (q::a) k=b0 q.2:=by simp[atKey,Ig,c]
  rw[P8 e,b];exact g;have c : ¬ q.1 = k := λz => e (d.trans z);have b:atKey (q::a) k=atKey a k:=by simp[atKey,Ig,c]
  rw[SV e,b];exact f
def KT.repl{H:Hp}(r:KT H kvs xs)(k:List bH){y:V}(d:bP y u):KT H (kvs.map λb=>if b.1=k then(b.1,y)else b) (xs.map (putAt k u)):=by
 induction r with
 |nil=>exact .nil
 | @cons p q j i h t f=>
  rw[Av,Av];refine .cons ?_ f;obtain⟨a,c,g⟩:=h;unfold putAt;by_cases e:p.1=k;rw[if_pos e,if_pos (a.symm.trans e)];exact⟨a,c,d⟩;rw[if_neg e,if_neg (λz=>e (a.trans z))];exact⟨a,c,g⟩
def KT.put{H:Hp}{kvs:List (List bH×V)}{xs:List (List bH×Ws×Wr)}(r:KT H kvs xs)(k:List bH){b:Ws}{y:V}{u:Wr}(d:H b=b0 (.tup (k.map kV)))(a:bP y u):KT H (WV kvs k y) (storedH xs k b u):=by
 have e:(kvs.any λc=>decide (c.1=k))=(atKey xs k).isSome:=by rw[MN,(r.val k).isSome_eq,Option.isSome_map]
 unfold WV storedH;rw[e];by_cases q:(atKey xs k).isSome=ba;rw[if_pos q,if_pos q];exact r.repl k a;rw[if_neg q,if_neg q];exact Wl r ⟨rfl,d,a⟩
def KT.keeps{H a:Hp}(r:KT H kvs xs)(c:∀b ys,H b=b0 (.tup ys)->a b=b0 (.tup ys)):KT a kvs xs:=
 Paired.mapP r λ_ _ z=>⟨z.1,c _ _ z.2.1,z.2.2⟩
end
section
variable{P:Az}{w:Wv}{H:Hp}{h:Wz}{a:Ws}
def eQ{u:HO}(ok:QB P w H h)(e:Rd H a u):ZY P w H h a u:=e.ok ok
def JG{kvs:List (bH×V)}(ok:QB P w H h)(e:Rd H a (.dK kvs)):kvs.length<=sizeLine/\(a==Ho)=bb/\∃vs,KV kvs vs/\h.DictOf (a9 P w) a vs:=
 show ZY P w H h a (.dK kvs) from eQ ok e
def lO{kvs:List (bH×V)}(ok:QB P w H h)(e:H a=b0 (.dK kvs)):kvs.length<=sizeLine/\(a==Ho)=bb/\∃vs,KV kvs vs/\h.DictOf (a9 P w) a vs:=JG ok (.inl e)
def LV{ks:List bH}(ok:QB P w H h)(e:H a=b0 (.tup (ks.map kV))):(tupleKind (a9 P w)).is h ks a:=by obtain⟨_,b,r,o,f,d,n,c⟩:=(show ZY P w H h a (.tup (ks.map kV)) from ok a _ e);exact⟨o,b.toArray,n,f,d,c,by simpa using JS r⟩
def JI{kvs:List (List bH×V)}(ok:QB P w H h)(e:Rd H a (.dT kvs)):kvs.length<=sizeLine/\(a==Ho)=bb∧ ∃xs,KT H kvs xs/\h.DictOfH (tupleKind (a9 P w)) a xs:=by
 obtain⟨z,y,xs,r,o,n,s,k,j,i,g,f⟩:=(show ZY P w H h a (.dT kvs) from eQ ok e);refine⟨z,y,xs,r,o,n,s,k,j,i,g,λx b=>?_,f⟩;have all:∀{l:List (List bH×V)}{m:List (List bH×Ws×Wr)},KT H l m->∀x∈m,(tupleKind (a9 P w)).is h x.1 x.2.1:=by
  intro l m q;induction q with
  |nil=>intro x b;exact nomatch b
  | @cons p q v u c t d=>
   intro x b;rcases Ak.mp b with e|b;subst e;exact LV ok (by rw[<-c.1];exact c.2.1);exact d x b
 exact all r x b
def lC{kvs:List (List bH×V)}(ok:QB P w H h)(e:H a=b0 (.dT kvs)):kvs.length<=sizeLine/\(a==Ho)=bb∧ ∃xs,KT H kvs xs/\h.DictOfH (tupleKind (a9 P w)) a xs:=JI ok (.inl e)
end
def N4(H:Hp)(a:Ws)(y:V)(r:Option V):Prop:=
 (∃c k,Rd H a (.dK c)/\y=kV k/\r=RB c k)∨∃c k b,Rd H a (.dT c)/\y=.ref b/\H b=b0 (.tup (k.map kV))/\r=RB c k
def DPut(H:Hp)(a:Ws)(y v:V)(d:Hp):Prop:=
 (∃c k,H a=b0 (.dK c)/\y=kV k/\c.length<sizeLine/\d=Z8 H a (.dK (WV c k v)))∨
 ∃c k b,H a=b0 (.dT c)/\y=.ref b/\H b=b0 (.tup (k.map kV))/\c.length<sizeLine/\d=Z8 H a (.dT (WV c k v))
def N4.k{H:Hp}{a:Ws}{kvs:List (bH×V)}{k:bH}(e:H a=b0 (.dK kvs)):N4 H a (kV k) (RB kvs k):=.inl ⟨kvs,k,.inl e,rfl,rfl⟩
def DPut.k{H:Hp}{a:Ws}{kvs:List (bH×V)}{k:bH}{v:V}(e:H a=b0 (.dK kvs))(hl:kvs.length<sizeLine):DPut H a (kV k) v (Z8 H a (.dK (WV kvs k v))):=.inl ⟨kvs,k,e,rfl,hl,rfl⟩
section
variable{X:Cx}{aa:List (Ws×Xc)}{σ:St}{H:Hp}{s:Af}{a:Ws}{y v:V}{u r:Wr}{o:Option V}{A:Bz}{E:Wr->Af->Prop}
def b9.big(I:b9 X aa σ H s):Ho<s.heap.objs.size:=by have h:Xb<s.heap.objs.size:=(I.mod.glob.keeps I.bk).lt;exact La (by decide) h
def pU{Q:Wr->Af->Prop}(B:A.units+1<cLine)(I:b9 X aa σ H s)(g:N4 H a y (b0 v))(r:bP y u)(h:∀f q,b9 X aa σ H q->bP v f->Q f q):Wt (Wu X.prog X.w) A (Of (.ref a) u) Q E s:=by
 rcases g with⟨i,k,e,m,l⟩|⟨i,k,b,e,m,F,l⟩;subst m;obtain⟨z,D,x,d,n⟩:=JG I.hok e;obtain⟨f,hw,c⟩:=N6.some_of (v:=v) (o:=Sj x k) (by rw[l];exact d.val k);exact wpAny_getItem_of (NS r) n.mapOf hw (h f _ (I.tok _) c);subst m;cases (show u=Bb b from r);obtain⟨z,D,t,d,n⟩:=JI I.hok e;obtain⟨f,hw,c⟩:=N6.some_of (v:=v) (o:=(atKey t k).map (·.2)) (by rw[l];exact d.val k);obtain⟨p,C,j⟩:=Am.mp hw;refine wpAny_getItem_heap (Js B) (LV I.hok F) n C ?_;rw[j];exact h f _ (I.tok _) c
def gC{h':Wz}{t':Nat}{c:HO}(I:b9 X aa σ H s)(f:Mut (H a))(hs:Dw a s.heap h')(g:∃q,h'.get? a=b0 q)(new:ZY X.prog X.w (Z8 H a c) h' a c):b9 X aa σ (Z8 H a c) {s with heap:=h',toks:=t'}:=
 I.write (x:=a) (e:=a) f (.inl rfl) (λb q h z=>(hs.2 b h).trans z) g new
def Zm{P:Az}{w:Wv}{e:Hp}{h':Wz}{kvs:List (bH×V)}{vs:List (bH×Wr)}(z:kvs.length<=sizeLine)(c:(a==Ho)=bb)(b:KV kvs vs)(d:h'.DictOf (a9 P w) a vs):ZY P w e h' a (.dK kvs):=⟨z,c,vs,b,d⟩
def nT{K:Hp}{Q:Unit->Af->Prop}(N:A.units+1<cLine)(I:b9 X aa σ H s)(g:DPut H a y v K)(C:bP y u)(D:bP v r)(h:∀B,b9 X aa σ K B->Q () B):Wt (Wu X.prog X.w) A (setItem (.ref a) u r) Q E s:=by
 rcases g with⟨f,k,e,p,l,t⟩|⟨f,k,b,e,p,J,l,t⟩;subst p t;obtain⟨z,o,M,d,x⟩:=lO I.hok e;have m:M.length<=sizeLine:=by rw[<-d.length];exact z
 have hl:(WV f k v).length<=sizeLine:=by have:=NT f k v;lia
 refine wpAny_setItem_pairs (hsz:=m) (NS C) x λF i n=>h _ ?_;have O:∃q,F.get? a=b0 q:=let ⟨q,_,_,j,_⟩:=i;⟨q,j⟩
 exact gC I (by rw[e];exact True.intro) n O (Zm hl o (d.put k D) i);subst p t;cases (show u=Bb b from C);obtain⟨z,o,L,d,x⟩:=lC I.hok e;have m:L.length<=sizeLine:=by rw[<-Rm d];exact z
 have hl:(WV f k v).length<=sizeLine:=by have:=NT f k v;lia
 refine wpAny_setItem_heap (hsz:=m) (Js N) (LV I.hok J) x λF i n=>h _ ?_;obtain⟨q,U,V,j,T,S,R,_,P⟩:=i;refine gC I (by rw[e];exact True.intro) n ⟨q,j⟩ ⟨hl,o,_,(d.put k J D).keeps λc W G=>?_,q,U,V,j,T,S,R,P⟩;rw[a8 (qy G e (λz=>nomatch z))];exact G
end
def EO{X:Cx}{h:List (Ws×Xc)}{f:St}{H:Hp}{s:Af}{a:Ws}{y:V}{o:Option V}(I:b9 X h f H s)(g:N4 H a y o):s.TypeIs (.ref a) "dict":=by
 rcases g with⟨c,k,e,_,_⟩|⟨c,k,b,e,_,_,_⟩;obtain⟨_,_,j,_,d⟩:=JG I.hok e;exact d.typeIs;obtain⟨_,_,i,_,d⟩:=JI I.hok e;exact d.typeIs
def qC(e ty d:TE):TS:=λD b H=>d b H λv h=>e b h λx g=>ty b g λy f=>∃a c,x=.ref a/\DPut f a y v c/\D.nx b c
section
variable{X:Cx}{o i e value:Ww}{pos af c8:Pos}{td ty tv:TE}
def ko(m:X.A.units+1<cLine)(n:PE X o td)(p:PE X i ty)(l:PE X value tv)(hs:Jm value (b0 (.Subscript o i af)) pos.line X.env=pure bb):PS X (.Assign [.Subscript o i af] value pos) (qC td ty tv):=by intro c s b H D I h;refine wpAny_Assign_Subscript (Y7 (l c s b H _ I h) λr e ⟨v,F,B,k,q1⟩=>Y7 (n c e b F _ B q1) λu d ⟨x,E,z,j,q2⟩=>Y7 (p c d b E _ z q2) λK J ⟨y,L,w,f,a,C,q,g,q3⟩=>?_) hs;subst q;obtain rfl:u=Bb a:=j;exact nT m w g f k λG t=>⟨b,C,t,q3⟩
end
def tj{P:Az}{w:Wv}{H:Hp}(h:Wz)(a:Ho<h.objs.size):ZY P w H (h.push {cls:=.type "dict",data:=.dict #[]}) h.objs.size (.dK []):=
 ⟨Ch _,beq_eq_false_iff_ne.mpr (Dg (Bd a)),[],.nil,Ue h⟩
def ki:TE:=λ_ H Q=>∀p,H p=b4->Q (.ref p) (Z8 H p (.dK []))
section
variable{X:Cx}{pos:Pos}
def zEL:PE X (.Dict [] [] pos) ki:=λc s b H Q I h=>
 wpAny_Dict_empty ⟨.ref s.heap.objs.size,_,I.laid (a:=s.heap.objs.size) (o:=.dK []) (t':=s.toks) (λ_ _ q=>Ae _ q) (Al _) (tj s.heap I.big),rfl,h _ (I.hok.fresh (Al _))⟩
end
def L1(kvs more:List (bH×V)):List (bH×V):=more.foldl (λb a=>WV b a.1 a.2) kvs
def KV.merge:∀{more:List (bH×V)}{a:List (bH×Wr)}{kvs:List (bH×V)}{vs:List (bH×Wr)},KV more a->KV kvs vs->KV (L1 kvs more) (merged vs a):=by
 intro more a kvs vs r;unfold KV at r;induction r generalizing kvs vs with
 |nil=>intro q;exact q
 | @cons p q f d h t c=>
  intro b;have e:KV (WV kvs p.1 p.2) (Wa vs q.1 q.2):=by
   have:=b.put p.1 h.2
   rw[<-h.1];exact this
  exact c e
structure M1(X:Cx)(o:Ww)(m:Wy)(aj:Pos)(e:Ww)(ab:Pos):Prop where
 base:Jq o m X.env (eval o X.env)=eval o X.env
 few:((Hk ab (Bi [e] X.env)).all (λx=> !x.1)&&(Rr ab (Mc [] X.env)).all (λx=>x.1.isSome)
  && decide (([e]:List Ww).length+([]:List Md).length+(if([]:List Md).isEmpty then 0 else 1)<30))=ba
 line:(aj.endLine==ab.line)=ba
 trees:Hk ab (Bi [e] X.env)=[(bb,eval e X.env)]
structure M2(X:Cx)(o:Ww)(m:Wy)(aj:Pos)(e f:Ww)(ab:Pos):Prop where
 base:Jq o m X.env (eval o X.env)=eval o X.env
 few:((Hk ab (Bi [e,f] X.env)).all (λx=> !x.1)&&(Rr ab (Mc [] X.env)).all (λx=>x.1.isSome)
  && decide (([e,f]:List Ww).length+([]:List Md).length+(if([]:List Md).isEmpty then 0 else 1)<30))=ba
 line:(aj.endLine==ab.line)=ba
 trees:Hk ab (Bi [e,f] X.env)=[(bb,eval e X.env),(bb,eval f X.env)]
def IsD(H:Hp)(a:Ws):Prop:=(∃b,Rd H a (.dK b))∨∃b,Rd H a (.dT b)
def eK{X:Cx}{l:List (Ws×Xc)}{k:St}{H:Hp}{s:Af}{a:Ws}(I:b9 X l k H s)(d:IsD H a):s.TypeIs (.ref a) "dict" /\(∀b,Bb a=.ref b->∃c,s.heap.get? b=b0 c/\c.dict=b4)/\(a==Ho)=bb:=by
 rcases d with⟨g,e⟩|⟨g,e⟩;obtain⟨_,h,n,_,f⟩:=JG I.hok e;refine⟨f.typeIs,λb q=>?_,h⟩;cases q;obtain⟨c,_,_,j,i,_⟩:=f;exact⟨c,j,i.2.1⟩;obtain⟨_,h,m,_,f⟩:=JI I.hok e;refine⟨f.typeIs,λb q=>?_,h⟩;cases q;obtain⟨c,_,_,j,i,_⟩:=f;exact⟨c,j,i.2.1⟩
section
variable{X:Cx}{aa:List (Ws×Xc)}{σ:St}{H:Hp}{s:Af}{a:Ws}{y d:V}{u r:Wr}{o:Option V}{A:Bz}{E:Wr->Af->Prop}
def pC{Q:Wr->Af->Prop}(r:A.units+1<cLine)(I:b9 X aa σ H s)(g:N4 H a y o)(p:bP y u)(h:∀m n,b9 X aa σ H n->bP (o.getD .non) m->Q m n):Wt (Wu X.prog X.w) A (call (.builtin "dict.get") [.ref a,u]) Q E s:=by
 rcases g with⟨f,k,e,j,l⟩|⟨f,k,b,e,j,t,l⟩;subst j;obtain⟨z,i,v,c,d⟩:=JG I.hok e;refine Pu Eu d.typeIs Gf (Jt _ _) (meets_dict_get (a9 X.prog X.w) a (NS p) i) ⟨_,d.mapOf,h _ _ (I.tok _) ?_⟩;rw[l];exact(c.val k).getD rfl;subst j;cases (show u=Bb b from p);obtain⟨z,i,q,c,d⟩:=JI I.hok e;refine Pu Eu d.typeIs Gf (Jt _ _) (meetsH_dict_get (tupleKind (a9 X.prog X.w)) a b i) ⟨Js r,k,q,LV I.hok t,d,h _ _ (I.tok _) ?_⟩;rw[l];exact(c.val k).getD rfl
def lE{Q:Wr->Af->Prop}(x:A.units+1<cLine)(I:b9 X aa σ H s)(g:N4 H a y o)(q:bP y u)(t:bP d r)(h:∀n p,b9 X aa σ H p->bP (o.getD d) n->Q n p):Wt (Wu X.prog X.w) A (call (.builtin "dict.get") [.ref a,u,r]) Q E s:=by
 rcases g with⟨i,k,e,m,l⟩|⟨i,k,b,e,m,B,l⟩;subst m;obtain⟨z,j,C,c,f⟩:=JG I.hok e;refine Pu Eu f.typeIs Gf (Og _ _ _) (meets_dict_get_default (a9 X.prog X.w) a (NS q) j r) ⟨_,f.mapOf,h _ _ (I.tok _) ?_⟩;rw[l];exact(c.val k).getD t;subst m;cases (show u=Bb b from q);obtain⟨z,j,v,c,f⟩:=JI I.hok e;refine Pu Eu f.typeIs Gf (Og _ _ _) (meetsH_dict_get_default (tupleKind (a9 X.prog X.w)) a b j r) ⟨Js x,k,v,LV I.hok B,f,h _ _ (I.tok _) ?_⟩;rw[l];exact(c.val k).getD t
end
def iZ(f ty e:TE):TE:=λb H Q=>f b H λx d=>∃a,x=.ref a/\IsD d a/\ty b d λy g=>e b g λz c=>∃o,N4 c a y o/\Q (o.getD z) c
section
variable{X:Cx}{o e f:Ww}{aj ab:Pos}{td ty tx:TE}
def lL(t:X.A.units+1<cLine)(v:PE X o td)(B:PE X e ty)(w:PE X f tx)(m:M2 X o "get" aj e f ab):PE X (.Call (.Attribute o "get" aj) [e,f] [] ab) (iZ td ty tx):=by
 intro i s b H Q I h;refine Sk m.base m.few m.line Oh Eu Pw (Y7 (v i s b H _ I h) λu p ⟨x,K,j,r,a,C,d,q1⟩=>?_);subst C;obtain rfl:u=Bb a:=r;obtain⟨l,k,_⟩:=eK j d;refine⟨l,k,?_⟩;rw[m.trees];refine Ht rfl (Iu (Hw (Y7 (B i p b K _ j q1) λP n ⟨y,J,F,q,q2⟩=>
  Hw (Y7 (w i n b J _ F q2) λR N ⟨z,G,E,rz,O,g,q3⟩=>Ki ?_))))
 exact lE t E g q rz λL M D c=>⟨_,G,D,c,q3⟩
end
end L2
namespace Att
open PySem PySem.W PySem.Calls PyProof.Rows
def NH{P:Tw}{h:Wz}:∀(ns:List Int) (vs:List Wr),WellAll P h vs (ns.map WData.int)->Ie vs ns:=by
 intro ns;induction ns with
 |nil=>
  intro vs w;rw[Dj]at w;cases w;exact .nil
 |cons n ns c=>
  intro vs w;rw[Av]at w;cases w with
  |cons a b=>
   cases a;exact .cons _ _ (c _ b)
def qY{l:OpenLaw}{n:Nat}(s:l.most=b0 n){P:Tw}{h:Wz}{args:List WData}{b:List Wr}(c:l.row.toRowW.claim.pre args=ba)(i:WellAll P h b args):∃a vs ns,b=[Bb a]/\args=[WData.list (ns.map WData.int)]/\h.get? a=b0 {cls:=.type "list",data:=.seq vs.toArray}/\Ie vs ns/\ns.length<=n:=by
 have j:WShape.hasAll [] args [.list .int]=ba:=(pre_splitW c).1;have hc:l.pre.holds [] {args:=args}=ba:=(pre_splitW c).2;obtain⟨d,r,rfl,v,u⟩:=hasAllW_cons j;obtain rfl:=hasAllW_nil u;obtain⟨x,rfl,t⟩:=hasW_list v;obtain⟨ns,rfl⟩:=items_int t;have e:ns.length<=n:=by
  unfold OpenLaw.pre at hc;have g:(WTm.not (.lt (.lit (.int (n:Int))) (.len (.arg 0)))).holds [] {args:=[.list (ns.map .int)]}=ba:=by have g:=(holds_andW hc).1;rw[s]at g;exact g
  have f:=condW_of g (w_not (w_lt w_lit (w_len_list (w_arg rfl))));rw[Bf]at f;refine Nat.le_of_not_lt λq=>?_;have o:(n:Int)<((ns.length:Nat):Int):=by lia
  first
   |(rw[decide_eq_true o]at f;exact absurd f (by decide))
   |(simp at f;lia)
 cases i with
 |cons m k=>
  cases k;cases m with
  |list p w=>exact⟨_,_,ns,rfl,rfl,p,NH ns _ w,e⟩
def ls(l:OpenLaw)(args:List WData):l.row.toRowW.claim.post args (.bool ba) args=ba:=
 postW_of (r:=l.row.toRowW) (X:=(ba==ba))
  (show Wq [] (.bool ba) .bool=ba by first|rfl|decide|simp[Wq,WShape.arms,WShape.armsAll])
  (show(WTm.eq .res (.lit (.bool ba))).value [] {args:=args,res:=b0 (.bool ba),after:=args}=b0 (.bool (ba==ba)) from w_eq_bool (w_res rfl) w_lit) rfl
def EH{l:OpenLaw}{n:Nat}{q:Az}{loose:List Wy}{XP:(Wy->Option Wr)->Wz->Prop}{YP:Wv->Wz->Prop}{d:DefRec}(D:l.most=b0 n)(u:d.params.defaults=[])(call:∀(w:Wv) (s₀ b:Af) (mg p:Wy->Option Wr) (i:Ws) (o:Xc) (m k doc:Wr) (a:Ws) (vs:List Wr) (ns:List Int),Ground q loose [] XP w s₀ mg p b.heap->YP w b.heap->b.heap.get? i=b0 o->o.data=.func (docDef d.name d.params d.body d.scope m k doc)->b.heap.CodeRec k d.name->mg d.name=b0 (.ref i)->b.heap.get? a=b0 {cls:=.type "list",data:=.seq vs.toArray}->Ie vs ns->ns.length<=n->b.gens= #[]->Jd (Wu l.prog w) Rb (.call (.ref i) ⟨[.ref a],[]⟩) (λr j=>r=.ok (.ret (.bool ba))/\OldK b.heap j.heap/\j.os=b.os/\Pl j.gens) b):WalkO q loose XP YP l.row.toRowW d [] (λf vs=>Uy f vs):=by intro w s₀ b mg p G Y i o m k doc M kV C I v z t H args x N e y A s F;obtain rfl:M=.none:=Dflts.none z u;obtain rfl:kV=.none:=Dflts.noKw z;obtain⟨a,vs,ns,rfl,rfl,g,c,h⟩:=qY D e s;refine enter_call (Kz (call w s₀ b mg p i o m k doc a vs ns G Y C (fd_plain I) v t g c h H) λr j B=>?_);obtain⟨rfl,L,K,J⟩:=B;exact⟨.inl ⟨.bool ba,.bool ba,[],rfl,λ_=>rfl,.bool ba,ls l _,λ_=>⟨Nl,λ_ E=>(nomatch E)⟩⟩,L,K,J⟩
end Att
namespace L2
open PySem PySem.Spec PyProof.Rows
section
variable{CX:CXT}{x:Wy}{l:Wb}{n:Nat}{q:Az}{loose:List Wy}{XP:(Wy->Option Wr)->Wz->Prop}{YP:Wv->Wz->Prop}{d:DefRec}
theorem KC:∀{vs:List Wr}{ns:List Int},Ie vs ns->bT (ns.map V.int) vs
 |_,_,.nil=>.nil
 |_,_,.cons n t h=>.cons ⟨t,rfl⟩ (KC h)
def Only(H:Hp):Prop:=∀b,H b=b4∨∃o a,H b=b0 (.frz o (.lst a))
def oH{P:Az}{w:Wv}{K:Au}{mg E:Wy->Option Wr}{k:Nat}{M a:Ws}{U:Hx}{sp:Sp}{c:Af}{vs:List Wr}{ns:List Int}(Y:K.In c.heap)(p:c.heap.Ns Xb mg)(f:c.heap.Ns builtinsNs E)(J:∀x:Wy,x≠ "__name__" ->E x=Bv x)(iq:c.heap.NoLimit)(hg:c.gens= #[])(C:c.heap.get? a=b0 {cls:=.type "list",data:=.seq vs.toArray})(Q:Ie vs ns)(hl:ns.length<=sizeLine)(hr:WR k Rb)(F:∀base:Wz,K.In base->base.Ns Xb mg->N5 P w K mg base CX k M U [x] sp)(gj:∀(s:Af) (u:Wr),Uc s U ⟨[u],[]⟩ [(x,u)])(G:∀H:Hp,Only H->WZ K H a (ns.map V.int)->sp [.ref a] H (λv _=>v=.bl ba) λ_ _ _=>False)(L:∀H e g,CX [] H c (λ_ _ _=>False) e g->False):Jd (Wu P w) Rb (.call (.ref M) ⟨[.ref a],[]⟩) (λr g=>r=.ok (.ret (.bool ba))/\OldK c.heap g.heap/\g.os=c.os/\Pl g.gens) c:=by
 have O:=KC Q;have gv:=Q.length;have T: ∀H:Hp,Only H->WZ K H a (ns.map V.int)->QB P w H c.heap->(∀b,H b≠b4->b=a)->(H a≠b4->K.lookup a=b4)->
   Jd (Wu P w) Rb (.call (.ref M) ⟨[.ref a],[]⟩) (λr g=>r=.ok (.ret (.bool ba))/\OldK c.heap g.heap/\g.os=c.os/\Pl g.gens) c:=by
  intro H R hS l S hK;have X:∀{b:Ws}{o:Xc},c.heap.get? b=b0 o->H b=b4->(G9 c.heap H).get? b=b0 o:=λe n=>kf e n;have D:∀{b:Ws}{o:Xc}{y:Array Pk}{A:Nat},c.heap.get? b=b0 o->o.data=.dict y A->H b=b4:=λ{b o y A} e d=>by
   cases q:H b with
   |none=>rfl
   |some u=>
    have N:b=a:=S b (by rw[q];simp);subst N;rw[C]at e;cases e;have d':Data.seq vs.toArray _=Data.dict y A:=d;cases d'
  have i:∀{b:Ws}{m:Wy->Option Wr},c.heap.Ns b m->(G9 c.heap H).Ns b m:=λ{b m} ⟨o,y,A,e,d,r⟩=>⟨o,y,A,X e (D e d),d,r⟩;have t:K.In (G9 c.heap H):=λb o e=>X (Y b o e) (by
   cases q:H b with
   |none=>rfl
   |some u=>
    have N:b=a:=S b (by rw[q];simp);subst N;rw[hK (by rw[q];simp)]at e;cases e)
  have hM:Mod K mg (G9 c.heap H):=⟨t,i p,⟨E,i f,J⟩,let ⟨mc,h1,h2⟩:=iq;⟨mc,i h1,h2⟩⟩;have e0:Env0 P w K mg (G9 c.heap H) Rb [] c H:=⟨rfl,hM,λb o e=>rR e,Nat.le_of_eq (pR _ _),trivial,λb f=>absurd (show b∈([]:List Ws) from f) (by simp),l,.of_eq hg⟩;refine Kz ((F _ t (i p)).run Rb [] c H ⟨[.ref a],[]⟩ [.ref a] [.ref a] _ _ hr e0 (gj c (.ref a)) (.cons rfl .nil) (G H R hS)) λr g h=>?_;cases r with
  |error e=>exact(L H e g h).elim
  |ok fl=>
   cases fl with
   |next=>exact Im h
   |brk=>exact Im h
   |cont=>exact Im h
   |ret u=>
    obtain⟨v,H',os,B,un,i9,r',q⟩:=h;have q':v=.bl ba:=q;subst q';obtain rfl:u=Qk ba:=r';refine⟨rfl,OldK.of_keep λb o e=>?_,os,B⟩;cases q:H b with
    |none=>exact un.keep b o e q (by intro z;exact absurd (show b∈([]:List Ws) from z) (by simp)) (by simp)
    |some u=>
     rcases R b with z|⟨ob,xs,z⟩;rw[q]at z;cases z;have Z:=un.frzs b ob _ z;obtain⟨W,_⟩:=l b _ z;obtain⟨e2,_⟩:=i9 b _ Z;rw[e]at W;cases W;exact e2
 cases I:K.lookup a with
 |some o=>
  have e:=Y a o I;rw[C]at e;cases e;refine T (λ_=>b4) (λ_=>.inl rfl) (.inr ⟨_,vs.toArray,_,I,rfl,rfl,rfl,by rw[At,gv];exact hl,by simpa using O⟩) (λb u z=>by have j:(b4:Option HO)=b0 u:=z;cases j) (λb z=>absurd rfl z) λz=>absurd rfl z
 |none=>
  refine T (λb=>if b=a then b0 (.frz {cls:=.type "list",data:=.seq vs.toArray} (.lst (ns.map V.int)))else b4) (λb=>?_) (.inl (.inr ⟨{cls:=.type "list",data:=.seq vs.toArray},if_pos rfl⟩)) (λb u z=>?_) (λb z=>?_) λ_=>I;by_cases f:b=a;exact .inr ⟨_,_,if_pos f⟩;exact .inl (if_neg f);by_cases f:b=a;have j:=(if_pos f).symm.trans z;cases j;subst f;exact⟨C,by rw[Bf];exact hl,vs,_,O,C⟩;have j:=(if_neg f).symm.trans z;cases j;by_cases f:b=a;exact f;exact absurd (if_neg f) z
def rj{k:Nat}{K:Tw->Au}{CX:Wv->CXT}{sp:Wv->Sp}(L:l.most=b0 n)(y:n<=sizeLine)(A:d.params.defaults=[])(J:WR k Rb)(P:∀(w:Wv) (h:Wz),YP w h->(K w.params).In h)(F:∀(w:Wv) (mg:Wy->Option Wr) (p:Ws) (h:Wz),(K w.params).In h->h.Ns Xb mg->mg d.name=b0 (.ref p)->∃C:Hx,(∀(s:Af) (u:Wr),Uc s C ⟨[u],[]⟩ [(x,u)])∧ ∀base:Wz,(K w.params).In base->base.Ns Xb mg->N5 l.prog w (K w.params) mg base (CX w) k p C [x] (sp w))(t:∀(w:Wv) (H:Hp) (a:Ws) (ns:List Int),ns.length<=n->Only H->WZ (K w.params) H a (ns.map V.int)->sp w [.ref a] H (λv _=>v=.bl ba) λ_ _ _=>False)(B:∀(w:Wv) (H:Hp) (s:Af) (e:Wr) (r:Af),CX w [] H s (λ_ _ _=>False) e r->False):W.WalkO q loose XP YP l.row.toRowW d [] (λf D=>Uy f D):=by refine Att.EH L A λw E j mg X p o U cd doc a D ns G Y Z hd N z m i c M=>?_;have I:=P w _ Y;obtain⟨C,O,S⟩:=F w mg p _ I G.T.g z;exact oH I G.T.g G.T.b G.T.builtins G.T.nolimit M m i (Fl c y) J S O (λH R Q=>t w H a ns c R Q) λH e r=>B w H j e r
def zCV{k:Nat}{K:Tw->Au}{sp:Au->Sp}(t:l.most=b0 n)(g:n<=sizeLine)(i:d.params.defaults=[])(r:WR k Rb)(y:∀(w:Wv) (h:Wz),YP w h->(K w.params).In h)(F:∀(w:Wv) (mg:Wy->Option Wr) (o:Ws) (h:Wz),(K w.params).In h->h.Ns Xb mg->mg d.name=b0 (.ref o)->∃m:Hx,(∀(s:Af) (u:Wr),Uc s m ⟨[u],[]⟩ [(x,u)])∧ ∀base:Wz,(K w.params).In base->base.Ns Xb mg->N5 l.prog w (K w.params) mg base CX k o m [x] (sp (K w.params)))(c:∀(K:Au) (H:Hp) (a:Ws) (ns:List Int),ns.length<=n->Only H->WZ K H a (ns.map V.int)->sp K [.ref a] H (λv _=>v=.bl ba) λ_ _ _=>False)(j:∀(H:Hp) (s:Af) (e:Wr) (b:Af),CX [] H s (λ_ _ _=>False) e b->False):W.WalkO q loose XP YP l.row.toRowW d [] (λf p=>Uy f p):=
 rj (K:=K) (CX:=λ_=>CX) (sp:=λw=>sp (K w.params)) t g i r y F (λw H a ns B A z=>c (K w.params) H a ns B A z) λ_ H s e b=>j H s e b
def WJ(s:Xf):Arguments:=match s with
 |.FunctionDef _ a _ _ _ _ _ _ _ _=>a
 |_=>{posonlyargs:=[],args:=[],vararg:=b4,kwonlyargs:=[],kw_defaults:=[],kwarg:=b4,defaults:=[]}
def YY(s:Xf):List Xf:=match s with
 |.FunctionDef _ _ b _ _ _ _ _ _ _=>b
 |_=>[]
def bS(s:Xf):Xd:=match s with
 |.FunctionDef _ _ _ _ _ _ a _ _ _=>a
 |_=>{kind:=.function,names:=[],isGenerator:=bb,isCoroutine:=bb}
abbrev CX0:CXT:=λ_ _ _ _ _ _=>False
abbrev E0:XK:=λ_ _ _=>False
def sI{X:Cx}:CH CX0 X E0:=λ_ _ _ _ _ _ _ h=>h.elim
structure Fun(K:Au)(x qual:Wy)(st:Xf)(f:Ws)(fd:Hx):Prop where
 ex:∃(oc:Wr) (od:Option Ws) (kV doc pm:Wr) (an:Option Ws) (cdv ct:Wr) (osl:Array (Option Wr)),
  fd=Ro x qual (WJ st) (YY st) (bS st) .none kV doc pm an cdv ct/\K.lookup f=b0 ⟨oc,od,.func fd,osl⟩/\Tt K cdv qual=ba
 kp:Rn K (.ref f)=ba
end
section
variable{P:Az}{w:Wv}{K:Au}{mg:Wy->Option Wr}{base:Wz}
def Fun.ok{x a:Wy}{st:Xf}{f:Ws}{e:Hx}{N ps:List Wy}{k:Nat}{sp:Sp}(F:Fun K x a st f e)(S:WC N ps (bS st))(len:∀vs H Q E,sp vs H Q E->vs.length=ps.length)(l:∀(b:Wr) (A:Bz) (outer:List Env) (s:Af) (H:Hp) (vs:List V) (Q:VK) (E:XK),WR k (A.deeper (Mb a (bS st) s.heap.objs.size f b))->sp vs H Q E->∃t,NL (G3 CX0 P w K mg base N a (bS st) f b A outer s H E).nox (YY st) t/\t {nx:=λ_ m=>Q .non m,rt:=Q} (start N vs) H):N5 P w K mg base CX0 (k+1) f e ps sp:=by obtain⟨o,od,kV,doc,n,p,b,ct,g,rfl,i,d⟩:=F.ex;refine iF i d S len λA outer s H vs Q E j c=>?_;obtain⟨t,h,q⟩:=l b A outer s H vs Q E j c;exact⟨t,h.nox,q⟩
def Fun.binds{x a:Wy}{st:Xf}{f:Ws}{g:Hx}{ps:List Wy}(F:Fun K x a st f g)(h:∀(kV doc d:Wr) (e:Option Ws) (b ct:Wr) (c:List Wr),c.length=ps.length->Vj (Ro x a (WJ st) (YY st) (bS st) .none kV doc d e b ct) ⟨c,[]⟩=pure (ps.zip c)):IJ K g ps []:=by obtain⟨k,od,kV,doc,d,e,b,ct,i,rfl,l,j⟩:=F.ex;exact .all (h kV doc d e b ct)
def Zc{x a:Wy}{st:Xf}{f:Ws}{h:Wr}{od g:Option Ws}{d:Array (Option Wr)}{kV doc e b ct:Wr}(l:K.lookup f=b0 ⟨h,od,.func (Ro x a (WJ st) (YY st) (bS st) .none kV doc e g b ct),d⟩)(c:Tt K b a=ba)(k:Rn K (.ref f)=ba):Fun K x a st f (Ro x a (WJ st) (YY st) (bS st) .none kV doc e g b ct):=⟨⟨h,od,kV,doc,e,g,b,ct,d,rfl,l,c⟩,k⟩
end
def nQ{A:Bz}{k:Nat}(a:WR k A):A.units+1<cLine:=Hz (Nat.add_le_add_left (by decide:1<=64) _) a.units
section
variable{X:Cx}
def pv(i:Nat){x:Wy}{a:Pos}(e:X.N[i]?=b0 x:=by rfl)(c:Vis X.env.scope x:=by first|exact Lk rfl|exact Ju (Lk rfl)|exact Ju (Ju rfl))(d:(x==("__debug__":Wy))=bb:=by decide)(b:(x==("__classdict__":Wy))=bb:=by decide):PE X (.Name x a) (KY i):=DJ e c d b
end
def NI{A B:Prop}(h:B):if bb=ba then A else B:=by rw[if_neg Db];exact h
def NJ{A B:Prop}(h:A):if ba=ba then A else B:=by rw[if_pos rfl];exact h
def aS(H a:Hp):Prop:=∀b o,H b=b0 o->a b=b0 o
def aS.refl(H:Hp):aS H H:=λ_ _ h=>h
def aS.trans{H e d:Hp}(a:aS H e)(b:aS e d):aS H d:=λc o h=>b c o (a c o h)
def aS.seq{K:Au}{H b:Hp}{a:Ws}{xs:List V}(e:aS H b)(h:WZ K H a xs):WZ K b a xs:=by
 rcases h with(h|⟨o,h⟩)|h;exact .inl (.inl (e _ _ h));exact .inl (.inr ⟨o,e _ _ h⟩);exact .inr h
theorem G1{env:Env}{f:Wy×Xg->List (Wy×Ws)->Xi (ForInStep (List (Wy×Ws)))}(i:∀n k r,f (n,k) r=if(k==Ca)=ba then(cellOf env n>>=λc=>pure (Fz ((n,c)::r)))else pure (Fz r)):∀(names:List (Wy×Xg)) (b:List (Wy×Ws)),(∀y∈names,y.2=.free->∃c,env.cells.lookup y.1=b0 c)->∃cl,forIn names b f=(pure cl:Xi (List (Wy×Ws)))/\(∀x c,cl.lookup x=b0 c->b.lookup x=b0 c∨env.cells.lookup x=b0 c)∧(∀x c,b.lookup x=b0 c->∃g,cl.lookup x=b0 g)/\∀x,(x,Ca)∈names->∃c,cl.lookup x=b0 c
 |[],b,_=>⟨b,rfl,λ_ _ e=>.inl e,λ_ c e=>⟨c,e⟩,λ_ h=>nomatch h⟩
 | (n,k) :: r,b,h => by
  have p:∀y∈r,y.2=.free->∃c,env.cells.lookup y.1=b0 c:=λy s=>h y (Ai _ s);by_cases j:k=.free;subst j;obtain⟨c,hc⟩:=h (n,.free) Ag rfl;have hc:env.cells.lookup n=b0 c:=hc;obtain⟨cl,o,m,d,l⟩:=G1 i r ((n,c)::b) p;refine⟨cl,?_,λx g e=>?_,λx g e=>?_,λx a=>?_⟩;rw [Fo,i,if_pos (show (Ca == Ca) = ba by decide)];have u:cellOf env n=pure c:=by unfold cellOf;rw[hc]
  rw[u,pure_bind,pure_bind];exact o;rcases m x g e with q|q;by_cases a:x=n;subst a;rw[Ew]at q;cases q;exact .inr hc;rw[Cz,beq_eq_false_iff_ne.mpr a]at q;exact .inl q;exact .inr q;by_cases a:x=n;subst a;exact d x c (Ew ..);refine d x g ?_;rw[Cz,beq_eq_false_iff_ne.mpr a];exact e;rcases Ak.mp a with q|q;cases q;exact d n c (Ew ..);exact l x q;obtain⟨cl,o,m,d,l⟩:=G1 i r b p;refine⟨cl,?_,m,d,λx a=>?_⟩;have t : ¬ (k == Ca) = ba := by simpa using j
  rw[Fo,i,if_neg t,pure_bind];exact o;rcases Ak.mp a with q|q;cases q;exact absurd rfl j;exact l x q
def dJ{env:Env}{scope:Xd}(h:∀y∈scope.names,y.2=.free->∃c,env.cells.lookup y.1=b0 c):∃cl,closureFor scope env=pure cl/\(∀x c,cl.lookup x=b0 c->env.cells.lookup x=b0 c)/\∀x,(x,Ca)∈scope.names->∃c,cl.lookup x=b0 c:=by
 simp only[closureFor];obtain⟨cl,b,g,_,d⟩:=G1 (env:=env) (f:=λx r=>match x with
  |(name,a)=>if(a==Ca)=ba then(cellOf env name>>=λc=>pure (Fz ((name,c)::r)))else pure (Fz r)) (λ_ _ _=>rfl) scope.names [] h
 refine⟨cl,?_,λx c e=>?_,d⟩
 first
  |exact b
  |(refine Eq.trans (congrArg (λm=>m>>=pure) b) ?_;exact pure_bind _ _)
 rcases g x c e with q|q;cases q;exact q
def Y8(ix:List Nat)(a:St):St:=ix.map λi=>(a[i]?).join
def PTs(Y:Cx)(b:List Ww)(e:TT):Prop:=
 ∀(d:List (Ws×Xc)) (s:Af) (a:St) (H:Hp) (Q:Bool->Hp->Prop),b9 Y d a H s->e a H Q->
  Wt (Wu Y.prog Y.w) Y.A (forIn b ba λc r=>if r=ba then do let ok<-isTrue c Y.env (eval c Y.env);pure (Fz ok)else pure (Fz r)) (TP Y d a Q) Y.xe s
def tYes:TT:=λ_ H Q=>Q ba H
def jF{Y:Cx}:PTs Y [] tYes:=λ_ _ _ H _ I h=>wpAny_tests_nil ⟨H,I,h⟩
def ky{Y:Cx}{c:Ww}{a:TT}(h:PT Y c a):PTs Y [c] a:=λd s b H Q I hw=>wpAny_tests_one (h d s b H Q I hw)
structure Blk(Y:Cx)(tg:Ww)(ifs:List Ww)(elt:Ww)(g:TG)(tt:TT)(te:TE):Prop where
 tg:PG Y tg g
 ts:PTs Y ifs tt
 el:PE Y elt te
section
variable{X:Cx}{aa:List (Ws×Xc)}{σ:St}{H H':Hp}{s s1 s':Af}{h'':Wz}
def b9.offNew{a:St}{k:Hp}(d:b9 X aa σ k s1)(j:b9 X aa a H' s')(i:H' s1.heap.objs.size=b4)(g:∀b o,b≠s1.heap.objs.size->s'.heap.get? b=b0 o->h''.get? b=b0 o):b9 X aa a H' {s' with heap:=h''}:=
 j.turned (t':=s'.toks) (it:=s1.heap.objs.size) g i (Hg d.lt) (.inr d.sz)
  (λx c e z => by
   obtain⟨v,q⟩:=d.cell x c e;have:=q.lt;rw[z]at this;exact By _ this)
  λp h z=>by
   have:=As (d.pin p h).1
   rw[z]at this;exact By _ this
end
abbrev TM:=St->Hp->(St->Hp->Prop)->Prop
inductive Yb(D:Ws)(o0:HO)(ix:List Nat)(nl:Nat)(J:It)(g:TG)(tt:TT)(tm:Ws->TM)(σ:St)(H0:Hp)(Q:Hp->Prop):Prop
 |mk (W:Nat->Nat->Hp->Prop) (m:Nat) (h0:W 0 m (Z8 H0 D o0)) (h1:∀i m H1,W i m H1->(J.stop i H1/\Q H1)∨
  (J.go i H1/\ ∃N:Hp->Prop,(∀H',N H'-> ∃m',m'<m/\W (i+1) m' H')∧
   ∀x H2,J.yld i H1 x H2->g x (Y8 ix σ++Cb nl b4) H2 λσ2 H3=>σ2.take ix.length=Y8 ix σ∧
    tt σ2 H3 λb H4=>if b=ba then tm D σ2 H4 (λxm H'=>xm.take ix.length=Y8 ix σ/\N H')else N H4)):Yb D o0 ix nl J g tt tm σ H0 Q
def tmL(d:TE)(D:Ws):TM:=λb H N=>d b H λv c=>∃a,c D=b0 (.lst a)/\a.length<sizeLine/\N b (Z8 c D (.lst (a++[v])))
theorem PY{env:Env}{x:Wy}:∀{l:List (Wy×Xg)},l.lookup x=b0 .free->(l.map λ(n,k)=>if(k==Ca&&env.scope.kind== .function&&env.kindOf n==b0 .cell)then(n,Cu)else(n,k)).lookup x=b0 .cell∨(l.map λ(n,k)=>if(k==Ca&&env.scope.kind== .function&&env.kindOf n==b0 .cell)then(n,Cu)else(n,k)).lookup x=b0 .free
 |[],h=>by cases h
 | (n,k) :: r,h => by
  show Rc x ((if(k==Ca&&env.scope.kind== .function&&env.kindOf n==b0 .cell)=ba then(n,Cu)else(n,k))::_)=b0 .cell∨Rc x ((if(k==Ca&&env.scope.kind== .function&&env.kindOf n==b0 .cell)=ba then(n,Cu)else(n,k))::_)=b0 .free;by_cases c:x=n;subst c;rw[Ew]at h;cases h;by_cases hc:(Ca==Ca&&env.scope.kind== .function&&env.kindOf x==b0 .cell)=ba;left
  rw[if_pos hc,Ew];right
  rw[if_neg hc,Ew];have a:(x==n)=bb:=beq_eq_false_iff_ne.mpr c;simp only[Cz,a]at h;have b:=PY (env:=env) h;by_cases hc:(k==Ca&&env.scope.kind== .function&&env.kindOf n==b0 .cell)=ba;rw[if_pos hc];simp only[Cz,a];exact b;rw[if_neg hc];simp only[Cz,a];exact b
def IA(ix:List Nat)(nl:Nat)(c:TI)(g:TG)(d:TT)(tm:Ws->TM):TE:=λa H Q=>c a H λJ b=>∀D,b D=b4->Yb D (.lst []) ix nl J g d tm a b λe=>Q (.ref D) e
abbrev Xp(ix:List Nat)(nl:Nat)(a:TI)(g:TG)(b:TT)(c:TE):TE:=IA ix nl a g b (tmL c)
mutual
inductive Dp(K:Au)(H:Hp):V->Qt->Prop
 |non:Dp K H .non .none
 |bl (b:Bool):Dp K H (.bl b) (.bool b)
 |int (i:Int):Dp K H (.int i) (.int i)
 |str (x:Wy):Dp K H (.str x) (.str x)
 |lst {a:Ws}{xs:List V}{ds:List Qt}:WZ K H a xs->K4 K H xs ds->Dp K H (.ref a) (.list ds)
 |tup {a:Ws}{xs:List V}{ds:List Qt}:WT K H a xs->K4 K H xs ds->Dp K H (.ref a) (.tuple ds)
inductive K4(K:Au)(H:Hp):List V->List Qt->Prop
 |nil:K4 K H [] []
 |cons {v:V}{vs:List V}{d:Qt}{ds:List Qt}:Dp K H v d->K4 K H vs ds->K4 K H (v::vs) (d::ds)
end
section
variable{X:Cx}{aa:List (Ws×Xc)}{σ:St}{H:Hp}{s:Af}
mutual
theorem b9.reads(I:b9 X aa σ H s):∀{v:V}{d:Qt}{u:Wr},Dp X.K H v d->bP v u->∃as,Reads s.heap u d as
 |_,_,_,.non,r=>by cases r;exact⟨_,.none⟩
 |_,_,_,.bl b,r=>by cases r;exact⟨_,.bool b⟩
 |_,_,_,.int i,r=>by obtain⟨t,rfl⟩:=r;exact⟨_,.int i t⟩
 |_,_,_,.str x,r=>by obtain⟨t,rfl⟩:=r;exact⟨_,.str x t⟩
 |_,_,_,.lst q all,r=>by
  cases r;obtain⟨f,a,⟨o,n,e,c,_,d⟩,_⟩:=I.list q;obtain⟨as,h⟩:=b9.readsAll I all a;exact⟨_,.list e c d (by simpa using h)⟩
 |_,_,_,.tup q all,r=>by
  cases r;obtain⟨f,a,⟨o,e,c,n,d⟩,_⟩:=I.tuple q;obtain⟨as,h⟩:=b9.readsAll I all a;exact⟨_,.tuple e c d (by simpa using h)⟩
theorem b9.readsAll(I:b9 X aa σ H s):∀{vs:List V}{ds:List Qt}{a:List Wr},K4 X.K H vs ds->bT vs a->∃as,ReadsAll s.heap a ds as
 |_,_,_,.nil,r=>by cases r;exact⟨_,.nil⟩
 | _,_,_,.cons h t,r => by
  cases r with
  |cons c b=>
   obtain⟨as,e⟩:=b9.reads I h c;obtain⟨bs,d⟩:=b9.readsAll I t b;exact⟨_,.cons e d⟩
end
end
def rEqD(K:Au):R2:=λx y H Q=>∃d e,Dp K H x d/\Dp K H y e/\Fp d=ba/\Fp e=ba/\Q (.bl (Lu d e)) H
def rNeD(K:Au):R2:=λx y H Q=>∃d e,Dp K H x d/\Dp K H y e/\Fp d=ba/\Fp e=ba/\Q (.bl (!PyData.eqv d e)) H
section
variable{X:Cx}
def rh(g:X.A.units+64<cLine):V7 X (Dh .Eq) (rEqD X.K):=by intro o s m H x y v u Q I f c h;obtain⟨d,e,j,i,b,a,q⟩:=h;obtain⟨n,l⟩:=I.reads j f;obtain⟨bs,k⟩:=I.reads i c;exact eq_dataH l k b a g (G6 I q rfl)
def oN(g:X.A.units+64<cLine):V7 X (Dh .NotEq) (rNeD X.K):=by intro o s m H x y v u Q I f c h;obtain⟨d,e,j,i,b,a,q⟩:=h;obtain⟨n,l⟩:=I.reads j f;obtain⟨bs,k⟩:=I.reads i c;exact ne_dataH l k b a g (G6 I q rfl)
def rngP(p:Ws)(a b c:Int):Wz->Prop:=λh=>∃t u v,IsRange h p a b c t u v
inductive IN:List Pk->List (Wy×V)->Prop
 |nil:IN [] []
 |cons {e:Pk}{es:List Pk}{x:Wy}{t:Tok}{v:V}{D:List (Wy×V)}:e.key=.str x t->bP v e.val->IN es D->IN (e::es) ((x,v)::D)
def KTab(K:Au)(a:Ws)(D:List (Wy×V)):Prop:=
 (a==Ho)=bb/\∃o b c,K.lookup a=b0 o/\o.ExactDict/\o.data=.dict b c/\IN b.toList D
def IN.rows{es:List Pk}{D:List (Wy×V)}(h:IN es D):KTD.Rows bP es D:=by
 induction h with
 |nil=>exact .nil
 |cons c b _ a=>exact .cons c b a
def EW{A:Bz}{E:Wr->Af->Prop}{s:Af}{K:Au}{prog:Az}{w:Wv}{a:Ws}{D:List (Wy×V)}{k:Wy}{q:Tok}{Q:Option Wr->Af->Prop}(u:K.In s.heap)(T:KTab K a D)(y:∀d v,Gv k D=b0 d->bP d v->Q (b0 v) {s with toks:=s.toks+1})(x:Gv k D=b4->Q b4 {s with toks:=s.toks+1}):Wt (Wu prog w) A (dictGet a (.str k q)) Q E s:=by
 obtain⟨_,o,f,z,j,hc,p,g⟩:=T;have j:=u _ _ j;have g:=g.rows;unfold dictGet;try with_reducible refine Bu ?_
 refine Aa (wpAny_pyHash_str (Aa (KTD.kt_dictFind_strs (s:={s with toks:=s.toks+1}) j p (by obtain⟨l⟩:=f;simpa using g.exact) ?_)));have h:Q (findBy (λk v=>v.isStr k) f k) {s with toks:=s.toks+1}:=by
  have t:findBy (λk v=>v.isStr k) f k=(f.toList.find? λe=>e.key.isStr k).map (·.val):=by obtain⟨l⟩:=f;simp[findBy]
  rw[t];cases c:Gv k D with
  |some d=>obtain⟨v,r,m⟩:=g.find_some c;rw[r];exact y d v c m
  |none=>rw[g.find_none c];exact x c
 rw[findBy_of_findIdx?]at h;cases n:f.findIdx? λe=>e.key.isStr k with
 |none=>rw[n]at h;exact Ad h
 |some i=>rw[n]at h;exact Aa (wpAny_dictEntries (s:={s with toks:=s.toks+1}) j p (Ad h))
def jB:IxR X (λx y H Q=>∃a k D v,x=.ref a/\y=.str k/\KTab X.K a D/\Gv k D=b0 v/\Q v H):=by
 intro value e B s j H x y v u Q I n m h r;obtain⟨a,k,D,d,rfl,rfl,T,g,q⟩:=h;cases n;obtain⟨t,rfl⟩:=m;have c:s.TypeIs (.ref a) "dict":=by obtain⟨_,o,C,E,z,hc,_⟩:=T;exact⟨o,I.kIn _ _ z,hc.1⟩
 have b:Wt (Wu X.prog X.w) X.A (Of (.ref a) (.str k t)) (EP X B j Q) X.xe s:=by
  unfold Of;try with_reducible refine Bu ?_
  refine Aa (Nj c (by decide) ?_);refine Aa (Dc (name:=Ay "__getitem__") c Nc
   (Ck Nc c PySem.F.entry_dict_getitem ?_ (PySem.F.args_dict_getitem_2 _ _)))
  show Wt _ _ (dictGet a (.str k t)>>=_) _ _ s;exact Aa (EW I.kIn T (λG l i p=>Ad ⟨l,rfl,Ad (by rw[g]at i;cases i;exact⟨d,H,I.tok _,p,q⟩)⟩) λf=>by rw[g]at f;cases f)
 exact Vk c PySem.F.slot_dict_getitem.lookup b r
end
section
variable{prog:Az}{w:Wv}{A:Bz}{E:Wr->Af->Prop}{s:Af}
theorem JH{it t:Ws}{items:Array Wr}(g:t≠it):∀(n i:Nat) (s:Af) (Q:List Wr->Af->Prop),s.heap.IsListIter it t i->s.heap.IsList t items->i+n<=items.size->(∀h',h'.IsListIter it t (i+n)->Dw it s.heap h'->Q ((items.toList.drop i).take n) {s with heap:=h'})->Wt (Wu prog w) A (draw (.ref it) n) Q E s
 |0,i,s,Q,e,_,_,j=>by show Wt _ _ (pure []) Q E s;exact Ad (by simpa using j s.heap e (Heap.SameBut.refl ..))
 |n+1,i,s,Q,e,l,o,j=>by
  have h:i<items.size:=by lia
  show Wt _ _ (pyNext (.ref it)>>=_) Q E s;refine Aa (Pd e l (x:=items[i]) (by simp[h]) λk c a=>?_);refine Aa (Bu (JH g n (i+1) _ _ c (l.extBut a.extBut g) (by lia) λf b d=>Ad ?_));have p:items.toList.drop i=items[i]::items.toList.drop (i+1):=by simp[Em,h]
  have:=j f (by rw[show i+(n+1)=i+1+n by lia];exact b) (a.trans d)
  rw[p,Rf]at this;exact this
def OP{t:Ws}{items:Array Wr}{Q:List Wr->Af->Prop}(p:A.handled=b4)(k:s.heap.IsList t items)(q:∀h',Kk s.heap.objs.size s.heap h'->Q items.toList {s with heap:=h'}):Wt (Wu prog w) A (Ma (.ref t) items.size b4) Q E s:=by
 have j:t≠s.heap.objs.size:=by obtain⟨o,l,_⟩:=k;exact Bd (As l)
 unfold Ma;refine Aa ?_;unfold notIterableAtAll;refine Aa (Fd k.typeIs PySem.F.slot_list_iter.lookup ?_);refine Ad ?_;simp only[Aj,if_false];refine Aa (Bu (Fx k ?_));have i:(s.heap.push {cls:=.type "list_iterator",data:=.fields #[.ref t,.int 0 0]}).IsList t items:=by obtain⟨o,l,r⟩:=k;exact⟨o,Ae _ l,r⟩
 refine Aa (Bu (JH j items.size 0 _ _ ⟨_,Ar _ rfl,rfl,rfl⟩ i (by lia) λh c a=>?_));have u:List.take items.size (List.drop 0 items.toList)=items.toList:=by rw[Nd];exact Cv (by simp)
 rw[u];rw[if_neg (by simp)];have d:h.IsList t items:=i.extBut a.extBut j;refine Aa (Bu (Pq p c d (by simp) λg f=>?_));simp only[Option.isSome_none,Aj,if_false];refine Ad (q g λb o n e=>f b o n (a.extBut b o n (Ae _ e)))
def OX{env:Env}{a:List Ww}{x1}{b:Pos}{t:Ws}{items:Array Wr}{Q:Unit->Af->Prop}(f:A.handled=b4)(d:s.heap.IsList t items)(e:(Wx a env).length=items.size)(g:(Wx a env).findIdx? (·.1)=b4)(h:∀h',Kk s.heap.objs.size s.heap h'->Wt (Wu prog w) A (Xh ((Wx a env).map (·.2)) items.toList) Q E {s with heap:=h'}):Wt (Wu prog w) A (assign (.Tuple a x1 b) env (.ref t)) Q E s:=by rw[assign_Tuple];refine Aa (Go ?_);unfold unpack;rw[e,g];exact Aa (Bu (OP f d h))
end
section
variable{X:Cx}{pos:Pos}
def gLst(K:Au)(n:Nat)(t:TGs):TG:=λv c H Q=>∃a b,v=.ref a/\WZ K H a b/\b.length=n/\t b c H Q
def rf{es:List Ww}{k:Nat}{t:TGs}{n:Nat}(hc:X.calm=ba)(h:PGs X es t)(q:(Wx es X.env).length=n:=by rfl)(VC:(Wx es X.env).findIdx? (·.1)=b4:=by rfl):PG X (.Tuple es k pos) (gLst X.K n t):=by intro g s c H v u Q I r hw;obtain⟨a,i,x,p,hl,hw⟩:=hw;subst x;cases r;obtain⟨j,d,m,z⟩:=I.list p;refine OX (I.ok.hd hc) m.isList (by simp[q,<-hl,d.length]) VC λw l=>?_;have y:b9 X g c H {s with heap:=w}:=I.kept (t':=s.toks) λb o e=>l b o (Bd (As e)) e;exact h g _ c H i _ Q y (by simpa using d) hw
end
section
variable{X:Cx}{K:Au}
def pL(h:X.K=K:=by rfl):aH X (.type "list") (λa H Q=>∃p ys,a=[.ref p]/\(WZ K H p ys∨WT K H p ys)/\∀l,H l=b4->Q (.ref l) (Z8 H l (.lst ys))):=by subst h;exact G0
def mj(h:X.K=K:=by rfl):aH X (.type "tuple") (λa H Q=>∃p ys,a=[.ref p]/\((WZ K H p ys/\∀l,H l=b4->Q (.ref l) (Z8 H l (.tup ys)))∨(WT K H p ys/\Q (.ref p) H))):=by subst h;exact KQ
def kEqD(a:X.A.units+64<cLine)(h:X.K=K:=by rfl):V7 X (Dh .Eq) (rEqD K):=by subst h;exact rh a
def UA(a:X.A.units+64<cLine)(h:X.K=K:=by rfl):V7 X (Dh .NotEq) (rNeD K):=by subst h;exact oN a
def Yl(h:X.K=K){es:List Ww}{k:Nat}{t:TGs}{n:Nat}{a:Pos}(hc:X.calm=ba)(c:PGs X es t)(b:(Wx es X.env).length=n:=by rfl)(VC:(Wx es X.env).findIdx? (·.1)=b4:=by rfl):PG X (.Tuple es k a) (gTup K n t):=by subst h;exact jN hc c b VC
def ma(h:X.K=K){es:List Ww}{k:Nat}{t:TGs}{n:Nat}{a:Pos}(hc:X.calm=ba)(c:PGs X es t)(b:(Wx es X.env).length=n:=by rfl)(VC:(Wx es X.env).findIdx? (·.1)=b4:=by rfl):PG X (.Tuple es k a) (gLst K n t):=by subst h;exact rf hc c b VC
def gG(h:X.K=K){b l:Ww}{a:TE}(hl:PE X l a):PI X b l (fU K a):=by subst h;exact rB hl
def Yz(h:X.K=K){b l:Ww}{a:TE}(hl:PE X l a):PI X b l (iTup K a):=by subst h;exact iE hl
def kBm(h:X.K=K:=by rfl){o e:Ww}{es:List Ww}{to:TE}{t:TA}{name:Wy}{c a:Pos}{T id:String}{r:V->List V->Hp->VK->Prop}(d:PlainAttrs T)(slot:Slot T name id)(b:typeOf (.builtin id)=pure (.type "method_descriptor"))(g:MtR X id r)(f:PE X o to)(i:PA X (e::es) t)(k:Jq o name X.env (eval o X.env)=eval o X.env:=by rfl)(j:((Hk a (Bi (e::es) X.env)).all (λx=> !x.1)&&(Rr a (Mc [] X.env)).all (λx=>x.1.isSome)&&decide ((e::es).length+([]:List Md).length+(if([]:List Md).isEmpty then 0 else 1)<30))=ba:=by rfl)(l:(c.endLine==a.line)=ba:=by rfl)(hs:Bi (e::es) X.env=(bb,eval e X.env)::Bi es X.env:=by rfl)(m:(Hk a (Bi es X.env)).any (·.1)=bb:=by rfl):PE X (.Call (.Attribute o name c) (e::es) [] a) (tBM K T r to t):=by subst h;exact kg d slot b g f i k j l hs m
end
def Zi:Bv "len"=b0 (.builtin "len"):=by decide+kernel
def so:Bv "min"=b0 (.builtin "min"):=by decide+kernel
def rn:Bv "max"=b0 (.builtin "max"):=by decide+kernel
def UI:Bv "sorted"=b0 (.builtin "sorted"):=by decide+kernel
def KN:Bv "isinstance"=b0 (.builtin "isinstance"):=by decide+kernel
def WI:Bv "list"=b0 (.type "list"):=by decide+kernel
def aC:Bv "tuple"=b0 (.type "tuple"):=by decide+kernel
def nA:Bv "range"=b0 (.type "range"):=by decide+kernel
def fS:Bv "bool"=b0 (.type "bool"):=by decide+kernel
def pZ:Bv "int"=b0 (.type "int"):=by decide+kernel
def qq:Bv "str"=b0 (.type "str"):=by decide+kernel
structure Def(P:Az)(w:Wv)(K:Au)(mg:Wy->Option Wr)(base:Wz)(x:Wy)(k:Nat)(ps:List Wy)(sp:Sp)(f:Ws):Prop where
 at_:mg x=b0 (.ref f)
 ok:∃fd,N5 P w K mg base CX0 k f fd ps sp/\IJ K fd ps []
 kp:Rn K (.ref f)=ba
section
variable{X:Cx}{x:Wy}{k j:Nat}{ps:List Wy}{sp:Sp}{f:Ws}{p pos:Pos}{e:Ww}{es:List Ww}{t:TA}
def jq(D:Def X.prog X.w X.K X.mg X.base x k ps sp f)(c:WR j X.A)(d:k<=j)(g:Gl X x)(i:PA X (e::es) t)(b:(x==("__debug__":Wy))=bb:=by decide)(h:Bi (e::es) X.env=(bb,eval e X.env)::Bi es X.env:=by rfl)(a:(Hk pos (Bi es X.env)).any (·.1)=bb:=by rfl):PE X (.Call (.Name x p) (e::es) [] pos) (Xv sp [] E0 t):=by obtain⟨l,F,B⟩:=D.ok;exact qf F (c.mono d) g D.at_ D.kp B .nil sI i b h a
end
def cQ{H:Hp}{p:Ws}{o:HO}(a:H p=b4):aS H (Z8 H p o):=λb c e=>by rw[a8 (XD e a)];exact e
def FX(ns:List Int):Fp (.list (ns.map Sm))=ba:=by
 have b:Hq (.list (ns.map Sm))=ba:=by simp only[Hq,canLayAll_ints]
 have a:Lb (.list (ns.map Sm))<=64:=by simp only[Lb,depthAll_ints];decide
 unfold Fp;rw[b,decide_eq_true a];rfl
abbrev SE(X:Cx)(a:Ww)(es:List Ww):Prop:=Bi (a::es) X.env=(bb,eval a X.env)::Bi es X.env
abbrev ND(x:Wy):Prop:=(x==("__debug__":Wy))=bb
abbrev LO(X:Cx)(x:Wy):Prop:=X.fn x=ba∨X.env.scope.names.lookup x=b0 .local
abbrev Ky:=bH
inductive cY where
 |non|bl (b:Bool)|int (i:Int)|str (x:Wy)|ty (n:String)|fn (x:Wy)|tup (ds:List cY)|lst (ds:List cY)|dct (ks:List bH) (ds:List cY)|exn (x:Wy)|exr (x n:Wy) (d:cY)|dcn (ks:List (List Ky)) (ds:List cY)
def FzL(K:Au)(H:Hp)(a:Ws)(xs:List V):Prop:=
 (∃o,H a=b0 (.frz o (.lst xs)))∨
  ∃(o:Xc) (b:Array Wr) (n:Nat),K.lookup a=b0 o/\o.cls=.type "list" /\o.dict=b4/\o.data=.seq b n/\b.size<=sizeLine/\bT xs b.toList
def FzL.sq{K:Au}{H:Hp}{a:Ws}{xs:List V}(h:FzL K H a xs):WZ K H a xs:=by
 rcases h with⟨o,h⟩|h;exact .inl (.inr ⟨o,h⟩);exact .inr h
def pO(h:Wz)(a C:Ws):Prop:=∃o b,h.get? a=b0 o/\o.cls=.ref C/\o.data=.fields b
def iQ(h:Wz)(a C D:Ws):Prop:=∃o b,h.get? a=b0 o/\o.cls=.ref C/\o.data=.fields b/\o.dict=b0 D
mutual
inductive bE(K:Au)(N:Ws->Prop)(H:Hp):(Ws->Prop)->V->cY->Prop
 |non {M:Ws->Prop}:bE K N H M .non .non
 |bl {M:Ws->Prop}(b:Bool):bE K N H M (.bl b) (.bl b)
 |int {M:Ws->Prop}(i:Int):bE K N H M (.int i) (.int i)
 |str {M:Ws->Prop}(x:Wy):bE K N H M (.str x) (.str x)
 |ty {M:Ws->Prop}(n:String):bE K N H M (.ty n) (.ty n)
 |fn {M:Ws->Prop}{a:Ws}{x:Wy}:Te K Xb x=b0 (b0 (.ref a))->bE K N H M (.ref a) (.fn x)
 |tup {M:Ws->Prop}{a:Ws}{xs:List V}{ds:List cY}:WT K H a xs->cA K N H xs ds->bE K N H M (.ref a) (.tup ds)
 |lst {M:Ws->Prop}{a:Ws}{xs:List V}{ds:List cY}:H a=b0 (.lst xs)->¬M a->cA K N H xs ds->bE K N H M (.ref a) (.lst ds)
 |fzl {M:Ws->Prop}{a:Ws}{xs:List V}{ds:List cY}:FzL K H a xs->cA K N H xs ds->bE K N H M (.ref a) (.lst ds)
 |dct {M:Ws->Prop}{a:Ws}{kvs:List (bH×V)}{ds:List cY}:H a=b0 (.dK kvs)->¬M a->cA K N H (kvs.map Ej) ds->bE K N H M (.ref a) (.dct (kvs.map Dr) ds)
 |ktb {M:Ws->Prop}{a:Ws}{D:List (Wy×V)}{ds:List cY}:KTab K a D->cA K N H (D.map Ej) ds->bE K N H M (.ref a) (.dct (D.map λp=>.inr p.1) ds)
 |exn {M:Ws->Prop}{a C:Ws}{x:Wy}{φ:Wz->Prop}:Te K Xb x=b0 (b0 (.ref C))->H a=b0 (.ext φ)->(∀h,φ h->pO h a C)->bE K N H M (.ref a) (.exn x)
 |exr {M:Ws->Prop}{a C D:Ws}{x n:Wy}{φ:Wz->Prop}{v:V}{d:cY}:Te K Xb x=b0 (b0 (.ref C))->H a=b0 (.ext φ)->(∀h,φ h->iQ h a C D)->H D=b0 (.xd [(n,v)])->bE K N H N v d->bE K N H M (.ref a) (.exr x n d)
 |dcn {M:Ws->Prop}{a:Ws}{kvs:List (List Ky×V)}{ds:List cY}:H a=b0 (.dT kvs)->¬M a->cA K N H (kvs.map Ej) ds->bE K N H M (.ref a) (.dcn (kvs.map Dr) ds)
inductive cA(K:Au)(N:Ws->Prop)(H:Hp):List V->List cY->Prop
 |nil:cA K N H [] []
 |cons {v:V}{vs:List V}{d:cY}{ds:List cY}:bE K N H N v d->cA K N H vs ds->cA K N H (v::vs) (d::ds)
end
inductive RepL(K:Au)(N:Ws->Prop)(H:Hp)(M:Ws->Prop)(ds:List cY):V->Prop
 |lst {a:Ws}{xs:List V}:H a=b0 (.lst xs)->¬M a->cA K N H xs ds->RepL K N H M ds (.ref a)
 |fzl {a:Ws}{xs:List V}:FzL K H a xs->cA K N H xs ds->RepL K N H M ds (.ref a)
inductive RepT(K:Au)(N:Ws->Prop)(H:Hp)(ds:List cY):V->Prop
 |tup {a:Ws}{xs:List V}:WT K H a xs->cA K N H xs ds->RepT K N H ds (.ref a)
inductive RepD(K:Au)(N:Ws->Prop)(H:Hp)(M:Ws->Prop)(ks:List bH)(ds:List cY):V->Prop
 |dct {a:Ws}{kvs:List (bH×V)}:H a=b0 (.dK kvs)->¬M a->cA K N H (kvs.map Ej) ds->ks=kvs.map Dr->RepD K N H M ks ds (.ref a)
 |ktb {a:Ws}{D:List (Wy×V)}:KTab K a D->cA K N H (D.map Ej) ds->ks=D.map (λp=>.inr p.1)->RepD K N H M ks ds (.ref a)
def RepI(K:Au)(N:Ws->Prop)(H:Hp)(M:Ws->Prop)(v:V):cY->Prop
 |.non=>v=.non
 |.bl b=>v=.bl b
 |.int i=>v=.int i
 |.str x=>v=.str x
 |.ty n=>v=.ty n
 |.fn x=>∃a,v=.ref a/\Te K Xb x=b0 (b0 (.ref a))
 |.tup c=>RepT K N H c v
 |.lst c=>RepL K N H M c v
 |.dct ks c=>RepD K N H M ks c v
 |_=>True
section
variable{K:Au}{N:Ws->Prop}{H:Hp}{M:Ws->Prop}{v:V}{d:cY}{ds:List cY}
def bE.inv(h:bE K N H M v d):RepI K N H M v d:=by
 cases h with
 |fn q=>exact⟨_,rfl,q⟩
 |tup q r=>exact .tup q r
 |lst q n r=>exact .lst q n r
 |fzl q r=>exact .fzl q r
 |dct q n r=>exact .dct q n r rfl
 |ktb q r=>exact .ktb q r rfl
 |dcn _ _ _=>trivial
 |exn _ _ _=>trivial
 |exr _ _ _ _ _=>trivial
 |_=>rfl
def bE.onI{i:Int}(h:bE K N H M v (.int i)):v=.int i:=h.inv
def bE.onB{i:Bool}(h:bE K N H M v (.bl i)):v=.bl i:=h.inv
def bE.onS{i:Wy}(h:bE K N H M v (.str i)):v=.str i:=h.inv
def bE.onL(h:bE K N H M v (.lst ds)):RepL K N H M ds v:=h.inv
def bE.onT(h:bE K N H M v (.tup ds)):RepT K N H ds v:=h.inv
def bE.onD{ks:List bH}(h:bE K N H M v (.dct ks ds)):RepD K N H M ks ds v:=h.inv
end
def Hard:HO->Prop
 |.tup _=>True
 |.frz _ _=>True
 |.ext _=>True
 |.xd _=>True
 |_=>False
def Fr(P:Ws->Prop)(H a:Hp):Prop:=∀b o,H b=b0 o->(P b->Hard o)->a b=b0 o
def Fr.refl(P:Ws->Prop)(H:Hp):Fr P H H:=λ_ _ h _=>h
def Fr.trans{P:Ws->Prop}{H e d:Hp}(a:Fr P H e)(b:Fr P e d):Fr P H d:=λc o h n=>b c o (a c o h n) n
def Fr.mono{P d:Ws->Prop}{H f:Hp}(a:Fr P H f)(h:∀b,P b->d b):Fr d H f:=λc o e n=>a c o e λz=>n (h c z)
def aS.fr{P:Ws->Prop}{H b:Hp}(a:aS H b):Fr P H b:=λc o h _=>a c o h
section
variable{K:Au}{N N' M M' P:Ws->Prop}{H H':Hp}
section
variable{vs:List V}{ds:List cY}
def Fr.tup(f:Fr P H H'){a:Ws}{xs:List V}(h:WT K H a xs):WT K H' a xs:=by
 rcases h with h|h;exact .inl (f _ _ h λ_=>trivial);exact .inr h
def Fr.fzl(f:Fr P H H'){a:Ws}{xs:List V}(h:FzL K H a xs):FzL K H' a xs:=by
 rcases h with⟨o,h⟩|h;exact .inl ⟨o,f _ _ h λ_=>trivial⟩;exact .inr h
def bE.fr(f:Fr P H H')(e:∀a,P a->N a){M:Ws->Prop}{v:V}{d:cY}(c:∀a,P a->M a)(h:bE K N H M v d):bE K N H' M v d:=
 bE.rec (motive_1:=λM v d _=>(∀a,P a->M a)->bE K N H' M v d) (motive_2:=λg j _=>cA K N H' g j) (λ_=>.non) (λb _=>.bl b) (λi _=>.int i) (λx _=>.str x) (λn _=>.ty n) (λq _=>.fn q) (λq _ r _=>.tup (f.tup q) r)
  (λq n _ r c=>.lst (f _ _ q λz=>absurd (c _ z) n) n r) (λq _ r _=>.fzl (f.fzl q) r) (λq n _ r c=>.dct (f _ _ q λz=>absurd (c _ z) n) n r) (λq _ r _=>.ktb q r) (λp q r _=>.exn p (f _ _ q λ_=>trivial) r)
  (λp q r s _ t _=>.exr p (f _ _ q λ_=>trivial) r (f _ _ s λ_=>trivial) (t e)) (λq n _ r c=>.dcn (f _ _ q λz=>absurd (c _ z) n) n r) .nil (λ_ _ a b=>.cons (a e) b) h c
def cA.map{c:Au}{N':Ws->Prop}{H':Hp}(g:∀{v d},bE K N H N v d->bE c N' H' N' v d):∀{vs:List V}{ds:List cY},cA K N H vs ds->cA c N' H' vs ds:=by
 intro vs;induction vs with
 |nil=>intro ds h;cases h;exact .nil
 |cons v vs e=>intro ds h;cases h with|cons a b=>exact .cons (g a) (e b)
def cA.fr(f:Fr P H H')(b:∀a,P a->N a)(h:cA K N H vs ds):cA K N H' vs ds:=h.map λr=>r.fr f b b
def bE.mono(e:∀a,N' a->N a){M M':Ws->Prop}{v:V}{d:cY}(c:∀a,M' a->M a)(h:bE K N H M v d):bE K N' H M' v d:=
 bE.rec (motive_1:=λM v d _=>∀M',(∀a,M' a->M a)->bE K N' H M' v d) (motive_2:=λf g _=>cA K N' H f g) (λ_ _=>.non) (λb _ _=>.bl b) (λi _ _=>.int i) (λx _ _=>.str x) (λn _ _=>.ty n) (λq _ _=>.fn q) (λq _ r _ _=>.tup q r)
  (λq n _ r _ c=>.lst q (λz=>n (c _ z)) r) (λq _ r _ _=>.fzl q r) (λq n _ r _ c=>.dct q (λz=>n (c _ z)) r) (λq _ r _ _=>.ktb q r) (λp q r _ _=>.exn p q r) (λp q r s _ t _ _=>.exr p q r s (t _ e)) (λq n _ r _ c=>.dcn q (λz=>n (c _ z)) r) .nil (λ_ _ a b=>.cons (a _ e) b) h M' c
def cA.mono(b:∀a,N' a->N a)(h:cA K N H vs ds):cA K N' H vs ds:=h.map λr=>r.mono b b
def bE.same(f:aS H H'){v:V}{d:cY}(h:bE K N H M v d):bE K N H' M v d:=h.fr f.fr (λ_ z=>z.elim) (P:=λ_=>False) λ_ z=>z.elim
def cA.same(f:aS H H')(h:cA K N H vs ds):cA K N H' vs ds:=h.fr f.fr (P:=λ_=>False) λ_ z=>z.elim
theorem cA.length:∀{vs:List V}{ds:List cY},cA K N H vs ds->vs.length=ds.length
 |_,_,.nil=>rfl
 |_,_,.cons _ t=>congrArg (· +1) (cA.length t)
theorem cA.append:∀{vs a:List V}{ds es:List cY},cA K N H vs ds->cA K N H a es->cA K N H (vs++a) (ds++es)
 |_,_,_,_,.nil,s=>s
 |_,_,_,_,.cons h t,s=>.cons h (cA.append t s)
theorem cA.get:∀{vs:List V}{ds:List cY}{i:Nat}{d:cY},cA K N H vs ds->ds[i]?=b0 d->∃v,vs[i]?=b0 v/\bE K N H N v d
 |_,_,_,_,.nil,e=>by simp at e
 |_,_,0,_,.cons r _,e=>by simp at e;subst e;exact⟨_,rfl,r⟩
 |_,_,i+1,x,.cons _ t,e=>by obtain⟨u,b,a⟩:=cA.get (i:=i) (d:=x) t (by simpa using e);exact⟨u,by simpa using b,a⟩
theorem cA.take:∀{vs:List V}{ds:List cY}(n:Nat),cA K N H vs ds->cA K N H (vs.take n) (ds.take n)
 |_,_,0,_=>.nil
 |_,_,_+1,.nil=>.nil
 |_,_,n+1,.cons r t=>.cons r (cA.take n t)
theorem cA.drop:∀{vs:List V}{ds:List cY}(n:Nat),cA K N H vs ds->cA K N H (vs.drop n) (ds.drop n)
 |_,_,0,r=>r
 |_,_,_+1,.nil=>.nil
 |_,_,n+1,.cons _ t=>cA.drop n t
theorem cA.set{v:V}{d:cY}(h:bE K N H N v d):∀{vs:List V}{ds:List cY}(i:Nat),cA K N H vs ds->cA K N H (vs.set i v) (ds.set i d)
 |_,_,_,.nil=>.nil
 |_,_,0,.cons _ t=>.cons h t
 |_,_,i+1,.cons q t=>.cons q (cA.set h i t)
def cA.snoc{v:V}{d:cY}(r:cA K N H vs ds)(h:bE K N H N v d):cA K N H (vs++[v]) (ds++[d]):=r.append (.cons h .nil)
end
end
mutual
def cY.isD:cY->Bool
 |.non=>ba
 |.bl _=>ba
 |.int _=>ba
 |.str _=>ba
 |.ty _=>bb
 |.fn _=>bb
 |.tup ds=>ER ds
 |.lst ds=>ER ds
 |.dct _ _=>bb
 |.exn _=>bb
 |.exr _ _ _=>bb
 |.dcn _ _=>bb
def ER:List cY->Bool
 |[]=>ba
 |d::a=>d.isD&&ER a
end
mutual
def cY.pd:cY->Qt
 |.non=>.none
 |.bl b=>.bool b
 |.int i=>.int i
 |.str x=>.str x
 |.ty _=>.none
 |.fn _=>.none
 |.tup ds=>.tuple (pds ds)
 |.lst ds=>.list (pds ds)
 |.dct _ _=>.none
 |.exn _=>.none
 |.exr _ _ _=>.none
 |.dcn _ _=>.none
def pds:List cY->List Qt
 |[]=>[]
 |d::a=>d.pd::pds a
end
mutual
def cY.hard:cY->Bool
 |.tup ds=>TJ ds
 |.lst _=>bb
 |.dct _ _=>bb
 |.exr _ _ _=>bb
 |.dcn _ _=>bb
 |_=>ba
def TJ:List cY->Bool
 |[]=>ba
 |d::a=>d.hard&&TJ a
end
section
variable{K:Au}{N:Ws->Prop}{H:Hp}
def bE.dp{M:Ws->Prop}{v:V}{d:cY}(h:bE K N H M v d)(e:d.isD=ba):Dp K H v d.pd:=
 bE.rec (motive_1:=λM v d _=>d.isD=ba->Dp K H v d.pd) (motive_2:=λf c _=>ER c=ba->K4 K H f (pds c)) (λ_=>.non) (λb _=>.bl b) (λi _=>.int i) (λx _=>.str x) (λ_ h=>nomatch h) (λ_ h=>nomatch h) (λq _ r h=>.tup q (r h))
  (λq _ _ r h=>.lst (WZ.of q) (r h)) (λq _ r h=>.lst q.sq (r h)) (λ_ _ _ _ h=>nomatch h) (λ_ _ _ h=>nomatch h) (λ_ _ _ h=>nomatch h) (λ_ _ _ _ _ _ h=>nomatch h) (λ_ _ _ _ h=>nomatch h) (λ_=>.nil) (λ_ _ a b e=>.cons (a (Ei.mp e).1) (b (Ei.mp e).2)) h e
def bE.hard{N':Ws->Prop}{M c:Ws->Prop}{v:V}{d:cY}(h:bE K N H M v d)(e:d.hard=ba):bE K N' H c v d:=
 bE.rec (motive_1:=λM v d _=>∀c,d.hard=ba->bE K N' H c v d) (motive_2:=λg f _=>TJ f=ba->cA K N' H g f) (λ_ _=>.non) (λb _ _=>.bl b) (λi _ _=>.int i) (λx _ _=>.str x) (λn _ _=>.ty n) (λq _ _=>.fn q) (λq _ r _ h=>.tup q (r h))
  (λ_ _ _ _ _ h=>nomatch h) (λ_ _ _ _ h=>nomatch h) (λ_ _ _ _ _ h=>nomatch h) (λ_ _ _ _ h=>nomatch h) (λp q r _ _=>.exn p q r) (λ_ _ _ _ _ _ _ h=>nomatch h) (λ_ _ _ _ _ h=>nomatch h) (λ_=>.nil) (λ_ _ a b e=>.cons (a _ (Ei.mp e).1) (b (Ei.mp e).2)) h c e
def cA.hard{N':Ws->Prop}:∀{vs:List V}{ds:List cY},cA K N H vs ds->TJ ds=ba->cA K N' H vs ds:=by
 intro vs;induction vs with
 |nil=>intro ds h _;cases h;exact .nil
 |cons v vs c=>intro ds h e;cases h with|cons a b=>exact .cons (a.hard (Ei.mp e).1) (c b (Ei.mp e).2)
end
inductive Sl where
 |no|va (d:cY)|ow (d:cY)
abbrev Ev:=List Sl
structure Bs where
 Z:Ws->Prop
 P:Ws->Prop
 H0:Hp
 mu:Nat->Option Ws
 kp:List (V×cY)
def Nn(B:Bs)(O:Nat->Option Ws):Ws->Prop:=λa=>B.Z a∨∃i,O i=b0 a
def OA(O:Nat->Option Ws):Ws->Prop:=λa=>∃i,O i=b0 a
inductive TY(K:Au)(N:Ws->Prop)(H:Hp)(a:Ws):cY->Prop
 |lst {xs:List V}{ds:List cY}:H a=b0 (.lst xs)->cA K N H xs ds->TY K N H a (.lst ds)
 |dct {kvs:List (bH×V)}{ds:List cY}:H a=b0 (.dK kvs)->cA K N H (kvs.map Ej) ds->TY K N H a (.dct (kvs.map Dr) ds)
 |dcn {kvs:List (List Ky×V)}{ds:List cY}:H a=b0 (.dT kvs)->cA K N H (kvs.map Ej) ds->TY K N H a (.dcn (kvs.map Dr) ds)
theorem TY.fr{K:Au}{N P:Ws->Prop}{H e:Hp}{a:Ws}{d:cY}(f:Fr P H e)(c:∀a,P a->N a)(b:¬P a):TY K N H a d->TY K N e a d
 |.lst q r=>.lst (f _ _ q λz=>absurd z b) (r.fr f c)
 |.dct q r=>.dct (f _ _ q λz=>absurd z b) (r.fr f c)
 |.dcn q r=>.dcn (f _ _ q λz=>absurd z b) (r.fr f c)
theorem TY.mono{K:Au}{N N':Ws->Prop}{H:Hp}{a:Ws}{d:cY}(h:∀b,N' b->N b):TY K N H a d->TY K N' H a d
 |.lst q r=>.lst q (r.mono h)
 |.dct q r=>.dct q (r.mono h)
 |.dcn q r=>.dcn q (r.mono h)
def TY.soft{K:Au}{N:Ws->Prop}{H:Hp}{a:Ws}{d:cY}(h:TY K N H a d):∃o,H a=b0 o/\¬Hard o:=by
 cases h with
 |lst q _=>exact⟨_,q,λz=>z⟩
 |dct q _=>exact⟨_,q,λz=>z⟩
 |dcn q _=>exact⟨_,q,λz=>z⟩
def TY.rep{K:Au}{N M:Ws->Prop}{H:Hp}{a:Ws}{d:cY}(h:TY K N H a d)(b:¬M a):bE K N H M (.ref a) d:=by
 cases h with
 |lst q r=>exact .lst q b r
 |dct q r=>exact .dct q b r
 |dcn q r=>exact .dcn q b r
structure aI(K:Au)(ml:List Nat)(B:Bs)(O:Nat->Option Ws)(H:Hp)(σ:St)(δ:Ev):Prop where
 len:σ.length=δ.length
 va:∀(i:Nat) (d:cY),δ[i]?=b0 (Sl.va d)->∃v,σ[i]?=b0 (b0 v)/\bE K (Nn B O) H (Nn B O) v d
 ow:∀(i:Nat) (d:cY),δ[i]?=b0 (Sl.ow d)->∃a,O i=b0 a/\σ[i]?=b0 (b0 (.ref a))/\TY K (Nn B O) H a d
 dom:∀(i:Nat) a,O i=b0 a->∃d,δ[i]?=b0 (Sl.ow d)
 inj:∀i j a,O i=b0 a->O j=b0 a->i=j
 old:∀i a,O i=b0 a->¬B.Z a/\(B.P a∨B.H0 a=b4)
 zin:∀a,B.Z a->∃o,H a=b0 o
 frm:Fr B.P B.H0 H
 par:(∀i a,B.mu i=b0 a->i∈ml)/\∀i∈ml,O i=B.mu i
 pin:∀a,B.P a->∃o,H a=b0 o
 kep:∀p∈B.kp,bE K (Nn B O) H (Nn B O) p.1 p.2
section
variable{K:Au}{ml:List Nat}{B:Bs}{O:Nat->Option Ws}{H H':Hp}{σ:St}{δ xj:Ev}
section
variable{a:Ws}{v:V}{d:cY}{i:Nat}{ps:List (V×cY)}
def aI.nin(S:aI K ml B O H σ δ)(h:Nn B O a):∃o,H a=b0 o:=by
 rcases h with h|⟨i,h⟩;exact S.zin a h;obtain⟨d,e⟩:=S.dom i a h;obtain⟨c,b,_,w⟩:=S.ow i d e;rw[h]at b;cases b;obtain⟨o,q,_⟩:=w.soft;exact⟨o,q⟩
def aI.new(S:aI K ml B O H σ δ)(h:H a=b4):¬Nn B O a:=λz=>by obtain⟨o,q⟩:=S.nin z;rw[h]at q;cases q
def aI.same(S:aI K ml B O H σ δ)(f:aS H H'):aI K ml B O H' σ δ where
 len:=S.len
 va:=λi d e=>let ⟨v,a,b⟩:=S.va i d e;⟨v,a,b.same f⟩
 ow:=λi d e=>let ⟨a,b,c,w⟩:=S.ow i d e;⟨a,b,c,w.fr (P:=λ_=>False) f.fr (λ_ z=>z.elim) λz=>z⟩
 dom:=S.dom
 inj:=S.inj
 old:=S.old
 zin:=λa h=>let ⟨o,q⟩:=S.zin a h;⟨o,f _ _ q⟩
 frm:=S.frm.trans f.fr
 par:=S.par
 pin:=λa h=>let ⟨o,q⟩:=S.pin a h;⟨o,f _ _ q⟩
 kep:=λp h=>(S.kep p h).same f
def aI.fresh(S:aI K ml B O H σ δ)(h:H a=b4):B.H0 a=b4:=by
 cases q:B.H0 a with
 |none=>rfl
 |some o=>
  by_cases b:B.P a;obtain⟨c,e⟩:=S.pin a b;rw[h]at e;cases e;have := S.frm a o q λz => absurd z b;rw[h]at this;cases this
def Bs.add(B:Bs)(p:Ws):Bs:={B with Z:=λa=>B.Z a∨a=p}
def QY{p:Ws}:∀a,Nn B O a->Nn (B.add p) O a:=λa h=>by
 rcases h with h|h;exact .inl (.inl h);exact .inr h
def bE.away{p:Ws}(k:H p=b4)(N N':Ws->Prop)(g:∀a,N' a->N a∨a=p){M f:Ws->Prop}(c:∀a,f a->M a∨a=p)(h:bE K N H M v d):bE K N' H f v d:=
 have no:∀{a:Ws}{o:HO}{M f:Ws->Prop},H a=b0 o->¬M a->(∀a,f a->M a∨a=p)->¬f a:=λq n c z=>(c _ z).elim n λe=>by rw[e,k]at q;cases q
 bE.rec (motive_1:=λM v d _=>∀f,(∀a,f a->M a∨a=p)->bE K N' H f v d) (motive_2:=λj l _=>cA K N' H j l) (λ_ _=>.non) (λb _ _=>.bl b) (λi _ _=>.int i) (λx _ _=>.str x) (λn _ _=>.ty n) (λq _ _=>.fn q) (λq _ r _ _=>.tup q r)
  (λq n _ r _ c=>.lst q (no q n c) r) (λq _ r _ _=>.fzl q r) (λq n _ r _ c=>.dct q (no q n c) r) (λq _ r _ _=>.ktb q r) (λp q r _ _=>.exn p q r) (λp q r s _ t _ _=>.exr p q r s (t _ g)) (λq n _ r _ c=>.dcn q (no q n c) r) .nil (λ_ _ a b=>.cons (a _ g) b) h f c
def cA.away{p:Ws}(c:H p=b4)(N N':Ws->Prop)(b:∀a,N' a->N a∨a=p){vs:List V}{ds:List cY}(h:cA K N H vs ds):cA K N' H vs ds:=h.map λr=>r.away c N N' b b
def WN{p:Ws}:∀a,Nn (B.add p) O a->Nn B O a∨a=p:=λa h=>by
 rcases h with(h|h)|h;exact .inl (.inl h);exact .inr h;exact .inl (.inr h)
def aI.laid(S:aI K ml B O H σ δ){p:Ws}{o:HO}(f:H p=b4):aI K ml (B.add p) O (Z8 H p o) σ δ where
 len:=S.len
 va:=λi d e=>let ⟨v,a,b⟩:=S.va i d e;⟨v,a,(b.away f _ _ WN WN).same (cQ f)⟩
 ow:=λi d e=>by
  obtain⟨a,b,c,w⟩:=S.ow i d e;refine⟨a,b,c,?_⟩;have g:∀o,H a=b0 o->Z8 H p o=Z8 H p o:=λ_ _=>rfl;cases w with
  |lst q r=>exact .lst (cQ f _ _ q) ((r.away f _ _ WN).same (cQ f))
  |dct q r=>exact .dct (cQ f _ _ q) ((r.away f _ _ WN).same (cQ f))
  |dcn q r=>exact .dcn (cQ f _ _ q) ((r.away f _ _ WN).same (cQ f))
 dom:=S.dom
 inj:=S.inj
 old:=λi a h=>by
  refine⟨λz=>?_,(S.old i a h).2⟩;rcases z with z|z;exact(S.old i a h).1 z;obtain⟨o,q⟩:=S.nin (.inr ⟨i,h⟩);rw[z,f]at q;cases q
 zin:=λa h=>by
  rcases h with h|h;obtain⟨o,q⟩:=S.zin a h;exact⟨o,cQ f _ _ q⟩;exact⟨_,by rw[h];exact b6⟩
 frm:=S.frm.trans (cQ f).fr
 par:=S.par
 pin:=λa h=>let ⟨o,q⟩:=S.pin a h;⟨o,cQ f _ _ q⟩
 kep:=λp h=>((S.kep p h).away f _ _ WN WN).same (cQ f)
def NU{o:Option Ws}:∀a,Nn B (λj=>if j=i then b4 else O j) a->Nn B O a:=λa h=>by
 rcases h with h|⟨j,h⟩;exact .inl h;refine .inr ⟨j,?_⟩;by_cases b:j=i;simp[b]at h;simpa[b]using h
def RW{b:Type}{l:List b}{j:Nat}{x y:b}(h:(l.set i x)[j]?=b0 y):(j=i/\y=x/\i<l.length)∨(j≠i/\l[j]?=b0 y):=by
 by_cases a:j=i;subst a;rw[List.getElem?_set_self']at h;obtain⟨z,q,h⟩:=Am.mp h;cases h;exact .inl ⟨rfl,rfl,(Ap.mp q).1⟩;rw[Ci (Dg a)]at h;exact .inr ⟨a,h⟩
def aI.setVa(S:aI K ml B O H σ δ)(n:i∉ml)(h:bE K (Nn B O) H (Nn B O) v d):aI K ml B (λj=>if j=i then b4 else O j) H (σ.set i (b0 v)) (δ.set i (.va d)) where
 len:=by rw[Ce,Ce,S.len]
 va:=λj e q=>by
  rcases RW q with⟨rfl,z,hl⟩|⟨b,q⟩;cases z;exact⟨v,by rw[Dy (by rw[S.len];exact hl)],h.mono (NU (o:=b4)) (NU (o:=b4))⟩;obtain⟨u,c,r⟩:=S.va j e q;exact⟨u,by rw[Ci (Dg b)];exact c,r.mono (NU (o:=b4)) (NU (o:=b4))⟩
 ow:=λj e q=>by
  rcases RW q with⟨rfl,z,hl⟩|⟨b,q⟩;cases z;obtain⟨a,c,f,w⟩:=S.ow j e q;exact⟨a,by simpa[b]using c,by rw[Ci (Dg b)];exact f,w.mono (NU (o:=b4))⟩
 dom:=λj a e=>by
  by_cases b:j=i;simp[b]at e;obtain ⟨d,q⟩ := S.dom j a (by simpa [b]using e);exact⟨d,by rw[Ci (Dg b)];exact q⟩
 inj:=λj k a c f=>by
  by_cases b:j=i;simp[b]at c;by_cases l:k=i;simp[l]at f;exact S.inj j k a (by simpa[b]using c) (by simpa[l]using f)
 old:=λj a e=>by
  by_cases b:j=i;simp[b]at e;exact S.old j a (by simpa[b]using e)
 zin:=S.zin
 frm:=S.frm
 par:=⟨S.par.1,λj b=>by have g:j≠i:=λz=>n (z▸b);have s:O j=B.mu j:=S.par.2 j b;simpa[g]using s⟩
 pin:=S.pin
 kep:=λp m=>(S.kep p m).mono (NU (o:=b4)) (NU (o:=b4))
def OK{p:Ws}:∀a,Nn B (λj=>if j=i then b0 p else O j) a->Nn (B.add p) O a:=λa h=>by
 rcases h with h|⟨j,h⟩;exact .inl (.inl h);by_cases b:j=i;simp[b]at h;exact .inl (.inr h.symm);exact .inr ⟨j,by simpa[b]using h⟩
def aI.setOw{p:Ws}(S:aI K ml (B.add p) O H σ δ)(n:i∉ml)(hl:i<δ.length)(hz:¬B.Z p)(s:B.H0 p=b4)(h:TY K (Nn (B.add p) O) H p d):
  aI K ml B (λj=>if j=i then b0 p else O j) H (σ.set i (b0 (.ref p))) (δ.set i (.ow d)) where
 len:=by rw[Ce,Ce,S.len]
 va:=λj e q=>by
  rcases RW q with⟨rfl,z,_⟩|⟨b,q⟩;cases z;obtain⟨u,c,r⟩:=S.va j e q;exact⟨u,by rw[Ci (Dg b)];exact c,r.mono OK OK⟩
 ow:=λj e q=>by
  rcases RW q with⟨rfl,z,hl⟩|⟨b,q⟩;cases z;exact⟨p,by simp,by rw[Dy (by rw[S.len];exact hl)],h.mono OK⟩;obtain⟨a,c,f,w⟩:=S.ow j e q;exact⟨a,by simpa[b]using c,by rw[Ci (Dg b)];exact f,w.mono OK⟩
 dom:=λj a e=>by
  by_cases b:j=i;subst b;exact⟨d,by rw[Dy hl]⟩;obtain ⟨d,q⟩ := S.dom j a (by simpa [b]using e);exact⟨d,by rw[Ci (Dg b)];exact q⟩
 inj:=λj k a c f=>by
  by_cases b:j=i;by_cases g:k=i;rw[b,g];simp[b]at c;simp[g]at f;exact absurd (.inr c.symm) (S.old k a f).1;by_cases g:k=i;simp[g]at f;simp[b]at c;exact absurd (.inr f.symm) (S.old j a c).1;exact S.inj j k a (by simpa[b]using c) (by simpa[g]using f)
 old:=λj a e=>by
  by_cases b:j=i;simp[b]at e;subst e;exact⟨hz,.inr s⟩;have := S.old j a (by simpa [b]using e);exact⟨λz=>this.1 (.inl z),this.2⟩
 zin:=λa h=>S.zin a (.inl h)
 frm:=S.frm
 par:=⟨S.par.1,λj b=>by have l:j≠i:=λz=>n (z▸b);have o:O j=B.mu j:=S.par.2 j b;simpa[l]using o⟩
 pin:=S.pin
 kep:=λp m=>(S.kep p m).mono OK OK
def aI.wrote(S:aI K ml B O H σ δ){o:HO}(e:O i=b0 a)(G:¬Hard o)(h:TY K (Nn B O) (Z8 H a o) a d):aI K ml B O (Z8 H a o) σ (δ.set i (.ow d)):=by
 have A:Fr (λb=>b=a) H (Z8 H a o):=λb u q n=>by
  by_cases f:b=a;subst f;obtain⟨g,x⟩:=S.dom i b e;obtain⟨t,c,_,w⟩:=S.ow i g x;rw[e]at c;cases c;obtain⟨E,q1,y⟩:=w.soft;rw[q]at q1;cases q1;exact absurd (n rfl) y;rw[a8 f];exact q
 have m:∀b,b=a->Nn B O b:=λb z=>.inr ⟨i,z▸e⟩;have l:∀b,(∃u,H b=b0 u)->∃u,Z8 H a o b=b0 u:=λb q0=>by
  obtain⟨u,q⟩:=q0;by_cases f:b=a;exact⟨o,by rw[f];exact b6⟩;exact⟨u,by rw[a8 f];exact q⟩
 refine⟨by rw[Ce,S.len],λj g q=>?_,λj g q=>?_,λj b q=>?_,S.inj,S.old,λb h=>l b (S.zin b h),?_,S.par,λb h=>l b (S.pin b h),λp F=>(S.kep p F).fr A m m⟩;rcases RW q with⟨_,z,_⟩|⟨k,q⟩;cases z;obtain⟨v,c,r⟩:=S.va j g q;exact⟨v,c,r.fr A m m⟩;rcases RW q with⟨rfl,z,hl⟩|⟨k,q⟩;cases z;obtain⟨s,q0⟩:=S.dom j a e;obtain⟨t,c,C,_⟩:=S.ow j s q0;rw[e]at c;cases c;exact⟨a,e,C,h⟩;obtain⟨t,c,C,w⟩:=S.ow j g q;exact⟨t,c,C,w.fr A m λz=>k (S.inj j i a (z▸c) e)⟩;by_cases k:j=i;subst k;obtain⟨s,q0⟩:=S.dom j b q;exact⟨d,by rw[Dy (Ap.mp q0).1]⟩;obtain⟨s,q0⟩:=S.dom j b q;exact⟨s,by rw[Ci (Dg k)];exact q0⟩;intro b u q n;have D:=S.frm b u q n;by_cases f:b=a;subst f;rcases(S.old i b e).2 with z|z;obtain⟨g,x⟩:=S.dom i b e;obtain⟨t,c,_,w⟩:=S.ow i g x;rw[e]at c;cases c;obtain⟨E,q1,y⟩:=w.soft;rw[D]at q1;cases q1;exact absurd (n z) y;rw[q]at z;cases z;rw[a8 f];exact D
def aI.keepV(S:aI K ml B O H σ δ)(h:∀p∈ps,bE K (Nn B O) H (Nn B O) p.1 p.2):aI K ml {B with kp:=ps++B.kp} O H σ δ:=
 ⟨S.len,S.va,S.ow,S.dom,S.inj,S.old,S.zin,S.frm,S.par,S.pin,λp a=>(Bq.mp a).elim (h p) (S.kep p)⟩
def aI.unkeep(S:aI K ml {B with kp:=ps++B.kp} O H σ δ):aI K ml B O H σ δ:=
 ⟨S.len,S.va,S.ow,S.dom,S.inj,S.old,S.zin,S.frm,S.par,S.pin,λp a=>S.kep p (Be _ a)⟩
end
end
section
variable{B:Bs}{O:Nat->Option Ws}{ml:List Nat}{δ:Ev}{t u:TT}
def rz(B:Bs):Ws->Prop:=λa=>B.Z a∨∃i,B.mu i=b0 a
def av(B:Bs)(O:Nat->Option Ws)(b:Bool):Ws->Prop:=if b then Nn B O else λa=>Nn B O a/\rz B a
def at_(B:Bs)(O:Nat->Option Ws)(b:Bool):Ws->Prop:=if b then Nn B O else λ_=>False
def gY{b:Bool}:∀a,at_ B O b a->av B O b a:=λa h=>by
 cases b with
 |true=>exact h
 |false=>exact h.elim
def og{b c:Bool}(h:b=ba->c=ba):∀a,at_ B O b a->at_ B O c a:=λa z=>by
 cases b with
 |true=>rw[h rfl];exact z
 |false=>exact z.elim
def aI.rzn{K:Au}{H:Hp}{b:St}(S:aI K ml B O H b δ):∀a,rz B a->Nn B O a:=λa h=>by
 rcases h with h|⟨i,h⟩;exact .inl h;exact .inr ⟨i,(S.par.2 i (S.par.1 i a h)).trans h⟩
def aI.rza{K:Au}{H:Hp}{c:St}(S:aI K ml B O H c δ){b:Bool}:∀a,rz B a->av B O b a:=λa h=>by
 cases b with
 |true=>exact S.rzn a h
 |false=>exact⟨S.rzn a h,h⟩
def MS{b c:Bool}(h:b=ba->c=ba):∀a,av B O b a->av B O c a:=λa z=>by
 cases b with
 |true=>rw[h rfl];exact z
 |false=>cases c with
  |true=>exact z.1
  |false=>exact z
structure Res(K:Au)(ml:List Nat)(B:Bs)(O:Nat->Option Ws)(H:Hp)(σ:St)(pu bt bi:Bool)(H':Hp)(xj:Ev)(v:V)(d:cY):Prop where
 sta:aI K ml B O H' σ xj
 frm:Fr (OA O) H H'
 pur:pu=ba->aS H H'
 rep:bE K (av B O bi) H' (at_ B O bt) v d
abbrev VF:=Ev->Option (cY×Ev)
inductive TVi(K:Au)(ml:List Nat)(pu bt bi:Bool)(f:VF)(σ:St)(H:Hp)(Q:VK):Prop
 |mk (B:_) (O:_) (δ:_) (d:_) (xj:_) (h0:aI K ml B O H σ δ) (h1:f δ=b0 (d,xj)) (h2:∀v H',Res K ml B O H σ pu bt bi H' xj v d->Q v H'):TVi K ml pu bt bi f σ H Q
def TV(K:Au)(ml:List Nat)(pu b c:Bool)(f:VF):TE:=λa H Q=>TVi K ml pu b c f a H Q
def PE.imp{X:Cx}{e:Ww}{t u:TE}(h:PE X e t)(k:∀a H Q,u a H Q->t a H Q):PE X e u:=λb s a H Q I w=>h b s a H Q I (k a H Q w)
def PT.imp{X:Cx}{e:Ww}(h:PT X e t)(k:∀a H Q,u a H Q->t a H Q):PT X e u:=λb s a H Q I w=>h b s a H Q I (k a H Q w)
def PW.imp{X:Cx}{e:Ww}(h:PW X e t)(k:∀a H Q,u a H Q->t a H Q):PW X e u:=λb c s a H Q I w=>h b c s a H Q I (k a H Q w)
def PA.imp{X:Cx}{e:List Ww}{t u:TA}(h:PA X e t)(k:∀a H Q,u a H Q->t a H Q):PA X e u:=λb c s a H Q I w=>h b c s a H Q I (k a H Q w)
def PS.imp{X:Cx}{e:Xf}{t u:TS}(h:PS X e t)(k:∀D a H,u D a H->t D a H):PS X e u:=λb s a H D I w=>h b s a H D I (k D a H w)
def NL.imp{X:Cx}{e:List Xf}{t u:TS}(h:NL X e t)(k:∀D a H,u D a H->t D a H):NL X e u:=λb s a H D I w=>h b s a H D I (k D a H w)
end
section
variable{X:Cx}{K:Au}{ml:List Nat}{e a b c:Ww}{pa ta ia pb tb ib pc tc ic:Bool}{fa fb fc:VF}{r:R2}{o:cY->cY->Option cY}{B:Bs}{O:Nat->Option Ws}{H H1 H':Hp}{σ:St}{δ xj:Ev}{v:V}{d:cY}
def fC(d:cY):VF:=λδ=>b0 (d,δ)
def Res.refl{pu a b:Bool}(S:aI K ml B O H σ δ)(h:bE K (av B O b) H (at_ B O a) v d):Res K ml B O H σ pu a b H δ v d:=⟨S,Fr.refl _ _,λ_=>aS.refl _,h⟩
def ve_c(h:PE X e (tC v))(b:∀N H M,bE K N H M v d):PE X e (TV K ml ba ba ba (fC d)):=h.imp λσ H Q a=>by obtain⟨B,O,δ,c,xj,S,q,k⟩:=a;cases q;exact k v H (Res.refl S (b _ _ _))
def cW{i j pos}:PE X (.Constant (.int i) j pos) (TV K ml ba ba ba (fC (.int i))):=ve_c pF λ_ _ _=>.int i
def ZI{i j pos}:PE X (.Constant (.bool i) j pos) (TV K ml ba ba ba (fC (.bl i))):=ve_c mD λ_ _ _=>.bl i
def SX{j pos}:PE X (.Constant .none j pos) (TV K ml ba ba ba (fC .non)):=ve_c nv λ_ _ _=>.non
def cD{i j pos}:PE X (.Constant (.str i) j pos) (TV K ml ba ba ba (fC (.str i))):=ve_c kW λ_ _ _=>.str i
noncomputable def fV(i:Nat):VF:=λδ=>match δ[i]? with
 |some (.va d)=>b0 (d,δ)
 |_=>b4
noncomputable def fO(i:Nat):VF:=λδ=>match δ[i]? with
 |some (.va d)=>b0 (d,δ)
 |some (.ow d)=>b0 (d,δ)
 |_=>b4
def mi{i:Nat}(h:PE X e (KY i)):PE X e (TV K ml ba ba ba (fV i)):=h.imp λσ H Q a=>by
 obtain⟨B,O,δ,f,xj,S,q,k⟩:=a;unfold fV at q;split at q;rename_i d b;cases q;obtain⟨v,c,r⟩:=S.va i _ b;exact⟨v,c,k v H (Res.refl S r)⟩;cases q
def kB{i:Nat}(h:PE X e (KY i)):PE X e (TV K ml ba bb ba (fO i)):=h.imp λσ H Q b=>by
 obtain⟨B,O,δ,j,xj,S,q,k⟩:=b;unfold fO at q;split at q;rename_i d c;cases q;obtain⟨v,f,r⟩:=S.va i _ c;exact⟨v,f,k v H (Res.refl S (r.mono (λ_ z=>z) λa z=>z.elim))⟩;rename_i d c;cases q;obtain⟨a,f,g,w⟩:=S.ow i _ c;exact⟨.ref a,g,k _ H (Res.refl S (w.rep λz=>z))⟩;cases q
def Res.live{b:Hp}{c:V}{g:cY}(R2:Res K ml B O H1 σ pb tb ib b xj c g)(hs:(pb || (ta&&ia))=ba)(h:bE K (av B O ia) H1 (at_ B O ta) v d):bE K (av B O ia) b (at_ B O ta) v d:=by
 cases pb with
 |true=>exact h.same (R2.pur rfl)
 |false=>
  have hs:(ta&&ia)=ba:=by simpa using hs
  obtain⟨f,e⟩:=(Ah _ _).mp hs;subst f e;exact h.fr R2.frm (λa z=>.inr z) λa z=>.inr z
def f2(o:cY->cY->Option cY)(fa fb:VF):VF:=λδ=>(fa δ).bind λp=>(fb p.2).bind λq=>(o p.1 q.1).map λc=>(c,q.2)
def QJ{xl:Ev}(h:f2 o fa fb δ=b0 (d,xl)):∃x xk y,fa δ=b0 (x,xk)/\fb xk=b0 (y,xl)/\o x y=b0 d:=by
 unfold f2 at h;cases b:fa δ with
 |none=>rw[b]at h;cases h
 |some p=>
  rw[b]at h;cases a:fb p.2 with
  |none=>simp[a]at h
  |some q=>
   simp only[An,a]at h;obtain⟨c,e,h⟩:=Am.mp h;cases h;exact⟨p.1,p.2,q.1,rfl,a,e⟩
def OQ(K:Au)(r:R2)(o:cY->cY->Option cY):Prop:=∀(H:Hp) (N a M b:Ws->Prop) (x y:V) (d e c:cY) (Q:VK),bE K N H M x d->bE K a H b y e->o d e=b0 c->(∀v,(∀H' N M,bE K N H' M v c)->Q v H)->r x y H Q
def OpC(K:Au)(r:R2)(o:cY->cY->Option cY):Prop:=∀(H:Hp) (N M b:Ws->Prop) (x y:V) (d e c:cY) (Q:VK),bE K N H M x d->bE K N H b y e->o d e=b0 c->
 (∀v H',aS H H'->(∀M,(∀a,M a->∃o,H a=b0 o)->bE K N H' M v c)->Q v H')->r x y H Q
def OpI(K:Au)(r:R2)(o:cY->cY->Option cY):Prop:=∀(H:Hp) (N a M b:Ws->Prop) (x y:V) (d e c:cY) (Q:VK),bE K N H M x d->bE K a H b y e->o d e=b0 c->(∀v,bE K N H N v c->Q v H)->r x y H Q
def D7(m:OQ K r o)(hs:(pb || (ta&&ia))=ba){Q:VK}(h:TV K ml (pa&&pb) ba ba (f2 o fa fb) σ H Q):tOp r (TV K ml pa ta ia fa) (TV K ml pb tb ib fb) σ H Q:=by
 obtain⟨B,O,δ,d,c,S,q,k⟩:=h;obtain⟨x,a,y,s,p,n⟩:=QJ q;refine⟨B,O,δ,x,a,S,s,λj H1 b=>⟨B,O,a,y,c,b.sta,p,λi e R2=>?_⟩⟩;exact m e _ _ _ _ j i x y d Q (R2.live hs b.rep) R2.rep n λv l=>k v e ⟨R2.sta,b.frm.trans R2.frm,λz=>by obtain⟨g,f⟩:=(Ah _ _).mp z;exact(b.pur g).trans (R2.pur f),l _ _ _⟩
def sY(n:OpC K r o)(hs:(pb || (ta&&ia))=ba){Q:VK}(h:TV K ml (pa&&pb) ba (ia&&ib) (f2 o fa fb) σ H Q):tOp r (TV K ml pa ta ia fa) (TV K ml pb tb ib fb) σ H Q:=by obtain⟨B,O,δ,d,e,S,q,k⟩:=h;obtain⟨x,b,y,t,s,p⟩:=QJ q;refine⟨B,O,δ,x,b,S,t,λl H1 c=>⟨B,O,b,y,e,c.sta,s,λj C R2=>?_⟩⟩;have w:∀a,av B O (ia&&ib) a->av B O ia a:=MS λz=>((Ah _ _).mp z).1;have u:∀a,av B O (ia&&ib) a->av B O ib a:=MS λz=>((Ah _ _).mp z).2;refine n C (av B O (ia&&ib)) _ _ l j x y d Q ((R2.live hs c.rep).mono w λ_ z=>z) (R2.rep.mono u λ_ z=>z) p λv A f m=>k v A ⟨R2.sta.same f,(c.frm.trans R2.frm).trans f.fr,λz=>?_,m _ λa z=>R2.sta.nin z⟩;obtain⟨i,g⟩:=(Ah _ _).mp z;exact((c.pur i).trans (R2.pur g)).trans f
def oO(m:OpI K r o)(hs:(pb || (ta&&ia))=ba){Q:VK}(h:TV K ml (pa&&pb) ia ia (f2 o fa fb) σ H Q):tOp r (TV K ml pa ta ia fa) (TV K ml pb tb ib fb) σ H Q:=by
 obtain⟨B,O,δ,d,c,S,q,k⟩:=h;obtain⟨x,a,y,s,p,n⟩:=QJ q;refine⟨B,O,δ,x,a,S,s,λj H1 b=>⟨B,O,a,y,c,b.sta,p,λi e R2=>?_⟩⟩;exact m e _ _ _ _ j i x y d Q (R2.live hs b.rep) R2.rep n λv l=>k v e ⟨R2.sta,b.frm.trans R2.frm,λz=>by obtain⟨g,f⟩:=(Ah _ _).mp z;exact(b.pur g).trans (R2.pur f),l.mono (λ_ z=>z) gY⟩
def XN{op:Operator}{c:Pos}(e:V7 X (Hv op) r)(d:OQ K r o)(g:PE X a (TV K ml pa ta ia fa))(f:PE X b (TV K ml pb tb ib fb))(hs:(pb || (ta&&ia))=ba:=by rfl):PE X (.BinOp a op b c) (TV K ml (pa&&pb) ba ba (f2 o fa fb)):=
 (Xu e g f).imp λ_ _ _ h=>D7 d hs h
def aM{op:Operator}{c:Pos}(e:V7 X (Hv op) r)(d:OpC K r o)(g:PE X a (TV K ml pa ta ia fa))(f:PE X b (TV K ml pb tb ib fb))(hs:(pb || (ta&&ia))=ba:=by rfl):PE X (.BinOp a op b c) (TV K ml (pa&&pb) ba (ia&&ib) (f2 o fa fb)):=
 (Xu e g f).imp λ_ _ _ h=>sY d hs h
def X3{op:CmpOp}{c:Pos}(e:V7 X (Dh op) r)(d:OQ K r o)(i:PE X a (TV K ml pa ta ia fa))(g:PE X b (TV K ml pb tb ib fb))(f:Jo op b=bb:=by exact HH _)(hs:(pb || (ta&&ia))=ba:=by rfl):PE X (.Compare a [op] [b] c) (TV K ml (pa&&pb) ba ba (f2 o fa fb)):=
 (lu e i g f).imp λ_ _ _ h=>D7 d hs h
def om{c:Pos}(f:IxR X r)(e:OpI K r o)(i:PE X a (TV K ml pa ta ia fa))(g:PE X b (TV K ml pb tb ib fb))(d:GQ b)(hs:(pb || (ta&&ia))=ba:=by rfl):PE X (.Subscript a b c) (TV K ml (pa&&pb) ia ia (f2 o fa fb)):=
 (kU f i g d).imp λ_ _ _ h=>oO e hs h
noncomputable def oI(C:Int->Int->Bool)(g:Int->Int->cY):cY->cY->Option cY
 |.int i,.int j=>if C i j=ba then b0 (g i j)else b4
 |_,_=>b4
def fG{C:Int->Int->Bool}{g:Int->Int->cY}{d e c:cY}(h:oI C g d e=b0 c):∃i j,d=.int i/\e=.int j/\C i j=ba/\c=g i j:=by
 unfold oI at h;split at h;split at h;rename_i hc;cases h;exact⟨_,_,rfl,rfl,hc,rfl⟩;cases h;cases h
def A1{C:Int->Int->Prop}{a:Int->Int->Bool}{g:Int->Int->V}{g':Int->Int->cY}(m:∀i j,a i j=ba->C i j)(l:∀i j N H M,bE K N H M (g i j) (g' i j)):OQ K (rI C g) (oI a g'):=by intro H N n M o x y d e c Q f b h k;obtain⟨i,j,rfl,rfl,hc,rfl⟩:=fG h;cases f.onI;cases b.onI;exact⟨_,_,rfl,rfl,m _ _ hc,k _ λ_ _ _=>l ..⟩
def MB{g:Int->Int->V}{g':Int->Int->cY}(f:∀i j N H M,bE K N H M (g i j) (g' i j)):OQ K (DO g) (oI (λ_ _=>ba) g'):=by intro H N l M m x y d e c Q b a h k;obtain⟨i,j,rfl,rfl,hc,rfl⟩:=fG h;cases b.onI;cases a.onI;exact⟨_,_,rfl,rfl,k _ λ_ _ _=>f ..⟩
def cMul(i j:Int):Bool:=(decide (-18446744073709551616<i)&&decide (i<18446744073709551616)) || (decide (-18446744073709551616<j)&&decide (j<18446744073709551616))
def cDiv(i j:Int):Bool:=decide (0<j)&&decide (j<1073741824)
def cPow(i j:Int):Bool:=decide (0<=j)&&decide (j<=1000000)&&decide (i.natAbs<18446744073709551616)
abbrev L8:=oI (λ_ _=>ba) λi j=>.int (i-j)
abbrev oMul:=oI cMul λi j=>.int (i*j)
abbrev AY:=oI cDiv λi j=>.int (i/j)
abbrev HJ:=oI (λ_ j=>decide (0<j)) λi j=>.int (i % j)
abbrev oPow:=oI cPow λi j=>.int (i ^ j.toNat)
abbrev oLt:=oI (λ_ _=>ba) λi j=>.bl (decide (i<j))
abbrev oLe:=oI (λ_ _=>ba) λi j=>.bl (decide (i<=j))
abbrev oGt:=oI (λ_ _=>ba) λi j=>.bl (decide (j<i))
abbrev oGe:=oI (λ_ _=>ba) λi j=>.bl (decide (j<=i))
def MJ:OQ K (DO λi j=>.int (i-j)) L8:=MB λi j _ _ _=>.int _
def lR:OQ K (rI CMul λi j=>.int (i*j)) oMul:=A1 (λi j h=>by
 have p:(2:Int) ^ 64=18446744073709551616:=by decide
 unfold CMul;rw[p];simpa[cMul]using h) λi j _ _ _=>.int _
def hJ:OQ K (rI CDiv λi j=>.int (i/j)) AY:=A1 (λi j h=>by show 0<j/\j<1073741824;simpa[cDiv]using h) λi j _ _ _=>.int _
def NY:OQ K (rI (λ_ j=>0<j) λi j=>.int (i % j)) HJ:=A1 (λi j h=>by simpa using h) λi j _ _ _=>.int _
def km:OQ K (rI CPow λi j=>.int (i ^ j.toNat)) oPow:=A1 (λi j h=>by
 have p:(2:Nat) ^ 64=18446744073709551616:=by decide
 unfold CPow;rw[p];simpa[cPow,and_assoc]using h) λi j _ _ _=>.int _
def s_lt:OQ K (DO λi j=>.bl (decide (i<j))) oLt:=MB λi j _ _ _=>.bl _
def s_le:OQ K (DO λi j=>.bl (decide (i<=j))) oLe:=MB λi j _ _ _=>.bl _
def DW:OQ K (DO λi j=>.bl (decide (j<i))) oGt:=MB λi j _ _ _=>.bl _
def s_ge:OQ K (DO λi j=>.bl (decide (j<=i))) oGe:=MB λi j _ _ _=>.bl _
def GL(d:cY):Bool:=d.isD&&Fp d.pd
def NF(d e:cY):Bool:=Lu d.pd e.pd
def ZF(d e:cY):Option cY:=if(GL d&&GL e)=ba then b0 (.bl (NF d e))else b4
def XE(d e:cY):Option cY:=if(GL d&&GL e)=ba then b0 (.bl (!NF d e))else b4
def s_eq:OQ K (rEqD K) ZF:=by
 intro H N g M i x y d e c Q f b h k;unfold ZF at h;split at h;rename_i a;cases h;simp only[GL,Ah]at a;exact⟨d.pd,e.pd,f.dp a.1.1,b.dp a.2.1,a.1.2,a.2.2,k _ λ_ _ _=>.bl _⟩;cases h
def UF:OQ K (rNeD K) XE:=by
 intro H N g M i x y d e c Q f b h k;unfold XE at h;split at h;rename_i a;cases h;simp only[GL,Ah]at a;exact⟨d.pd,e.pd,f.dp a.1.1,b.dp a.2.1,a.1.2,a.2.2,k _ λ_ _ _=>.bl _⟩;cases h
def isN:cY->Bool
 |.non=>ba
 |_=>bb
def DF:cY->cY->Option cY
 |d,.non=>b0 (.bl (isN d))
 |_,_=>b4
def JY:cY->cY->Option cY
 |d,.non=>b0 (.bl (!isN d))
 |_,_=>b4
def BP{N M:Ws->Prop}(h:bE K N H M v d):decide (v=V.non)=isN d:=by
 cases h<;>simp[isN]
def eU:OQ K (λx y H Q=>y=.non/\Q (.bl (decide (x=.non))) H) DF:=by
  intro H N f M g x y d e c Q b a h k;cases a<;>first
    | (cases h
       refine⟨rfl,?_⟩;rw[BP b];exact k _ λ_ _ _=>.bl _)
    |(simp[DF]at h)
def p7:OQ K (λx y H Q=>y=.non/\Q (.bl (!decide (x=.non))) H) JY:=by
  intro H N f M g x y d e c Q b a h k;cases a<;>first
    | (cases h
       refine⟨rfl,?_⟩;rw[BP b];exact k _ λ_ _ _=>.bl _)
    |(simp[JY]at h)
def YH:cY->Option (List cY)
 |.tup ds=>b0 ds
 |.lst ds=>b0 ds
 |_=>b4
def bE.seq{N M:Ws->Prop}{ds:List cY}(h:bE K N H M v d)(e:YH d=b0 ds):∃a xs,v=.ref a/\(WZ K H a xs∨WT K H a xs)/\cA K N H xs ds:=by
 cases h<;>first
  |(cases e;rename_i q r;exact⟨_,_,rfl,.inr q,r⟩)
  |(cases e;rename_i q n r;exact⟨_,_,rfl,.inl (WZ.of q),r⟩)
  |(cases e;rename_i q r;exact⟨_,_,rfl,.inl q.sq,r⟩)
  |cases e
def rK{N:Ws->Prop}{xs:List V}{ds:List cY}{i:Int}(r:cA K N H xs ds)(h:U8 ds i=b0 d):∃v,U8 xs i=b0 v/\bE K N H N v d:=by
 unfold U8 at h⊢;rw[r.length];cases a:HB ds.length i with
 |none=>rw[a]at h;cases h
 |some j=>
  rw[a]at h;exact r.get h
end
section
variable{X:Cx}{K:Au}{ml:List Nat}{e a b c:Ww}{es:List Ww}{pa ta ia pb tb ib pc tc ic pu bt bi ps bs:Bool}{fa fb fc:VF}{r r':R2}{o o':cY->cY->Option cY}{B:Bs}{O:Nat->Option Ws}{H H1 H':Hp}{σ:St}{δ xj:Ev}{v:V}{d:cY}{p:Ws}{pos:Pos}
section
variable{ds:List cY}{x y:VB}{Q:Bool->Hp->Prop}
def aI.unadd(S:aI K ml (B.add p) O H σ δ):aI K ml B O H σ δ where
 len:=S.len
 va:=λi d e=>let ⟨v,a,b⟩:=S.va i d e;⟨v,a,b.mono QY QY⟩
 ow:=λi d e=>let ⟨a,b,c,w⟩:=S.ow i d e;⟨a,b,c,w.mono QY⟩
 dom:=S.dom
 inj:=S.inj
 old:=λi a h=>⟨λz=>(S.old i a h).1 (.inl z),(S.old i a h).2⟩
 zin:=λa h=>S.zin a (.inl h)
 frm:=S.frm
 par:=S.par
 pin:=S.pin
 kep:=λp h=>(S.kep p h).mono QY QY
structure ResN(K:Au)(ml:List Nat)(B:Bs)(O:Nat->Option Ws)(H:Hp)(σ:St)(pu:Bool)(H':Hp)(xj:Ev)(p:Ws)(d:cY):Prop where
 sta:aI K ml (B.add p) O H' σ xj
 frm:Fr (OA O) H H'
 pur:pu=ba->aS H H'
 own:TY K (Nn (B.add p) O) H' p d
 nz:¬Nn B O p
 h0:B.H0 p=b4
inductive TNi(K:Au)(ml:List Nat)(pu:Bool)(f:VF)(σ:St)(H:Hp)(Q:VK):Prop
 |mk (B:_) (O:_) (δ:_) (d:_) (xj:_) (h0:aI K ml B O H σ δ) (h1:f δ=b0 (d,xj)) (h2:∀p H',ResN K ml B O H σ pu H' xj p d->Q (.ref p) H'):TNi K ml pu f σ H Q
def TN(K:Au)(ml:List Nat)(pu:Bool)(f:VF):TE:=λσ H Q=>TNi K ml pu f σ H Q
def cF{f:VF}(h:PE X e (TN K ml pu f)):PE X e (TV K ml pu ba ba f):=h.imp λσ H Q ⟨B,O,δ,d,xj,S,q,k⟩=>
 ⟨B,O,δ,d,xj,S,q,λp H' R=>k _ H' ⟨R.sta.unadd,R.frm,R.pur,(R.own.mono QY).rep R.nz⟩⟩
def mkN{xs:List V}(S:aI K ml B O H1 σ xj)(f:Fr (OA O) H H1)(s:pu=ba->aS H H1)(a:H1 p=b4)(r:cA K (Nn B O) H1 xs ds):ResN K ml B O H σ pu (Z8 H1 p (.lst xs)) xj p (.lst ds):=
 ⟨S.laid a,f.trans (cQ a).fr,λz=>(s z).trans (cQ a),.lst b6 ((r.away a _ _ WN).same (cQ a)),S.new a,S.fresh a⟩
def mkD(S:aI K ml B O H1 σ xj)(f:Fr (OA O) H H1)(s:pu=ba->aS H H1)(a:H1 p=b4):ResN K ml B O H σ pu (Z8 H1 p (.dK [])) xj p (.dct [] []):=
 ⟨S.laid a,f.trans (cQ a).fr,λz=>(s z).trans (cQ a),.dct (kvs:=[]) b6 .nil,S.new a,S.fresh a⟩
def GA:PE X (.Dict [] [] pos) (TN K ml ba (fC (.dct [] []))):=zEL.imp λσ H Q a=>by obtain⟨B,O,δ,d,xj,S,q,k⟩:=a;cases q;exact λp b=>k p _ (mkD S (Fr.refl _ _) (λ_=>aS.refl _) b)
abbrev K7:=Ev->Option (List cY×Ev)
structure ResA(K:Au)(ml:List Nat)(B:Bs)(O:Nat->Option Ws)(H:Hp)(σ:St)(pu b:Bool)(H':Hp)(xj:Ev)(vs:List V)(ds:List cY):Prop where
 sta:aI K ml B O H' σ xj
 frm:Fr (OA O) H H'
 pur:pu=ba->aS H H'
 rep:cA K (av B O b) H' vs ds
inductive TAVi(K:Au)(ml:List Nat)(pu b:Bool)(f:K7)(σ:St)(H:Hp)(Q:List V->Hp->Prop):Prop
 |mk (B:_) (O:_) (δ:_) (d:_) (xj:_) (h0:aI K ml B O H σ δ) (h1:f δ=b0 (d,xj)) (h2:∀vs H',ResA K ml B O H σ pu b H' xj vs d->Q vs H'):TAVi K ml pu b f σ H Q
def TAV(K:Au)(ml:List Nat)(pu b:Bool)(f:K7):TA:=λσ H Q=>TAVi K ml pu b f σ H Q
def cL:K7:=λδ=>b0 ([],δ)
def cT(fa:VF)(fs:K7):K7:=λδ=>(fa δ).bind λp=>(fs p.2).map λq=>(p.1::q.1,q.2)
def kC{fs:K7}(h:cT fa fs δ=b0 (ds,xj)):∃x xk xs,fa δ=b0 (x,xk)/\fs xk=b0 (xs,xj)/\ds=x::xs:=by
 unfold cT at h;cases b:fa δ with
 |none=>rw[b]at h;cases h
 |some p=>
  rw[b]at h;cases a:fs p.2 with
  |none=>simp[a]at h
  |some q=>
   simp only[An,a]at h;cases h;exact⟨p.1,p.2,q.1,rfl,a,rfl⟩
def cO:PA X [] (TAV K ml ba ba cL):=Z1.imp λσ H Q a=>by obtain⟨B,O,δ,d,xj,S,q,k⟩:=a;cases q;exact k [] H ⟨S,Fr.refl _ _,λ_=>aS.refl _,.nil⟩
def cX{fs:K7}(u:PE X a (TV K ml pa ta ia fa))(t:PA X es (TAV K ml ps bs fs))(hs:SE X a es:=by rfl)(hl:(ps || (ta&&ia))=ba:=by rfl)(s:ta=ba:=by rfl):
  PA X (a::es) (TAV K ml (pa&&ps) (ta&&ia&&bs) (cT fa fs)):=(bV u t hs).imp λσ H Q i=>by
 obtain⟨B,O,δ,d,f,S,q,k⟩:=i;obtain⟨x,b,p,l,j,rfl⟩:=kC q;refine⟨B,O,δ,x,b,S,l,λr H1 e=>⟨B,O,b,p,f,e.sta,j,λA m R2=>k _ m ⟨R2.sta,e.frm.trans R2.frm,λz=>?_,?_⟩⟩⟩;obtain⟨o,n⟩:=(Ah _ _).mp z;exact(e.pur o).trans (R2.pur n);have g : ∀ c,((ta && ia && bs) = ba -> c = ba) -> ∀ a,av B O (ta && ia && bs) a -> av B O c a := λc h => MS h;have y:=g ta λz=>by simp only[Ah]at z;exact z.1.1
 have w:=g ia λz=>by simp only[Ah]at z;exact z.1.2
 have v:=g bs λz=>by simp only[Ah]at z;exact z.2
 refine .cons ?_ (R2.rep.mono v);have h:bE K (av B O ia) m (at_ B O ta) r x:=by
  cases ps with
  |true=>exact e.rep.same (R2.pur rfl)
  |false=>
   have hs:(ta&&ia)=ba:=by simpa using hl
   obtain⟨l,j⟩:=(Ah _ _).mp hs;subst l j;exact e.rep.fr R2.frm (λa z=>.inr z) λa z=>.inr z
 subst s;exact h.mono w y
def aI.lone(S:aI K ml B O H σ δ){i:Nat}{x:cY}(f:i∉ml)(h:fO i δ=b0 (x,xj)):xj=δ/\∃v,σ[i]?=b0 (b0 v)/\bE K (av B O bb) H (av B O bb) v x:=by
 unfold fO at h;split at h;rename_i d c;cases h;obtain⟨v,b,r⟩:=S.va i _ c;exact⟨rfl,v,b,r.mono (λa z=>z.1) λa z=>z.1⟩;rename_i d c;cases h;obtain⟨a,b,g,w⟩:=S.ow i _ c;refine⟨rfl,.ref a,g,(w.mono λa z=>z.1).rep λz=>?_⟩;rcases z.2 with z|⟨j,z⟩
 exact(S.old i a b).1 z;have e:=S.par.1 j a z;have:i=j:=S.inj i j a b ((S.par.2 j e).trans z)
 exact f (this▸e);cases h
def bK(fs:K7):VF:=λδ=>(fs δ).bind λp=>if p.1.length<=16777216 then b0 (.tup p.1,p.2)else b4
def bJ(fs:K7):VF:=λδ=>(fs δ).bind λp=>if p.1.length<=16777216 then b0 (.lst p.1,p.2)else b4
def EQ{fs:K7}{g:List cY->cY}(h:((fs δ).bind λp=>if p.1.length<=16777216 then b0 (g p.1,p.2)else b4)=b0 (d,xj)):∃ds,fs δ=b0 (ds,xj)/\ds.length<=16777216/\d=g ds:=by
 cases a:fs δ with
 |none=>rw[a]at h;cases h
 |some p=>
  rw[a]at h;have h:(if p.1.length<=16777216 then b0 (g p.1,p.2)else b4)=b0 (d,xj):=h;split at h;cases h;exact⟨p.1,rfl,by assumption,rfl⟩;cases h
def b5{x1}{fs:K7}(h:PA X es (TAV K ml pu bs fs)):PE X (.Tuple es x1 pos) (TV K ml pu ba bs (bK fs)):=(DI h).imp λσ H Q b=>by obtain⟨B,O,δ,d,xj,S,q,k⟩:=b;obtain⟨e,c,hl,rfl⟩:=EQ (g:=cY.tup) q;refine⟨B,O,δ,e,xj,S,c,λf H1 R=>⟨by rw[R.rep.length,Dn];exact hl,λp a=>k _ _ ⟨R.sta.same (cQ a),R.frm.trans (cQ a).fr,λz=>(R.pur z).trans (cQ a),.tup (WT.of b6) (R.rep.same (cQ a))⟩⟩⟩
def bX{fs:K7}(h:PA X es (TAV K ml pu ba fs)):PE X (.List es pos) (TN K ml pu (bJ fs)):=(lJ h).imp λσ H Q a=>by obtain⟨B,O,δ,d,xj,S,q,k⟩:=a;obtain⟨e,c,hl,rfl⟩:=EQ (g:=cY.lst) q;exact⟨B,O,δ,e,xj,S,c,λf H1 R=>⟨by rw[R.rep.length,Dn];exact hl,λp b=>k p _ (mkN R.sta R.frm R.pur b R.rep)⟩⟩
abbrev VB:=Ev->Option (Bool×Ev)
structure ResB(K:Au)(ml:List Nat)(B:Bs)(O:Nat->Option Ws)(H:Hp)(σ:St)(pu:Bool)(H':Hp)(xj:Ev):Prop where
 sta:aI K ml B O H' σ xj
 frm:Fr (OA O) H H'
 pur:pu=ba->aS H H'
inductive TBi(K:Au)(ml:List Nat)(pu:Bool)(f:VB)(σ:St)(H:Hp)(Q:Bool->Hp->Prop):Prop
 |mk (B:_) (O:_) (δ:_) (k:_) (xj:_) (h0:aI K ml B O H σ δ) (h1:f δ=b0 (k,xj)) (h2:∀H',ResB K ml B O H σ pu H' xj->Q k H'):TBi K ml pu f σ H Q
def TB(K:Au)(ml:List Nat)(pu:Bool)(f:VB):TT:=λσ H Q=>TBi K ml pu f σ H Q
def fB(f:VF):VB:=λδ=>(f δ).bind λp=>match p.1 with
 |.bl k=>b0 (k,p.2)
 |_=>b4
def nE{f:VF}{k:Bool}(h:fB f δ=b0 (k,xj)):f δ=b0 (.bl k,xj):=by
 unfold fB at h;cases a:f δ with
 |none=>rw[a]at h;cases h
 |some p=>
  obtain⟨x,b⟩:=p;rw[a]at h;cases x<;>first
   |(cases h;rfl)
   |cases h
def IB{f:VF}{t:TE}(a:∀σ H Q,TV K ml pu bt bi f σ H Q->t σ H Q)(h:TB K ml pu (fB f) σ H Q):t σ H λx H'=>∃k,x=.bl k/\Q k H':=by obtain⟨B,O,δ,k,xj,S,q,w⟩:=h;refine a σ H _ ⟨B,O,δ,.bl k,xj,S,nE q,λv H' R=>⟨k,?_,w H' ⟨R.sta,R.frm,R.pur⟩⟩⟩;exact R.rep.onB
def b8{op:CmpOp}(d:V7 X (Dh op) r)(c:OQ K r o)(g:PE X a (TV K ml pa ta ia fa))(f:PE X b (TV K ml pb tb ib fb))(e:Jo op b=bb:=by exact HH _)(hs:(pb || (ta&&ia))=ba:=by rfl):PT X (.Compare a [op] [b] pos) (TB K ml (pa&&pb) (fB (f2 o fa fb))):=
 (m6 d g f e).imp λ_ _ _ h=>IB (λ_ _ _=>D7 c hs) h
def ZH{f:VF}(h:PE X e (TV K ml pu bt bi f))(b:∀a,isTrue e X.env a=(do let v<-a;Pm e.pos;Nb [v] (truthy v)):=by intro _;rfl):PT X e (TB K ml pu (fB f)):=
 (mX h b).imp λ_ _ _ h=>IB (λ_ _ _ z=>z) h
def XO(x y:VB):VB:=λδ=>(x δ).bind λp=>if p.1=ba then y p.2 else b0 (bb,p.2)
def IV(x y:VB):VB:=λδ=>(x δ).bind λp=>if p.1=ba then b0 (ba,p.2)else y p.2
def U0(x:VB):VB:=λδ=>(x δ).map λp=>(!p.1,p.2)
def ResB.refl(S:aI K ml B O H σ δ):ResB K ml B O H σ pu H δ:=⟨S,Fr.refl _ _,λ_=>aS.refl _⟩
def mH(h:TB K ml (pa&&pb) (XO x y) σ H Q):tAnd (TB K ml pa x) (TB K ml pb y) σ H Q:=by
 obtain⟨B,O,δ,k,xj,S,q,w⟩:=h;unfold XO at q;obtain⟨⟨c,a⟩,f,q⟩:=Ac.mp q;refine⟨B,O,δ,c,a,S,f,λH1 b=>?_⟩;cases c with
 |true=>
  have q:y a=b0 (k,xj):=q;exact NJ ⟨B,O,a,k,xj,b.sta,q,λg R2=>w g ⟨R2.sta,b.frm.trans R2.frm,λz=>by obtain⟨e,d⟩:=(Ah _ _).mp z;exact(b.pur e).trans (R2.pur d)⟩⟩
 |false=>
  have q:b0 (bb,a)=b0 (k,xj):=q;cases q;exact NI (w H1 ⟨b.sta,b.frm,λz=>b.pur ((Ah _ _).mp z).1⟩)
def oj(h:TB K ml (pa&&pb) (IV x y) σ H Q):tOr (TB K ml pa x) (TB K ml pb y) σ H Q:=by
 obtain⟨B,O,δ,k,xj,S,q,w⟩:=h;unfold IV at q;obtain⟨⟨c,a⟩,f,q⟩:=Ac.mp q;refine⟨B,O,δ,c,a,S,f,λH1 b=>?_⟩;cases c with
 |false=>
  have q:y a=b0 (k,xj):=q;exact NI ⟨B,O,a,k,xj,b.sta,q,λg R2=>w g ⟨R2.sta,b.frm.trans R2.frm,λz=>by obtain⟨e,d⟩:=(Ah _ _).mp z;exact(b.pur e).trans (R2.pur d)⟩⟩
 |true=>
  have q:b0 (ba,a)=b0 (k,xj):=q;cases q;exact NJ (w H1 ⟨b.sta,b.frm,λz=>b.pur ((Ah _ _).mp z).1⟩)
def YT(h:PT X a (TB K ml pu x)):PT X (.UnaryOp .Not a pos) (TB K ml pu (U0 x)):=(pQ h).imp λσ H Q b=>by obtain⟨B,O,δ,k,xj,S,q,w⟩:=b;unfold U0 at q;obtain⟨p,c,q⟩:=Am.mp q;cases q;exact⟨B,O,δ,p.1,p.2,S,c,w⟩
def WP(h:PT X a (TB K ml pu x)):PW X (.BoolOp .And [a] pos) (TB K ml pu x):=ka h
def XI(h:PT X a (TB K ml pu x)):PW X (.BoolOp .Or [a] pos) (TB K ml pu x):=sy h
def V2(d:PT X a (TB K ml pa x))(c:PW X (.BoolOp .And (b::es) pos) (TB K ml pb y)):PW X (.BoolOp .And (a::b::es) pos) (TB K ml (pa&&pb) (XO x y)):=(jJ d c).imp λ_ _ _ h=>mH h
def V3(d:PT X a (TB K ml pa x))(c:PW X (.BoolOp .Or (b::es) pos) (TB K ml pb y)):PW X (.BoolOp .Or (a::b::es) pos) (TB K ml (pa&&pb) (IV x y)):=(jH d c).imp λ_ _ _ h=>oj h
def VN(h:PW X e (TB K ml pu x)):PT X e (TB K ml pu x):=h.pt
noncomputable def RA(x y:VF):VF:=λδ=>(x δ).bind λp=>match p.1 with
 |.bl ba=>y p.2
 |.bl bb=>b0 (.bl bb,p.2)
 |_=>b4
def fOr(x y:VF):VF:=λδ=>(x δ).bind λp=>match p.1 with
 |.bl bb=>y p.2
 |.bl ba=>b0 (.bl ba,p.2)
 |_=>b4
def fNot(x:VF):VF:=λδ=>(x δ).bind λp=>match p.1 with
 |.bl k=>b0 (.bl (!k),p.2)
 |_=>b4
def V0{op}{f:VF}(h:PE X a (TV K ml pu bt bi f)):PE X (.BoolOp op [a] pos) (TV K ml pu bt bi f):=lq h
def WW(n:PE X a (TV K ml pa ta ia fa))(m:PE X (.BoolOp .And (b::es) pos) (TV K ml pb tb ib fb)):PE X (.BoolOp .And (a::b::es) pos) (TV K ml (pa&&pb) tb ib (RA fa fb)):=(mB n m).imp λσ H Q g=>by
 obtain⟨B,O,δ,d,xj,S,q,k⟩:=g;unfold RA at q;obtain⟨⟨x,e⟩,o,q⟩:=Ac.mp q;refine⟨B,O,δ,x,e,S,o,λl H1 c=>?_⟩;cases x with
 |bl f=>
  have p:l=.bl f:=c.rep.onB;refine⟨f,p,?_⟩;cases f with
  |true=>
   exact NJ ⟨B,O,e,d,xj,c.sta,q,λj r R2=>k j r ⟨R2.sta,c.frm.trans R2.frm,λz=>by obtain⟨i,h⟩:=(Ah _ _).mp z;exact(c.pur i).trans (R2.pur h),R2.rep⟩⟩
  |false=>
   cases q;exact NI (k _ H1 ⟨c.sta,c.frm,λz=>c.pur ((Ah _ _).mp z).1,.bl _⟩)
 |_=>cases q
def rZ(n:PE X a (TV K ml pa ta ia fa))(m:PE X (.BoolOp .Or (b::es) pos) (TV K ml pb tb ib fb)):PE X (.BoolOp .Or (a::b::es) pos) (TV K ml (pa&&pb) tb ib (fOr fa fb)):=(nJ n m).imp λσ H Q g=>by
 obtain⟨B,O,δ,d,xj,S,q,k⟩:=g;unfold fOr at q;obtain⟨⟨x,e⟩,o,q⟩:=Ac.mp q;refine⟨B,O,δ,x,e,S,o,λl H1 c=>?_⟩;cases x with
 |bl f=>
  have p:l=.bl f:=c.rep.onB;refine⟨f,p,?_⟩;cases f with
  |false=>
   exact NI ⟨B,O,e,d,xj,c.sta,q,λj r R2=>k j r ⟨R2.sta,c.frm.trans R2.frm,λz=>by obtain⟨i,h⟩:=(Ah _ _).mp z;exact(c.pur i).trans (R2.pur h),R2.rep⟩⟩
  |true=>
   cases q;exact NJ (k _ H1 ⟨c.sta,c.frm,λz=>c.pur ((Ah _ _).mp z).1,.bl _⟩)
 |_=>cases q
def sJ(h:PE X a (TV K ml pa ta ia fa)):PE X (.UnaryOp .Not a pos) (TV K ml pa ba ba (fNot fa)):=(lr h).imp λσ H Q e=>by
 obtain⟨B,O,δ,d,xj,S,q,k⟩:=e;unfold fNot at q;obtain⟨⟨x,c⟩,i,q⟩:=Ac.mp q;refine⟨B,O,δ,x,c,S,i,λg H1 b=>?_⟩;cases x with
 |bl f=>
  have j:g=.bl f:=b.rep.onB;cases q;exact⟨f,j,k _ H1 ⟨b.sta,b.frm,b.pur,.bl _⟩⟩
 |_=>cases q
def EC(t:VB)(x y:VF):VF:=λδ=>(t δ).bind λp=>if p.1=ba then x p.2 else y p.2
def N0{t:VB}(o:PT X c (TB K ml pc t))(r:PE X a (TV K ml pa ta ia fa))(p:PE X b (TV K ml pb tb ib fb)):PE X (.IfExp c a b pos) (TV K ml (pc&&pa&&pb) (ta&&tb) (ia&&ib) (EC t fa fb)):=(FG o r p).imp λσ H Q i=>by
 obtain⟨B,O,δ,d,xj,S,q,k⟩:=i;unfold EC at q;obtain⟨⟨l,e⟩,s,q⟩:=Ac.mp q;refine⟨B,O,δ,l,e,S,s,λH1 f=>?_⟩;have n:∀c,((ta&&tb)=ba->c=ba)->∀a,at_ B O (ta&&tb) a->at_ B O c a:=λc h=>og h;have m:∀c,((ia&&ib)=ba->c=ba)->∀a,av B O (ia&&ib) a->av B O c a:=λc h=>MS h;cases l with
 |true=>
  exact NJ ⟨B,O,e,d,xj,f.sta,q,λg j R2=>k g j ⟨R2.sta,f.frm.trans R2.frm,λz=>by simp only[Ah]at z;exact(f.pur z.1.1).trans (R2.pur z.1.2),R2.rep.mono (m _ λz=>((Ah _ _).mp z).1) (n _ λz=>((Ah _ _).mp z).1)⟩⟩
 |false=>
  exact NI ⟨B,O,e,d,xj,f.sta,q,λg j R2=>k g j ⟨R2.sta,f.frm.trans R2.frm,λz=>by simp only[Ah]at z;exact(f.pur z.1.1).trans (R2.pur z.2),R2.rep.mono (m _ λz=>((Ah _ _).mp z).2) (n _ λz=>((Ah _ _).mp z).2)⟩⟩
noncomputable def f3(o o':cY->cY->Option cY)(fa fb fc:VF):VF:=λδ=>(fa δ).bind λp=>(fb p.2).bind λq=>(o p.1 q.1).bind λz=>match z with
 |.bl ba=>(fc q.2).bind λs=>(o' q.1 s.1).map λu=>(u,s.2)
 |.bl bb=>b0 (.bl bb,q.2)
 |_=>b4
def F4(F:OQ K r o)(n:OQ K r' o')(hs:(pb || (ta&&ia))=ba)(m:(pc || (tb&&ib))=ba){Q:VK}(h:TV K ml (pa&&pb&&pc) ba ba (f3 o o' fa fb fc) σ H Q):D4 r r' (TV K ml pa ta ia fa) (TV K ml pb tb ib fb) (TV K ml pc tc ic fc) σ H Q:=by
 obtain⟨B,O,δ,d,e,S,q,k⟩:=h;unfold f3 at q;obtain⟨⟨x,b⟩,L,q⟩:=Ac.mp q;cases p:fb b with
 |none=>simp[p]at q
 |some E=>
  obtain⟨y,a⟩:=E;simp only[An,p]at q;refine⟨B,O,δ,x,b,S,L,λD H1 c=>⟨B,O,b,y,a,c.sta,p,λt A R2=>?_⟩⟩;obtain⟨z,J,q⟩:=Ac.mp q;refine F A _ _ _ _ D t x y z _ (R2.live hs c.rep) R2.rep J λv f=>?_;have f:=f (λ_=>b4) (λ_=>True) λ_=>True;cases z with
  |bl l=>
   have M:v=.bl l:=f.onB;refine⟨l,M,?_⟩;cases l with
   |false=>
    cases q;exact NI (k _ A ⟨R2.sta,c.frm.trans R2.frm,λz=>by simp only[Ah]at z;exact(c.pur z.1.1).trans (R2.pur z.1.2),.bl _⟩)
   |true=>
    have q:((fc a).bind λs=>(o' y s.1).map λu=>(u,s.2))=b0 (d,e):=q;obtain⟨⟨j,i⟩,I,q⟩:=Ac.mp q;have q:((o' y j).map λu=>(u,i))=b0 (d,e):=q;obtain⟨u,G,q⟩:=Am.mp q;cases q;refine NJ ⟨B,O,a,j,_,R2.sta,I,λC w g=>?_⟩;exact n w _ _ _ _ t C y j d Q (g.live m R2.rep) g.rep G λv f=>k v w ⟨g.sta,(c.frm.trans R2.frm).trans g.frm,λz=>by simp only[Ah]at z;exact((c.pur z.1.1).trans (R2.pur z.1.2)).trans (g.pur z.2),f _ _ _⟩
  |_=>cases q
def nX{op d:CmpOp}(j:V7 X (Dh op) r)(g:V7 X (Dh d) r')(i:OQ K r o)(e:OQ K r' o')(m:PE X a (TV K ml pa ta ia fa))(l:PE X b (TV K ml pb tb ib fb))(hc:PE X c (TV K ml pc tc ic fc))(k:Ua [op,d] [b,c]=bb:=by with_unfolding_all rfl)(hs:(pb || (ta&&ia))=ba:=by rfl)(f:(pc || (tb&&ib))=ba:=by rfl):PE X (.Compare a [op,d] [b,c] pos) (TV K ml (pa&&pb&&pc) ba ba (f3 o o' fa fb fc)):=
 (ju j g m l hc k).imp λ_ _ _ h=>F4 i e hs f h
def mr{op d:CmpOp}(j:V7 X (Dh op) r)(g:V7 X (Dh d) r')(i:OQ K r o)(e:OQ K r' o')(m:PE X a (TV K ml pa ta ia fa))(l:PE X b (TV K ml pb tb ib fb))(hc:PE X c (TV K ml pc tc ic fc))(k:Ua [op,d] [b,c]=bb:=by with_unfolding_all rfl)(hs:(pb || (ta&&ia))=ba:=by rfl)(f:(pc || (tb&&ib))=ba:=by rfl):PT X (.Compare a [op,d] [b,c] pos) (TB K ml (pa&&pb&&pc) (fB (f3 o o' fa fb fc))):=
 (oF j g m l hc k).imp λ_ _ _ h=>IB (λ_ _ _=>F4 i e hs f) h
end
end
section
variable{X:Cx}{K:Au}{ml:List Nat}{e a b c:Ww}{es:List Ww}{pa ta ia pb tb ib pc tc ic pu bt bi ps bs:Bool}{fa fb fc:VF}{B:Bs}{O:Nat->Option Ws}{H H1 H':Hp}{σ:St}{δ xj:Ev}{v:V}{d:cY}{p:Ws}{pos:Pos}
section
variable{o:cY->Option cY}{r:RC}{Q:VK}
def f1(o:cY->Option cY)(fa:VF):VF:=λδ=>(fa δ).bind λp=>(o p.1).map λc=>(c,p.2)
def QI(h:f1 o fa δ=b0 (d,xj)):∃x,fa δ=b0 (x,xj)/\o x=b0 d:=by
 unfold f1 at h;cases a:fa δ with
 |none=>rw[a]at h;cases h
 |some p=>
  rw[a]at h;have h:((o p.1).map λc=>(c,p.2))=b0 (d,xj):=h;obtain⟨c,b,h⟩:=Am.mp h;cases h;exact⟨p.1,rfl,b⟩
abbrev RC:=List V->Hp->VK->Prop
def CalS(K:Au)(r:RC)(o:cY->Option cY):Prop:=∀(H:Hp) (N M:Ws->Prop) (x:V) (d c:cY) (Q:VK),bE K N H M x d->o d=b0 c->(∀v,(∀H' N M,bE K N H' M v c)->Q v H)->r [x] H Q
def CalC(K:Au)(r:RC)(o:cY->Option cY):Prop:=∀(H:Hp) (N M:Ws->Prop) (x:V) (d c:cY) (Q:VK),bE K N H M x d->o d=b0 c->
 (∀v H',aS H H'->(∀M,(∀a,M a->∃o,H a=b0 o)->bE K N H' M v c)->Q v H')->r [x] H Q
def CalN(K:Au)(r:RC)(o:cY->Option cY):Prop:=∀(H:Hp) (N M:Ws->Prop) (x:V) (d c:cY) (Q:VK),bE K N H M x d->o d=b0 c->
 (∀p a b,H p=b4->cA K N H a b->c=.lst b->Q (.ref p) (Z8 H p (.lst a)))->r [x] H Q
def IK(K:Au)(r:RC)(o:cY->cY->Option cY):Prop:=∀(H:Hp) (N a M b:Ws->Prop) (x y:V) (d e c:cY) (Q:VK),bE K N H M x d->bE K a H b y e->o d e=b0 c->(∀v,(∀H' N M,bE K N H' M v c)->Q v H)->r [x,y] H Q
def mq(e:CalS K r o)(h:TV K ml pa ba ba (f1 o fa) σ H Q):tCB r (J9 (TV K ml pa ta ia fa) tNil) σ H Q:=by obtain⟨B,O,δ,d,xj,S,q,k⟩:=h;obtain⟨x,g,f⟩:=QI q;exact⟨B,O,δ,x,xj,S,g,λb H1 a=>e H1 _ _ b x d Q a.rep f λv c=>k v H1 ⟨a.sta,a.frm,a.pur,c _ _ _⟩⟩
def kT(g:CalC K r o)(h:TV K ml pa ba ia (f1 o fa) σ H Q):tCB r (J9 (TV K ml pa ta ia fa) tNil) σ H Q:=by obtain⟨B,O,δ,d,xj,S,q,k⟩:=h;obtain⟨x,j,i⟩:=QI q;exact⟨B,O,δ,x,xj,S,j,λe H1 b=>g H1 _ _ e x d Q b.rep i λv l c f=>k v l ⟨b.sta.same c,b.frm.trans c.fr,λz=>(b.pur z).trans c,f _ λa z=>b.sta.nin z⟩⟩
def KB(f:CalN K r o)(h:TN K ml pa (f1 o fa) σ H Q):tCB r (J9 (TV K ml pa ta ba fa) tNil) σ H Q:=by obtain⟨B,O,δ,d,xj,S,q,k⟩:=h;obtain⟨x,j,i⟩:=QI q;refine⟨B,O,δ,x,xj,S,j,λb H1 a=>f H1 _ _ b x d Q a.rep i λp l m e c g=>?_⟩;subst g;exact k p _ (mkN a.sta a.frm a.pur e c)
def qp{o:cY->cY->Option cY}(m:IK K r o)(hs:(pb || (ta&&ia))=ba)(h:TV K ml (pa&&pb) ba ba (f2 o fa fb) σ H Q):tCB r (J9 (TV K ml pa ta ia fa) (J9 (TV K ml pb tb ib fb) tNil)) σ H Q:=by
 obtain⟨B,O,δ,d,c,S,q,k⟩:=h;obtain⟨x,a,y,s,p,n⟩:=QJ q;refine⟨B,O,δ,x,a,S,s,λj H1 b=>⟨B,O,a,y,c,b.sta,p,λi e R2=>?_⟩⟩;exact m e _ _ _ _ j i x y d Q (R2.live hs b.rep) R2.rep n λv l=>k v e ⟨R2.sta,b.frm.trans R2.frm,λz=>by obtain⟨g,f⟩:=(Ah _ _).mp z;exact(b.pur g).trans (R2.pur f),l _ _ _⟩
end
section
variable{x:Wy}{p':Pos}{id T:String}{r:RC}
def KH{o:cY->Option cY}(hc:aH X (.builtin id) r)(e:CalS K r o)(i:Gl X x)(g:X.mg x=b4)(d:Bv x=b0 (.builtin id))(j:PE X a (TV K ml pa ta ia fa))(f:x≠ "__name__":=by decide)(b:ND x:=by decide)(c:SE X a []:=by rfl):PE X (.Call (.Name x p') [a] [] pos) (TV K ml pa ba ba (f1 o fa)):=
 (SQ hc i g d (bV j Z1 c) f b c).imp λ_ _ _ h=>mq e h
def Yg{o:cY->cY->Option cY}(hc:aH X (.builtin id) r)(i:IK K r o)(l:Gl X x)(k:X.mg x=b4)(g:Bv x=b0 (.builtin id))(n:PE X a (TV K ml pa ta ia fa))(m:PE X b (TV K ml pb tb ib fb))(j:x≠ "__name__":=by decide)(e:ND x:=by decide)(f:SE X a [b]:=by rfl)(d:SE X b []:=by rfl)(c:(Hk pos (Bi [b] X.env)).any (·.1)=bb:=by rfl)(hs:(pb || (ta&&ia))=ba:=by rfl):PE X (.Call (.Name x p') [a,b] [] pos) (TV K ml (pa&&pb) ba ba (f2 o fa fb)):=
 (SQ hc l k g (bV n (bV m Z1 d) f) j e f c).imp λ_ _ _ h=>qp i hs h
def TQ{o:cY->Option cY}(hc:aH X (.type T) r)(e:CalC K r o)(i:Gl X x)(g:X.mg x=b4)(d:Bv x=b0 (.type T))(j:PE X a (TV K ml pa ta ia fa))(f:x≠ "__name__":=by decide)(b:ND x:=by decide)(c:SE X a []:=by rfl):PE X (.Call (.Name x p') [a] [] pos) (TV K ml pa ba ia (f1 o fa)):=
 (XF hc i g d (bV j Z1 c) f b c).imp λ_ _ _ h=>kT e h
def N3{o:cY->Option cY}(hc:aH X (.type T) r)(e:CalN K r o)(i:Gl X x)(g:X.mg x=b4)(d:Bv x=b0 (.type T))(j:PE X a (TV K ml pa ta ba fa))(f:x≠ "__name__":=by decide)(b:ND x:=by decide)(c:SE X a []:=by rfl):PE X (.Call (.Name x p') [a] [] pos) (TN K ml pa (f1 o fa)):=
 (XF hc i g d (bV j Z1 c) f b c).imp λ_ _ _ h=>KB e h
def F8{o:cY->Option cY}(hc:aH X (.builtin id) r)(e:CalN K r o)(i:Gl X x)(g:X.mg x=b4)(d:Bv x=b0 (.builtin id))(j:PE X a (TV K ml pa ta ba fa))(f:x≠ "__name__":=by decide)(b:ND x:=by decide)(c:SE X a []:=by rfl):PE X (.Call (.Name x p') [a] [] pos) (TN K ml pa (f1 o fa)):=
 (SQ hc i g d (bV j Z1 c) f b c).imp λ_ _ _ h=>KB e h
end
noncomputable def Z9:cY->Option cY
 |.tup ds=>b0 (.int ds.length)
 |.lst ds=>b0 (.int ds.length)
 |.str z=>if z.length<=16777216 then b0 (.int z.length)else b4
 |_=>b4
def rLen(K:Au):RC:=λb H Q=>(∃p a,b=[.ref p]/\(WZ K H p a∨WT K H p a)/\Q (.int a.length) H)∨∃z,b=[.str z]/\z.length<=sizeLine/\Q (.int z.length) H
def iK(h:X.K=K:=by rfl):aH X (.builtin "len") (rLen K):=by subst h;exact GY.or GZ
def oV:CalS K (rLen K) Z9:=by
  intro H N M x d c Q b h k;cases d<;>first
    | (rename_i f
       obtain⟨a,e,rfl,sq,r⟩:=b.seq rfl;cases h;refine .inl ⟨a,e,rfl,sq,?_⟩;rw[r.length];exact k _ λ_ _ _=>.int _)
    | (cases b.onS
       simp only[Z9]at h;split at h;cases h;exact .inr ⟨_,rfl,by rw[Dn];assumption,k _ λ_ _ _=>.int _⟩;cases h)
    |cases h
def VH(d:cY):Option cY:=(YH d).map cY.lst
def ZP(d:cY):Option cY:=(YH d).map cY.tup
def dL(K:Au):RC:=λb H Q=>∃p a,b=[.ref p]/\(WZ K H p a∨WT K H p a)/\∀l,H l=b4->Q (.ref l) (Z8 H l (.lst a))
def BL(K:Au):RC:=λb H Q=>∃p a,b=[.ref p]/\((WZ K H p a/\∀l,H l=b4->Q (.ref l) (Z8 H l (.tup a)))∨(WT K H p a/\Q (.ref p) H))
def SG(h:X.K=K:=by rfl):aH X (.type "list") (dL K):=pL h
def YK(h:X.K=K:=by rfl):aH X (.type "tuple") (BL K):=mj h
def FV{d:cY}{g:List cY->cY}{c:cY}(h:(YH d).map g=b0 c):∃ds,YH d=b0 ds/\c=g ds:=by
 cases a:YH d with
 |none=>rw[a]at h;cases h
 |some ds=>rw[a]at h;cases h;exact⟨ds,rfl,rfl⟩
def Y9:CalN K (dL K) VH:=by intro H N M x d c Q e h k;obtain⟨g,f,rfl⟩:=FV h;obtain⟨a,b,rfl,sq,r⟩:=e.seq f;exact⟨a,b,rfl,sq,λl hl=>k l b g hl r rfl⟩
def YJ:CalC K (BL K) ZP:=by
 intro H N M x d c Q e h k;obtain⟨i,g,rfl⟩:=FV h;obtain⟨a,b,rfl,sq,r⟩:=e.seq g;rcases sq with sq|sq;exact⟨a,b,rfl,.inl ⟨sq,λl hl=>k _ _ (cQ hl) λM f=>.tup (WT.of b6) (r.same (cQ hl))⟩⟩;exact⟨a,b,rfl,.inr ⟨sq,k _ _ (aS.refl _) λM f=>.tup sq r⟩⟩
noncomputable def o2I(g:Int->Int->Int):cY->cY->Option cY
 |.int i,.int j=>b0 (.int (g i j))
 |_,_=>b4
def fX{g:Int->Int->Int}:IK K (λa H Q=>∃i j,a=[.int i,.int j]/\Q (.int (g i j)) H) (o2I g):=by
 intro H N l M m x y d e c Q f b h k;unfold o2I at h;split at h;cases h;cases f.onI;cases b.onI;exact⟨_,_,rfl,k _ λ_ _ _=>.int _⟩;cases h
abbrev oMax:=o2I λi j=>if j>i then j else i
abbrev oMin:=o2I λi j=>if j<i then j else i
def kq:IK K (λa H Q=>∃i j,a=[.int i,.int j]/\Q (.int (if j>i then j else i)) H) oMax:=fX
def lP:IK K (λa H Q=>∃i j,a=[.int i,.int j]/\Q (.int (if j<i then j else i)) H) oMin:=fX
def tyD:cY->Option String
 |.non=>b0 "NoneType"
 |.bl _=>b0 "bool"
 |.int _=>b0 "int"
 |.str _=>b0 "str"
 |.tup _=>b0 "tuple"
 |.lst _=>b0 "list"
 |.dct _ _=>b0 "dict"
 |_=>b4
def LS(t n:String):Option Bool:=if((Es t)==(Es n))=ba then b0 ba else if W.kitMeta n=ba then(PySem.fastBuiltinMro t).map (·.contains (.type n))else b4
def kD{t n:String}{k:Bool}(h:LS t n=b0 k):W.kitOne K (.type t) (.type n)=b0 k:=h
def QZ:cY->cY->Option cY
 |d,.ty n=>(tyD d).bind λt=>(LS t n).map cY.bl
 |_,_=>b4
def rIsi(K:Au):RC:=λa H Q=>∃x n d N M t k,a=[x,.ty n]/\bE K N H M x d/\tyD d=b0 t/\LS t n=b0 k/\Q (.bl k) H
def k6:aH X (.builtin "isinstance") (rIsi X.K):=by
 intro C s σ H D E Q I r h;obtain⟨x,n,d,N,M,t,k,rfl,p,b,B,q⟩:=h;obtain⟨u,c,rfl,f,w⟩:=B7 r;cases (show c=Es n from w);have e:=kD (K:=X.K) B;have a:∀m,EP X C σ Q (.bool k) {s with toks:=m}:=λm=>⟨.bl k,H,I.tok m,rfl,q⟩;cases p with
 |non=>cases b;exact UM I f (.non) e a
 |bl y=>cases b;exact UM I f (.bl y) e a
 |int i=>cases b;exact UM I f (.int i) e a
 |str y=>cases b;exact UM I f (.str y) e a
 |ty n=>cases b
 |fn _=>cases b
 |dcn _ _ _=>cases b
 |dct q _ _=>cases b;exact UM I f (.dK q) e a
 |ktb T _=>
  obtain⟨_,o,es,F,A,p,_⟩:=T;cases b;cases f;exact Gp Ub I.kIn ⟨o,I.kIn _ _ A,p.1⟩ e (λz=>nomatch z) a
 |exn _ _ _=>cases b
 |exr _ _ _ _ _=>cases b
 |tup q _=>
  cases b;cases f;obtain⟨g,_,⟨o,l,j,_⟩,_⟩:=I.tuple q;exact Gp W.kitx_tuple I.kIn ⟨o,l,j⟩ e (λz=>nomatch z) a
 |lst q _ _=>
  cases b;cases f;obtain⟨g,_,⟨o,n,l,j,_⟩,_⟩:=I.list (WZ.of q);exact Gp Ra I.kIn ⟨o,l,j⟩ e (λz=>nomatch z) a
 |fzl q _=>
  cases b;cases f;obtain⟨g,_,⟨o,n,l,j,_⟩,_⟩:=I.list q.sq;exact Gp Ra I.kIn ⟨o,l,j⟩ e (λz=>nomatch z) a
def kIsi(h:X.K=K:=by rfl):aH X (.builtin "isinstance") (rIsi K):=by subst h;exact k6
def pK:IK K (rIsi K) QZ:=by
  intro H N j M l x y d e c Q g f h k;cases f<;>first
    | (simp only [QZ]at h
       cases a:tyD d with
       |none=>rw[a]at h;cases h
       |some t=>
         rw[a]at h;rename_i n;have h:(LS t n).map cY.bl=b0 c:=h;obtain⟨b,i,h⟩:=Am.mp h;cases h;exact⟨x,n,d,N,M,t,b,rfl,g,a,i,k _ λ_ _ _=>.bl _⟩)
    |cases h
def L7:cY->Option cY
 |.int i=>b0 (.int (-i))
 |_=>b4
def SW(g:PE X a (TV K ml pa ta ia fa)):PE X (.UnaryOp .USub a pos) (TV K ml pa ba ba (f1 L7 fa)):=(iJ jy g).imp λσ H Q c=>by
 obtain⟨B,O,δ,d,xj,S,q,k⟩:=c;obtain⟨x,h,e⟩:=QI q;refine⟨B,O,δ,x,xj,S,h,λf H1 b=>?_⟩;cases x with
 |int i=>
  cases e;have j:f=.int i:=b.rep.onI;exact⟨i,j,k _ H1 ⟨b.sta,b.frm,b.pur,.int _⟩⟩
 |_=>cases e
abbrev VP:=Ev->Option (Option Int×Ev)
inductive TPOi(K:Au)(ml:List Nat)(pu:Bool)(f:VP)(σ:St)(H:Hp)(Q:Option Int->Hp->Prop):Prop
 |mk (B:_) (O:_) (δ:_) (k:_) (xj:_) (h0:aI K ml B O H σ δ) (h1:f δ=b0 (k,xj)) (h2:∀H',ResB K ml B O H σ pu H' xj->Q k H'):TPOi K ml pu f σ H Q
def TPO(K:Au)(ml:List Nat)(pu:Bool)(f:VP):TO:=λσ H Q=>TPOi K ml pu f σ H Q
def JZ:VP:=λδ=>b0 (b4,δ)
def K3(f:VF):VP:=λδ=>(f δ).bind λp=>match p.1 with
 |.int i=>b0 (b0 i,p.2)
 |_=>b4
def PO.imp{e:Option Ww}{t u:TO}(h:PO X e t)(k:∀σ H Q,u σ H Q->t σ H Q):PO X e u:=λa s σ H Q I w=>h a s σ H Q I (k σ H Q w)
def UY:PO X b4 (TPO K ml ba JZ):=zHQ.imp λσ H Q a=>by obtain⟨B,O,δ,d,xj,S,q,k⟩:=a;cases q;exact k H (ResB.refl S)
def UZ(h:PE X a (TV K ml pa ta ia fa)):PO X (b0 a) (TPO K ml pa (K3 fa)):=(jP h).imp λσ H Q e=>by
 obtain⟨B,O,δ,d,xj,S,q,k⟩:=e;unfold K3 at q;obtain⟨⟨x,c⟩,g,q⟩:=Ac.mp q;refine⟨B,O,δ,x,c,S,g,λf H1 b=>?_⟩;cases x with
 |int i=>
  have j:f=.int i:=b.rep.onI;cases q;exact⟨i,j,k H1 ⟨b.sta,b.frm,b.pur⟩⟩
 |_=>cases q
def X7(ds:List cY)(lo a:Option Int):List cY:=(ds.drop (HT.sIx ds.length 0 lo)).take (HT.sIx ds.length ds.length a-HT.sIx ds.length 0 lo)
def MU{N:Ws->Prop}{xs:List V}{ds:List cY}(r:cA K N H xs ds)(lo a:Option Int):cA K N H (EN xs lo a) (X7 ds lo a):=by unfold EN X7;rw[r.length];exact(r.drop _).take _
def oSl(d:cY)(lo a:Option Int):Option cY:=match d with
 |.lst ds=>b0 (.lst (X7 ds lo a))
 |.tup ds=>b0 (.tup (X7 ds lo a))
 |_=>b4
noncomputable def K1(fa:VF)(a b:VP):VF:=λδ=>(fa δ).bind λp=>(a p.2).bind λl=>(b l.2).bind λu=>(oSl p.1 l.1 u.1).map λc=>(c,u.2)
def sB{prog:Az}{w:Wv}{A:Bz}{E:Wr->Af->Prop}{s:Af}{t sl:Ws}{items:Array Wr}{e d:Wr}{lo f:Option Int}{Q:Wr->Af->Prop}(a:IsTup s.heap t items)(hs:s.heap.IsSliceOf sl e d .none)(pl:IsPart e lo)(pu:IsPart d f)(k:HT.sIx items.size 0 lo=0)(j:HT.sIx items.size items.size f=items.size)(h:Q (.ref t) s):Wt (Wu prog w) A (Of (.ref t) (.ref sl)) Q E s:=by
 obtain⟨os,b,c,g⟩:=id hs;have i:s.TypeIs (.ref sl) "slice":=⟨os,b,c⟩;unfold Of;try with_reducible refine Bu ?_
 first|refine Aa (Ad ?_)|skip
 refine Aa (Nj a.typeIs (by decide) ?_);refine Aa (Dc (name:=Ay "__getitem__") a.typeIs Fi
  (Ck Fi a.typeIs PyProof.Rows.entry_tuple_getitem ?_ (PyProof.Rows.args_tuple_getitem _ _)))
 show Wt _ _ (Iq (.ref t)>>=_) _ _ s;refine Aa (PyProof.Rows.tupleItemsOf_ a ?_);refine Aa (Fn i ?_);rw[if_pos (by decide)];refine Aa (HT.UU hs pl pu ?_);rw[k,j];show Wt _ _ (if((((0:Nat):Int)==0&&(1:Int)==1&&(items.size-0)==items.size)=ba)then _ else _) _ _ s;rw[if_pos (by simp)];refine Aa (m:=Up _) (Aa (Fn a.typeIs (Ad ?_)));rw[if_pos (by decide)];exact Aa (Gh (Ad ⟨_,rfl,Ad h⟩))
def rSlW(K:Au):V->Option Int->Option Int->Hp->VK->Prop:=λx lo c H Q=>∃a b,x=.ref a/\WT K H a b/\(HT.sIx b.length 0 lo=0/\HT.sIx b.length b.length c=b.length)/\Q (.ref a) H
def pA:SlR X (rSlW X.K):=by
 intro o s σ H x v l k lo n sl Q I f j g pu h;obtain⟨a,e,rfl,i,hw,q⟩:=h;cases f;obtain⟨c,r,d,m⟩:=I.tuple i;have b:c.toArray.size=e.length:=by rw[At];exact r.length.symm
 refine⟨"tuple",_,PyProof.Rows.slot_tuple_getitem.lookup,d.typeIs,?_⟩;exact sB d j g pu (by rw[b];exact hw.1) (by rw[b];exact hw.2) ⟨.ref a,H,I,rfl,q⟩
def rSl(K:Au):V->Option Int->Option Int->Hp->VK->Prop:=λx lo a H Q=>(rSlT K x lo a H Q∨rSlL K x lo a H Q)∨rSlW K x lo a H Q
def kSl(h:X.K=K:=by rfl):SlR X (rSl K):=by subst h;exact(zL9.or ny).or pA
def kE{e f:VP}(h:K1 fa e f δ=b0 (d,xj)):∃x xk l xl u,fa δ=b0 (x,xk)/\e xk=b0 (l,xl)/\f xl=b0 (u,xj)/\oSl x l u=b0 d:=by
 unfold K1 at h;cases g:fa δ with
 |none=>rw[g]at h;cases h
 |some p=>
  rw[g]at h;cases b:e p.2 with
  |none=>simp[b]at h
  |some q=>
   simp only[An,b]at h;cases a:f q.2 with
   |none=>simp[a]at h
   |some s=>
    simp only[An,a]at h;obtain⟨c,i,h⟩:=Am.mp h;cases h;exact⟨p.1,p.2,q.1,q.2,s.1,rfl,b,a,i⟩
def UX{lo C:Option Ww}{J:Pos}{D E:VP}(N:X.K=K)(M:PE X a (TV K ml pa ta ia fa))(hl:PO X lo (TPO K ml pb D))(L:PO X C (TPO K ml pc E))(hs:(pb&&pc || (ta&&ia))=ba:=by rfl):
  PE X (.Subscript a (.Slice lo C b4 J) pos) (TV K ml (pa&&pb&&pc) ba ia (K1 fa D E)):=(nq (kSl N) M hl L).imp λσ H Q y=>by
 obtain⟨B,O,δ,d,s,S,q,k⟩:=y;obtain⟨x,j,l,i,u,T,R,P,A⟩:=kE q;refine⟨B,O,δ,x,j,S,T,λI H1 o=>⟨B,O,j,l,i,o.sta,R,λU R2=>⟨B,O,i,u,s,R2.sta,P,λF c=>?_⟩⟩⟩;have w:bE K (av B O ia) F (at_ B O ta) I x:=by
  rcases(Ih _ _).mp hs with z|z;obtain⟨v,t⟩:=(Ah _ _).mp z;exact(o.rep.same (R2.pur v)).same (c.pur t);obtain⟨v,t⟩:=(Ah _ _).mp z;subst v t;exact(o.rep.fr R2.frm (λa z=>.inr z) λa z=>.inr z).fr c.frm (λa z=>.inr z) λa z=>.inr z
 have m:(pa&&pb&&pc)=ba->aS H F:=λz=>by simp only[Ah]at z;exact((o.pur z.1.1).trans (R2.pur z.1.2)).trans (c.pur z.2)
 have f:=(o.frm.trans R2.frm).trans c.frm;cases x with
 |lst h=>
  cases A;obtain⟨a,G,rfl,sq,r⟩:=w.seq rfl;rcases sq with sq|sq
  exact .inl (.inr ⟨a,G,rfl,sq,λp b=>k _ _ ⟨c.sta.same (cQ b),f.trans (cQ b).fr,λz=>(m z).trans (cQ b),.lst b6 (c.sta.new b) ((MU r l u).same (cQ b))⟩⟩);cases w.onL with
  |lst q n g=>exact .inl (.inr ⟨a,_,rfl,WZ.of q,λp b=>k _ _ ⟨c.sta.same (cQ b),f.trans (cQ b).fr,λz=>(m z).trans (cQ b),.lst b6 (c.sta.new b) ((MU g l u).same (cQ b))⟩⟩)
  |fzl q g=>exact .inl (.inr ⟨a,_,rfl,q.sq,λp b=>k _ _ ⟨c.sta.same (cQ b),f.trans (cQ b).fr,λz=>(m z).trans (cQ b),.lst b6 (c.sta.new b) ((MU g l u).same (cQ b))⟩⟩)
 |tup h=>
  cases A;cases w.onT with
  |tup q g=>
   by_cases hw:HT.sIx h.length 0 l=0/\HT.sIx h.length h.length u=h.length;refine .inr ⟨_,_,rfl,q,by rw [g.length];exact hw,k _ _ ⟨c.sta,f,m,?_⟩⟩;have e:X7 h l u=h:=by unfold X7;rw[hw.1,hw.2];simp
   rw[e];exact .tup q g;exact .inl (.inl ⟨_,_,rfl,q,by rw[g.length];exact hw,λp b=>k _ _ ⟨c.sta.same (cQ b),f.trans (cQ b).fr,λz=>(m z).trans (cQ b),.tup (WT.of b6) ((MU g l u).same (cQ b))⟩⟩)
 |_=>cases A
end
inductive Ou where
 |nx (δ:Ev)|rt (d:cY) (δ:Ev)|bk (δ:Ev)|ct (δ:Ev)
abbrev VS:=Ev->Option Ou
def Post(K:Au)(ml:List Nat)(B:Bs)(D:GO):Ou->Prop
 |.nx b=>∀a c e,aI K ml B e c a b->D.nx a c
 |.rt d b=>∀v a c e,aI K ml B e c a b->bE K (rz B) c (rz B) v d->D.rt v c
 |.bk b=>∀a c e,aI K ml B e c a b->D.bk a c
 |.ct b=>∀a c e,aI K ml B e c a b->D.ct a c
inductive TSti(K:Au)(ml:List Nat)(g:VS)(D:GO)(σ:St)(H:Hp):Prop
 |mk (B:_) (O:_) (δ:_) (o:_) (h0:aI K ml B O H σ δ) (h1:g δ=b0 o) (h2:Post K ml B D o):TSti K ml g D σ H
def RE(K:Au)(ml:List Nat)(g:VS):TS:=λD a H=>TSti K ml g D a H
section
variable{X:Cx}{K:Au}{ml:List Nat}{e a b c:Ww}{es:List Ww}{pa ta ia pb tb ib pc tc ic pu bt bi ps bs:Bool}{fa fb fc f:VF}{B B':Bs}{O:Nat->Option Ws}{H H1 H':Hp}{σ:St}{δ xj:Ev}{v:V}{d:cY}{p:Ws}{pos:Pos}{st:Xf}{rest:List Xf}{g g':VS}
def aY:VS:=λδ=>b0 (.nx δ)
def cE(g g':VS):VS:=λδ=>(g δ).bind λo=>match o with
 |.nx xj=>g' xj
 |o=>b0 o
def cC:NL X [] (RE K ml aY):=BD.imp λD σ H a=>by obtain⟨B,O,δ,o,S,q,k⟩:=a;cases q;exact k σ H O S
def cU(c:PS X st (RE K ml g))(f:NL X rest (RE K ml g')):NL X (st::rest) (RE K ml (cE g g')):=(FO c f).imp λD σ H b=>by
 obtain⟨B,O,δ,o,S,q,k⟩:=b;unfold cE at q;obtain⟨z,c,q⟩:=Ac.mp q;refine⟨B,O,δ,z,S,c,?_⟩;cases z with
 |nx a=>exact λe H' i h=>⟨B,i,a,o,h,q,k⟩
 |rt d a=>cases q;exact k
 |bk a=>cases q;exact k
 |ct a=>cases q;exact k
def cR(a:PS X st (RE K ml g)):NL X [st] (RE K ml g):=(FO a BD).imp λD σ H ⟨B,O,δ,o,S,q,k⟩=>⟨B,O,δ,o,S,q,by cases o<;>exact k⟩
def bQ(f:VF):VS:=λδ=>(f δ).map λp=>.rt p.1 p.2
def cG(h:PE X e (TV K ml pu bt bi f))(b:bt=ba:=by rfl):PS X (.Return (b0 e) pos) (RE K ml (bQ f)):=(eY h).imp λD σ H a=>by obtain⟨B,O,δ,o,S,q,k⟩:=a;unfold bQ at q;obtain⟨p,c,q⟩:=Am.mp q;cases q;subst b;exact⟨B,O,δ,p.1,p.2,S,c,λv H' R=>k v σ H' O R.sta (R.rep.mono R.sta.rza R.sta.rzn)⟩
def B8{i:Nat}(h:PE X e (KY i))(c:i∉ml:=by decide):PS X (.Return (b0 e) pos) (RE K ml (bQ (fO i))):=(eY h).imp λD σ H a=>by obtain⟨B,O,δ,o,S,q,k⟩:=a;unfold bQ at q;obtain⟨⟨x,b⟩,d,q⟩:=Am.mp q;cases q;obtain⟨rfl,v,f,r⟩:=S.lone c d;exact⟨v,f,k v σ H O S (r.mono S.rza S.rza)⟩
def BR(f:VF):VS:=λδ=>(f δ).map λp=>.nx p.2
def l9(h:PE X e (TV K ml pu bt bi f))(hs:Jm e b4 pos.line X.env=pure bb:=by rfl):PS X (.Expr e pos) (RE K ml (BR f)):=(BB h hs).imp λD σ H a=>by obtain⟨B,O,δ,o,S,q,k⟩:=a;unfold BR at q;obtain⟨p,b,q⟩:=Am.mp q;cases q;exact⟨B,O,δ,p.1,p.2,S,b,λv H' R=>k σ H' O R.sta⟩
def YL(t:VB)(g g':VS):VS:=λδ=>(t δ).bind λp=>if p.1=ba then g p.2 else g' p.2
def bN{x y:List Xf}{t:VB}(f:PT X c (TB K ml pc t))(i:NL X x (RE K ml g))(h:NL X y (RE K ml g')):PS X (.If c x y pos) (RE K ml (YL t g g')):=(lf f i h).imp λD σ H b=>by
 obtain⟨B,O,δ,o,S,q,k⟩:=b;unfold YL at q;obtain⟨⟨d,a⟩,j,q⟩:=Ac.mp q;refine⟨B,O,δ,d,a,S,j,λH1 e=>?_⟩;cases d with
 |true=>exact NJ ⟨B,O,a,o,e.sta,q,k⟩
 |false=>exact NI ⟨B,O,a,o,e.sta,q,k⟩
abbrev VX:=Ev->Option (Sl×Ev)
inductive St1(K:Au)(B:Bs)(O:Nat->Option Ws)(H:Hp):Bs->V->Sl->Prop
 |va {v:V}{d:cY}:St1 K B O H {B with kp:=[(v,d)]++B.kp} v (.va d)
 |ol {p:Ws}{xs:List V}{ds:List cY}:H p=b0 (.lst xs)->xs.length=ds.length->¬Nn B O p->B.H0 p=b4->St1 K B O H {B.add p with kp:=xs.zip ds++B.kp} (.ref p) (.ow (.lst ds))
 |od {p:Ws}{kvs:List (bH×V)}{ds:List cY}:H p=b0 (.dK kvs)->kvs.length=ds.length->¬Nn B O p->B.H0 p=b4->St1 K B O H {B.add p with kp:=(kvs.map Ej).zip ds++B.kp} (.ref p) (.ow (.dct (kvs.map Dr) ds))
 |on {p:Ws}{kvs:List (List Ky×V)}{ds:List cY}:H p=b0 (.dT kvs)->kvs.length=ds.length->¬Nn B O p->B.H0 p=b4->St1 K B O H {B.add p with kp:=(kvs.map Ej).zip ds++B.kp} (.ref p) (.ow (.dcn (kvs.map Dr) ds))
def St1.fr{s:Sl}(h:St1 K B O H B' v s)(f:Fr (OA O) H H'):St1 K B O H' B' v s:=by
 cases h with
 |va=>exact .va
 |ol q l n z=>exact .ol (f _ _ q λw=>absurd (.inr w) n) l n z
 |od q l n z=>exact .od (f _ _ q λw=>absurd (.inr w) n) l n z
 |on q l n z=>exact .on (f _ _ q λw=>absurd (.inr w) n) l n z
inductive TXi(K:Au)(ml:List Nat)(f:VX)(σ:St)(H:Hp)(Q:VK):Prop
 |mk (B:_) (O:_) (δ:_) (s:_) (xj:_) (h0:aI K ml B O H σ δ) (h1:f δ=b0 (s,xj)) (h2:∀v H' B',aI K ml B' O H' σ xj->St1 K B O H' B' v s->Fr (OA O) H H'->Q v H'):TXi K ml f σ H Q
def TX(K:Au)(ml:List Nat)(f:VX):TE:=λσ H Q=>TXi K ml f σ H Q
def xV(f:VF):VX:=λδ=>(f δ).map λp=>(.va p.1,p.2)
def xO(f:VF):VX:=λδ=>(f δ).map λp=>(.ow p.1,p.2)
def aF(h:PE X e (TV K ml pu ba ba f)):PE X e (TX K ml (xV f)):=h.imp λσ H Q a=>by
 obtain⟨B,O,δ,o,xj,S,q,k⟩:=a;unfold xV at q;obtain⟨p,c,q⟩:=Am.mp q;cases q;exact⟨B,O,δ,p.1,p.2,S,c,λv H' R=>k v H' _ (R.sta.keepV (ps:=[(v,p.1)]) λz b=>by rw[Aq.mp b];exact R.rep) .va R.frm⟩
theorem WQ{N:Ws->Prop}:∀{xs:List V}{ds:List cY},cA K N H xs ds->∀z∈xs.zip ds,bE K N H N z.1 z.2
 |_,_,.nil,z,a=>nomatch a
 |_,_,.cons h t,z,a=>by
  rcases Ak.mp a with e|e;rw[e];exact h;exact WQ t z e
theorem UD{N:Ws->Prop}:∀{xs:List V}{ds:List cY},xs.length=ds.length->(∀z∈xs.zip ds,bE K N H N z.1 z.2)->cA K N H xs ds
 |[],[],_,_=>.nil
 |x::xs,d::ds,hl,h=>.cons (h (x,d) (Ag ..)) (UD (by simpa using hl) λz a=>h z (Ai _ a))
def X5(h:PE X e (TN K ml pu f)):PE X e (TX K ml (xO f)):=h.imp λσ H Q b=>by
 obtain⟨B,O,δ,o,xj,S,q,k⟩:=b;unfold xO at q;cases c:f δ with
 |none=>rw[c]at q;cases q
 |some p=>
  obtain⟨d,a⟩:=p;rw[c]at q;cases q;refine⟨B,O,δ,d,a,S,c,λp H' R=>?_⟩;have w:=R.own;cases w with
  |lst q r=>exact k _ H' _ (R.sta.keepV (WQ r)) (.ol q r.length R.nz R.h0) R.frm
  |dct q r=>exact k _ H' _ (R.sta.keepV (WQ r)) (.od q (by simpa using r.length) R.nz R.h0) R.frm
  |dcn q r=>exact k _ H' _ (R.sta.keepV (WQ r)) (.on q (by simpa using r.length) R.nz R.h0) R.frm
def St1.bind{d:Nat->Option Ws}{s:Sl}{i:Nat}(h:St1 K B O H' B' v s)(S:aI K ml B' d H' σ δ)(b:i∉ml)(hl:i<δ.length):∃c,aI K ml B c H' (σ.set i (b0 v)) (δ.set i s):=by
 cases h with
 |va=>
  refine⟨_,aI.unkeep (ps:=_) (S.setVa b (S.kep _ (Bw _ (Aq.mpr rfl))))⟩
 |ol q l n z=>
  refine⟨_,aI.setOw (aI.unkeep (B:=B.add _) S) b hl (λw=>n (.inl w)) z (.lst q (UD l λz a=>S.kep z (Bw _ a)))⟩
 |od q l n z=>
  refine⟨_,aI.setOw (aI.unkeep (B:=B.add _) S) b hl (λw=>n (.inl w)) z (.dct q (UD (by simpa using l) λz a=>S.kep z (Bw _ a)))⟩
 |on q l n z=>
  refine⟨_,aI.setOw (aI.unkeep (B:=B.add _) S) b hl (λw=>n (.inl w)) z (.dcn q (UD (by simpa using l) λz a=>S.kep z (Bw _ a)))⟩
def aU(i:Nat)(x:VX):VS:=λδ=>(x δ).bind λp=>if i<p.2.length then b0 (.nx (p.2.set i p.1))else b4
def bG{i:Nat}{y:Wy}{x:VX}{d:Pos}(m:X.N.Nodup)(l:PE X e (TX K ml x))(h:X.N[i]?=b0 y:=by rfl)(f:CF X.env.scope y:=by first|exact .inl rfl|exact .inr rfl)(g:i∉ml:=by decide)(hs:Jm e (b0 (.Name y d)) pos.line X.env=pure bb:=by rfl)
  (j:LO X y:=by first|exact .inl rfl|exact .inr rfl|assumption):PS X (.Assign [.Name y d] e pos) (RE K ml (aU i x)):=(iY m h f l hs j).imp λD σ H b=>by
 obtain⟨B,O,δ,o,S,q,k⟩:=b;unfold aU at q;obtain⟨⟨s,a⟩,n,q⟩:=Ac.mp q;have q:(if i<a.length then b0 (Ou.nx (a.set i s))else b4)=b0 o:=q;split at q;rename_i hl;cases q;refine⟨B,O,δ,s,a,S,n,λv H' B' r p u=>?_⟩;obtain⟨t,c⟩:=p.bind r g hl;exact k _ _ _ c;cases q
noncomputable def UT(i j:Nat)(x y:VX):VS:=λδ=>(x δ).bind λp=>(y p.2).bind λq=>if i<q.2.length/\j<q.2.length then b0 (.nx ((q.2.set j q.1).set i p.1))else b4
def NB{i j:Nat}{y z:Wy}{t r:VX}{g f pt:Pos}{kt k2 pt2}(hc:X.calm=ba)(Q:X.N.Nodup)(J:X.N[i]?=b0 y)(I:X.N[j]?=b0 z)(d:i≠j)(G:X.env.scope.names.lookup y=b0 .local)(F:X.env.scope.names.lookup z=b0 .local)(P:PE X a (TX K ml t))(M:PE X b (TX K ml r))(hw:Fu [.Tuple [.Name y g,.Name z f] kt pt] (.Tuple [a,b] k2 pt2) X.env=pure (b0 [y,z]))(m:i∉ml:=by decide)(l:j∉ml:=by decide)(hs:Ft [.Tuple [.Name y g,.Name z f] kt pt] (.Tuple [a,b] k2 pt2) pos.line X.env=pure bb:=by rfl)(L:SE X a [b]:=by rfl)(n:SE X b []:=by rfl):
  PS X (.Assign [.Tuple [.Name y g,.Name z f] kt pt] (.Tuple [a,b] k2 pt2) pos) (RE K ml (UT i j t r)):=(mE hc Q J I d G F (bV P (bV M Z1 n) L) hw hs).imp λD σ H h=>by
 obtain⟨B,O,δ,o,S,q,k⟩:=h;unfold UT at q;obtain⟨⟨s,c⟩,R,q⟩:=Ac.mp q;cases p:r c with
 |none=>simp[p]at q
 |some E=>
  obtain⟨C,e⟩:=E;simp only[An,p]at q;split at q;rename_i hl;cases q;refine⟨B,O,δ,s,c,S,R,λv H1 W V x f1=>⟨W,O,c,C,e,V,p,λA H2 B2 U w f2=>⟨v,A,rfl,?_⟩⟩⟩;obtain⟨Z,T⟩:=w.bind U l hl.2;obtain⟨Y,u⟩:=(x.fr f2).bind T m (by rw[Ce];exact hl.1);rw[Ez _ _ (Dg d)]at u;exact k _ _ _ u;cases q
abbrev VG:=cY->Ev->Option Ev
inductive TGVi(K:Au)(ml:List Nat)(h:VG)(v:V)(σ:St)(H:Hp)(Q:St->Hp->Prop):Prop
 |mk (B:_) (O:_) (δ:_) (d:_) (xj:_) (h0:aI K ml B O H σ δ) (h1:bE K (Nn B O) H (Nn B O) v d) (h2:h d δ=b0 xj) (h3:∀xm O',aI K ml B O' H xm xj->(∀i∈ml,xm[i]?=σ[i]?)->Q xm H):TGVi K ml h v σ H Q
def TGV(K:Au)(ml:List Nat)(h:VG):TG:=λv σ H Q=>TGVi K ml h v σ H Q
def PG.imp{t u:TG}(h:PG X e t)(k:∀v σ H Q,u v σ H Q->t v σ H Q):PG X e u:=λa s σ H v w Q I r z=>h a s σ H v w Q I r (k v σ H Q z)
def PGs.imp{t u:TGs}(h:PGs X es t)(k:∀v σ H Q,u v σ H Q->t v σ H Q):PGs X es u:=λa s σ H v w Q I r z=>h a s σ H v w Q I r (k v σ H Q z)
def PG.or{t u:TG}(h:PG X e t)(h':PG X e u):PG X e (λv σ H Q=>t v σ H Q∨u v σ H Q):=λa s σ H v w Q I r z=>by
 rcases z with z|z;exact h a s σ H v w Q I r z;exact h' a s σ H v w Q I r z
def gN(i:Nat):VG:=λd δ=>b0 (δ.set i (.va d))
def cH{i:Nat}{x:Wy}(h:X.N.Nodup)(f:X.N[i]?=b0 x:=by rfl)(c:CF X.env.scope x:=by first|exact .inl rfl|exact .inr rfl)(b:i∉ml:=by decide)(g:LO X x:=by first|exact .inl rfl|exact .inr rfl|assumption):PG X (.Name x pos) (TGV K ml (gN i)):=
 (RS h f c g).imp λv σ H Q a=>by obtain⟨B,O,δ,d,xj,S,r,q,k⟩:=a;cases q;exact k _ _ (S.setVa b r) λj e=>Ci λ(z:i=j)=>b (z▸e)
abbrev VGs:=List cY->Ev->Option Ev
inductive Yv(K:Au)(ml:List Nat)(h:VGs)(vs:List V)(σ:St)(H:Hp)(Q:St->Hp->Prop):Prop
 |mk (B:_) (O:_) (δ:_) (ds:_) (xj:_) (h0:aI K ml B O H σ δ) (h1:cA K (Nn B O) H vs ds) (h2:h ds δ=b0 xj) (h3:∀xm O',aI K ml B O' H xm xj->(∀i∈ml,xm[i]?=σ[i]?)->Q xm H):Yv K ml h vs σ H Q
def TGVs(K:Au)(ml:List Nat)(h:VGs):TGs:=λa σ H Q=>Yv K ml h a σ H Q
def XY:VGs:=λa δ=>match a with
 |[]=>b0 δ
 |_=>b4
def bL(g:VG)(b:VGs):VGs:=λc δ=>match c with
 |d::r=>(g d δ).bind λa=>b r a
 |[]=>b4
def X4:PGs X [] (TGVs K ml XY):=HP.imp λb σ H Q a=>by
 obtain⟨B,O,δ,c,xj,S,r,q,k⟩:=a;cases r with
 |nil=>cases q;exact⟨rfl,k _ _ S λ_ _=>rfl⟩
 |cons _ _=>cases q
def bF{g:VG}{j:VGs}(f:PG X e (TGV K ml g))(u:PGs X es (TGVs K ml j))(hs:(Wx (e::es) X.env).map (·.2)=assign e X.env::(Wx es X.env).map (·.2):=by rfl):PGs X (e::es) (TGVs K ml (bL g j)):=
 (UR f u hs).imp λm σ H Q c => by
  obtain⟨B,O,δ,l,xj,S,r,q,k⟩:=c;cases r with
  |nil=>cases q
  | @cons v m d l h t=>
   have q:((g d δ).bind λa=>j l a)=b0 xj:=q;obtain⟨a,f,q⟩:=Ac.mp q;have x:=S.keepV (WQ t);exact⟨v,m,rfl,_,O,δ,d,a,x,h,f,λp A o m1=>⟨B,A,a,l,xj,o.unkeep,UD t.length λz s=>o.kep z (Bw _ s),q,λb y w m2=>k b y w λi n=>(m2 i n).trans (m1 i n)⟩⟩
def KR(n:Nat)(b:VGs):VG:=λd δ=>(YH d).bind λa=>if a.length=n then b a δ else b4
def V1{c:VGs}{k n:Nat}(l:X.K=K)(hc:X.calm=ba)(h:PGs X es (TGVs K ml c))(j:(Wx es X.env).length=n:=by rfl)(VC:(Wx es X.env).findIdx? (·.1)=b4:=by rfl):PG X (.Tuple es k pos) (TGV K ml (KR n c)):=
 ((Yl (K := K) l hc h j VC).or (ma (K := K) l hc h j VC)).imp λv σ H Q g => by
  obtain⟨B,O,δ,d,xj,S,r,q,k⟩:=g;unfold KR at q;obtain⟨i,m,q⟩:=Ac.mp q;have q:(if i.length=n then c i δ else b4)=b0 xj:=q;split at q;rename_i hl;obtain⟨a,e,rfl,sq,f⟩:=r.seq m;have b:TGVs K ml c e σ H Q:=⟨B,O,δ,i,xj,S,f,q,k⟩;rcases sq with sq|sq;exact .inr ⟨a,e,rfl,sq,f.length.trans hl,b⟩;exact .inl ⟨a,e,rfl,sq,f.length.trans hl,b⟩;cases q
def sAsg(f:VF)(g:VG):VS:=λδ=>(f δ).bind λp=>(g p.1 p.2).map Ou.nx
def eP{b:Ww}{j:VG}(m:PE X e (TV K ml pu ba ba f))(l:PG X b (TGV K ml j))(hs:Ft [b] e pos.line X.env=pure bb:=by rfl)(hw:Fu [b] e X.env=pure b4:=by rfl)
  (i:(Wx [b] X.env).map (·.2)=[assign b X.env]:=by rfl):PS X (.Assign [b] e pos) (RE K ml (sAsg f j)):=(MG m l hs hw i).imp λD σ H h=>by
 obtain⟨B,O,δ,o,S,q,k⟩:=h;unfold sAsg at q;obtain⟨⟨d,a⟩,i,q⟩:=Ac.mp q;have q:(j d a).map Ou.nx=b0 o:=q;obtain⟨g,n,q⟩:=Am.mp q;cases q;exact⟨B,O,δ,d,a,S,i,λv H' R=>⟨B,O,a,d,g,R.sta,R.rep,n,λc r p _=>k c H' r p⟩⟩
def MuV(K:Au)(r:V->List V->Hp->VK->Prop)(m:List cY->List cY->Option (List cY)):Prop:=∀(H:Hp) (N:Ws->Prop) (l:Ws) (c d:List V) (e es b:List cY) (Q:VK),
 H l=b0 (.lst c)->N l->cA K N H c e->cA K N H d es->m e es=b0 b->(∀v a,cA K N H a b->Q v (Z8 H l (.lst a)))->r (.ref l) d H Q
noncomputable def VM(δ:Ev)(i:Nat):Option (List cY):=match δ[i]? with
 |some (.ow (.lst a))=>b0 a
 |_=>b4
def VY(i:Nat)(m:List cY->List cY->Option (List cY))(fs:K7):VS:=λδ=>(VM δ i).bind λ_=>(fs δ).bind λp=>(VM p.2 i).bind λb=>(m b p.1).map λa=>.nx (p.2.set i (.ow (.lst a)))
def RQ{i:Nat}{ds:List cY}(h:VM δ i=b0 ds):δ[i]?=b0 (.ow (.lst ds)):=by
 unfold VM at h;split at h;cases h;assumption;cases h
def NX{N:Ws->Prop}{l:Ws}{o:HO}{xs:List V}{ds ys:List cY}{d:List V}(e:H l=b0 (.lst d))(f:N l)(h:cA K N H xs ds):cA K N (Z8 H l o) xs ds:=
 h.fr (P:=λb=>b=l) (λb u q n=>by
  by_cases c:b=l;subst c;rw[e]at q;cases q;exact absurd (n rfl) λz=>z;rw[a8 c];exact q) λa z=>z▸f
def ZA{i:Nat}{x:Wy}{name:Wy}{C g f:Pos}{id:String}{r:V->List V->Hp->VK->Prop}{m:List cY->List cY->Option (List cY)}{fs:K7}(slot:Slot "list" name id)(n:typeOf (.builtin id)=pure (.type "method_descriptor"))(N:MtR X id r)(u:MuV K r m)(M:PE X (.Name x f) (KY i))(P:PA X (e::es) (TAV K ml pu ba fs))(bu:Jq (.Name x f) name X.env (eval (.Name x f) X.env)=eval (.Name x f) X.env:=by rfl)(cn:((Hk g (Bi (e::es) X.env)).all (λx=> !x.1)&&(Rr g (Mc [] X.env)).all (λx=>x.1.isSome)&&decide ((e::es).length+([]:List Md).length+(if([]:List Md).isEmpty then 0 else 1)<30))=ba:=by rfl)(br:(C.endLine==g.line)=ba:=by rfl)(hs:SE X e es:=by rfl)(az:(Hk g (Bi es X.env)).any (·.1)=bb:=by rfl)(s:Jm (.Call (.Attribute (.Name x f) name C) (e::es) [] g) b4 pos.line X.env=pure bb:=by rfl)(Q:X.K=K:=by rfl):PS X (.Expr (.Call (.Attribute (.Name x f) name C) (e::es) [] g) pos) (RE K ml (VY i m fs)):=
 (BB (kBm (K := K) Q Oi slot n N M P bu cn br hs az) s).imp λD σ H t => by
  obtain⟨B,O,δ,o,S,q,k⟩:=t;unfold VY at q;obtain⟨Z,W,q⟩:=Ac.mp q;have q:((fs δ).bind λp=>(VM p.2 i).bind λd=>(m d p.1).map λa=>Ou.nx (p.2.set i (.ow (.lst a))))=b0 o:=q;obtain⟨⟨b,c⟩,U,q⟩:=Ac.mp q;have q:((VM c i).bind λd=>(m d b).map λa=>Ou.nx (c.set i (.ow (.lst a))))=b0 o:=q;obtain⟨d,T,q⟩:=Ac.mp q;have q:((m d b).map λa=>Ou.nx (c.set i (.ow (.lst a))))=b0 o:=q;cases A:m d b with
  |none=>rw[A]at q;cases q
  |some a=>
   rw[A]at q;cases q;obtain⟨l,j,Y,w⟩:=S.ow i _ (RQ W);cases w with
   |lst y _=>
    refine⟨.ref l,Y,.inl ⟨rfl,_,WZ.of y⟩,B,O,δ,b,c,S,U,λI H1 R=>?_⟩;obtain⟨l',E,_,G⟩:=R.sta.ow i _ (RQ T);rw[j]at E;cases E;cases G with
    |lst h L=>
     refine u H1 (Nn B O) l _ I d b a _ h (.inr ⟨i,j⟩) L R.rep A λv F J=>?_;exact k σ _ O (R.sta.wrote j (λz=>z) (.lst b6 (NX (ys:=[]) h (.inr ⟨i,j⟩) J)))
def UP:List cY->List cY->Option (List cY)
 |a,[d]=>if a.length<16777216 then b0 (a++[d])else b4
 |_,_=>b4
def YG:MuV K BJ UP:=by
 intro H N l b c m es i Q hl j a e h k;cases e with
 |nil=>cases h
 | @cons v c d es g t=>
  cases t with
  |cons _ _=>cases h
  |nil=>
   simp only[UP]at h;split at h;rename_i f;cases h;exact⟨l,b,v,rfl,rfl,hl,by rw[a.length,Dn];exact f,k _ _ (a.snoc g)⟩;cases h
end
section
variable{X:Cx}{K:Au}{ml:List Nat}{e a b c:Ww}{es:List Ww}{pa ta ia pb tb ib pc tc ic pu bt bi ps bs:Bool}{fa fb fc f:VF}{B B':Bs}{O:Nat->Option Ws}{H H1 H':Hp}{σ:St}{δ xj:Ev}{v:V}{d:cY}{p:Ws}{pos:Pos}{st:Xf}{rest:List Xf}{g g':VS}
def again(a:VS):Ou->Option Ou
 |.nx δ=>a δ
 |.ct δ=>a δ
 |.bk δ=>b0 (.nx δ)
 |.rt d δ=>b0 (.rt d δ)
def aZ(t:VB)(g:VS):Nat->VS
 |0=>λ_=>b4
 |n+1=>λδ=>(t δ).bind λp=>if p.1=ba then(g p.2).bind (again (aZ t g n))else b0 (.nx p.2)
theorem SY{t:VB}:∀{n:Nat}{δ:Ev}{o:Ou},aZ t g n δ=b0 o->aZ t g (n+1) δ=b0 o
 |0,_,_,h=>by cases h
 | n + 1,δ,o,h => by
  dsimp only[aZ]at h;show((t δ).bind λp=>if p.1=ba then(g p.2).bind (again (aZ t g (n+1)))else b0 (.nx p.2))=b0 o;cases e:t δ with
  |none=>rw[e]at h;cases h
  |some p=>
   rw[e]at h;obtain⟨f,b⟩:=p;cases f with
   |false=>exact h
   |true=>
    have h:(g b).bind (again (aZ t g n))=b0 o:=h;show(g b).bind (again (aZ t g (n+1)))=b0 o;cases c:g b with
    |none=>rw[c]at h;cases h
    |some z=>
     rw[c]at h;cases z with
     |nx a=>exact SY (n:=n) h
     |ct a=>exact SY (n:=n) h
     |bk a=>exact h
     |rt d a=>exact h
theorem Q2{t:VB}{n:Nat}{o:Ou}(h:aZ t g n δ=b0 o):∀k,aZ t g (n+k) δ=b0 o
 |0=>h
 |k+1=>SY (Q2 h k)
def EA{t:VB}{n m:Nat}{o b:Ou}(h:aZ t g n δ=b0 o)(h':aZ t g m δ=b0 b):o=b:=by have c:=Q2 h m;have a:=Q2 h' n;rw[Nat.add_comm]at a;rw[c]at a;exact Cd a
open Classical in
noncomputable def SU(t:VB)(g:VS):VS:=λδ=>if h:∃o n,aZ t g n δ=b0 o then b0 (Tj h)else b4
def RV{t:VB}{n:Nat}{o:Ou}(h:aZ t g n δ=b0 o):SU t g δ=b0 o:=by have a:∃o n,aZ t g n δ=b0 o:=⟨o,n,h⟩;unfold SU;rw[dif_pos a];obtain⟨m,b⟩:=Lc a;rw[EA b h]
def DV{t:VB}{o:Ou}(h:SU t g δ=b0 o):∃n,aZ t g n δ=b0 o:=by
 unfold SU at h;split at h;rename_i a;cases h;exact Lc a;cases h
def MP{body:List Xf}{t:VB}(s:Tz (Wu X.prog X.w) X.A X.env X.xe)(hc:PT X c (TB K ml pc t))(x:NL X body (RE K ml g)):PS X (.While c body [] pos) (RE K ml (SU t g)):=(su s hc x).imp λD σ H j=>by
 obtain⟨B,O,δ,o,S,q,k⟩:=j;obtain⟨n,u⟩:=DV q;refine⟨λm σ H=>∃O δ,aI K ml B O H σ δ/\aZ t g m δ=b0 o,⟨n,O,δ,S,u⟩,?_⟩;rintro m σ H ⟨O,δ,S,b⟩;cases m with
 |zero=>cases b
 |succ m=>
  dsimp only[aZ]at b;obtain⟨⟨l,f⟩,C,b⟩:=Ac.mp b;refine⟨B,O,δ,l,f,S,C,λH1 p=>?_⟩;cases l with
  |false=>
   have b:b0 (Ou.nx f)=b0 o:=b;cases b;exact NI (k σ H1 O p.sta)
  |true=>
   have b:(g f).bind (again (aZ t g m))=b0 o:=b;obtain⟨z,y,b⟩:=Ac.mp b;refine NJ ⟨λa H'=>∃O δ,aI K ml B O H' a δ/\aZ t g m δ=b0 o,λa H' w=>⟨m,Iz _,w⟩,B,O,f,z,p.sta,y,?_⟩;cases z with
   |nx e=>exact λa H' i h=>⟨i,e,h,b⟩
   |ct e=>exact λa H' i h=>⟨i,e,h,b⟩
   |bk e=>cases b;exact λa H' i h=>k a H' i h
   |rt d e=>cases b;exact λv a H' i h r=>k v a H' i h r
def Walk(K:Au)(J:It)(a:List (V×cY))(ds:List cY):Prop:=∀(N:Ws->Prop) (H:Hp),(∀p∈a,bE K N H N p.1 p.2)->
 (∀(i:Nat) (d:cY),ds[i]?=b0 d->J.go i H/\∀x H',J.yld i H x H'->aS H H'/\bE K N H' N x d)/\J.stop ds.length H
abbrev VI:=Ev->Option (List cY×Ev)
inductive TIVi(K:Au)(ml:List Nat)(pu:Bool)(f:VI)(σ:St)(H:Hp)(R:It->Hp->Prop):Prop
 |mk (B:_) (O:_) (δ:_) (ds:_) (xj:_) (h0:aI K ml B O H σ δ) (h1:f δ=b0 (ds,xj)) (h2:∀J kps H',aI K ml {B with kp:=kps++B.kp} O H' σ xj->Fr (OA O) H H'->(pu=ba->aS H H')->Walk K J kps ds->R J H'):TIVi K ml pu f σ H R
def TIV(K:Au)(ml:List Nat)(pu:Bool)(f:VI):TI:=λσ H R=>TIVi K ml pu f σ H R
def PI.imp{a:Ww}{t u:TI}(h:PI X a e t)(k:∀σ H R,u σ H R->t σ H R):PI X a e u:=λb s σ H R I w=>h b s σ H R I (k σ H R w)
def PI.or{a:Ww}{t u:TI}(h:PI X a e t)(h':PI X a e u):PI X a e (λσ H R=>t σ H R∨u σ H R):=λb s σ H R I z=>by
 rcases z with z|z;exact h b s σ H R I z;exact h' b s σ H R I z
def ZT(f:VF):VI:=λδ=>(f δ).bind λp=>(YH p.1).map λa=>(a,p.2)
def l6{a:Ws}{ds:List cY}:Walk K (Itl K a) [(.ref a,.lst ds)] ds:=by
 intro N H h;have r:=h _ (Aq.mpr rfl);have c:∀b,WZ K H a b->cA K N H b ds->(∀(i:Nat) (d:cY),ds[i]?=b0 d->(Itl K a).go i H/\∀x H',(Itl K a).yld i H x H'->aS H H'/\bE K N H' N x d)/\(Itl K a).stop ds.length H:=λb sq r=>by
  refine⟨λi d e=>?_,b,sq,by rw[r.length];exact Al _⟩;obtain⟨x,f,g⟩:=r.get e;refine⟨⟨b,x,sq,f⟩,λy H' j=>?_⟩;obtain⟨l,k⟩:=j;subst l;have:=k b sq;rw[f]at this;cases this;exact⟨aS.refl _,g⟩
 cases r.onL with
 |lst q n r=>exact c _ (WZ.of q) r
 |fzl q r=>exact c _ q.sq r
def kI{a:Ws}{ds:List cY}:Walk K (Itt K a) [(.ref a,.tup ds)] ds:=by
 intro N H h;have r:=h _ (Aq.mpr rfl);cases r.onT with
 |tup sq r=>
  refine⟨λi d e=>?_,_,sq,by rw[r.length];exact Al _⟩;obtain⟨x,b,c⟩:=r.get e;refine⟨⟨_,x,sq,b⟩,λy H' f=>?_⟩;obtain⟨j,g⟩:=f;subst j;have:=g _ sq;rw[b]at this;cases this;exact⟨aS.refl _,c⟩
def ZR{o:Ww}(j:X.K=K)(h:PE X e (TV K ml pu ba ba f)):PI X o e (TIV K ml pu (ZT f)):=((gG (K:=K) j h).or (Yz (K:=K) j h)).imp λσ H R d=>by
 obtain⟨B,O,δ,m,xj,S,q,k⟩:=d;unfold ZT at q;obtain⟨⟨x,c⟩,l,q⟩:=Ac.mp q;cases x with
 |lst i=>
  cases q;refine .inl ⟨B,O,δ,_,c,S,l,λv H1 b=>?_⟩;obtain⟨a,n,rfl,sq,r⟩:=b.rep.seq rfl;refine⟨a,rfl,?_,k _ [(.ref a,.lst m)] H1 (b.sta.keepV λp g=>by rw[Aq.mp g];exact b.rep) b.frm b.pur l6⟩;have r:=b.rep;cases r.onL with
  |lst q _ _=>exact⟨_,WZ.of q⟩
  |fzl q _=>exact⟨_,q.sq⟩
 |tup i=>
  cases q;refine .inr ⟨B,O,δ,_,c,S,l,λv H1 b=>?_⟩;obtain⟨a,n,rfl,sq,r⟩:=b.rep.seq rfl;refine⟨a,rfl,?_,k _ [(.ref a,.tup m)] H1 (b.sta.keepV λp g=>by rw[Aq.mp g];exact b.rep) b.frm b.pur kI⟩;have r:=b.rep;cases r.onT with
  |tup q _=>exact⟨_,q⟩
 |_=>cases q
def a7(lo:Int)(n:Nat):List cY:=(Ao n).map λk:Nat=>.int (lo+k)
noncomputable def OS(f:VF):VI:=λδ=>(f δ).bind λp=>match p.1 with
 |.int j=>if -4611686018427387904<=j/\j<4611686018427387904 then b0 (a7 0 j.toNat,p.2)else b4
 |_=>b4
noncomputable def iR2(f g:VF):VI:=λδ=>(f δ).bind λp=>(g p.2).bind λq=>match p.1,q.1 with
 |.int i,.int j=>if(-4611686018427387904<=i/\i<4611686018427387904)/\ -4611686018427387904<=j/\j<4611686018427387904 then b0 (a7 i (j-i).toNat,q.2)else b4
 |_,_=>b4
def sH{lo:Int}{n i:Nat}{d:cY}(h:(a7 lo n)[i]?=b0 d):i<n/\d=.int (lo+i):=by
 unfold a7 at h;rw[Di]at h;obtain⟨k,a,h⟩:=Am.mp h;cases h;have:=Ap.mp a;obtain⟨hl,e⟩:=this;rw[Hd]at hl;rw[List.getElem_range]at e;subst e;exact⟨hl,rfl⟩
def GD{lo:Int}{n:Nat}:Walk K (Itr lo n) [] (a7 lo n):=by intro N H _;refine⟨λi d e=>?_,by simp[Itr,a7]⟩;obtain⟨hl,rfl⟩:=sH e;refine⟨hl,λx H' a=>?_⟩;obtain⟨rfl,rfl⟩:=a;exact⟨aS.refl _,.int _⟩
def ZX{g:Ww}{i:Pos}(m:Gl X "range")(l:X.mg "range"=b4)(h:PE X a (TV K ml pa ta ia fa))(hs:Bi [a] X.env=[(bb,eval a X.env)]:=by rfl)(K2:SE X a []:=by rfl):
  PI X g (.Call (.Name "range" i) [a] [] pos) (TIV K ml pa (OS fa)):=(jG m l (bV h Z1 K2) hs).imp λσ H R e=>by
 obtain⟨B,O,δ,o,xj,S,q,k⟩:=e;unfold OS at q;obtain⟨⟨x,d⟩,n,q⟩:=Ac.mp q;cases x with
 |int j=>
  have q:(if -4611686018427387904<=j/\j<4611686018427387904 then b0 (a7 0 j.toNat,d)else b4)=b0 (o,xj):=q;split at q;rename_i f;cases q;have b:(2:Int) ^ 62=4611686018427387904:=by decide
  refine⟨B,O,δ,_,_,S,n,λv H1 c=>⟨j,?_,by rw[b];exact f.1,by rw[b];exact f.2,k _ [] H1 (c.sta.keepV λ_ z=>nomatch z) c.frm c.pur GD⟩⟩;rw[c.rep.onI];cases q
 |_=>cases q
def lX{r:Ww}{w:Pos}(C:Gl X "range")(A:X.mg "range"=b4)(h:PE X a (TV K ml pa ta ia fa))(h':PE X b (TV K ml pb tb ib fb))(hs:Bi [a,b] X.env=[(bb,eval a X.env),(bb,eval b X.env)]:=by rfl)(C2:Bi [b] X.env=[(bb,eval b X.env)]:=by rfl)(D:SE X a [b]:=by rfl)(m:SE X b []:=by rfl):
  PI X r (.Call (.Name "range" w) [a,b] [] pos) (TIV K ml (pa&&pb) (iR2 fa fb)):=(rY C A (bV h (bV h' Z1 m) D) hs C2).imp λσ H R l=>by
 obtain⟨B,O,δ,F,xj,S,q,k⟩:=l;unfold iR2 at q;obtain⟨⟨x,c⟩,E,q⟩:=Ac.mp q;cases n:fb c with
 |none=>simp[n]at q
 |some u=>
  obtain⟨y,f⟩:=u;simp only[An,n]at q;cases x with
  |int i=>
   cases y with
   |int j=>
    have q:(if(-4611686018427387904<=i/\i<4611686018427387904)/\ -4611686018427387904<=j/\j<4611686018427387904 then b0 (a7 i (j-i).toNat,f)else b4)=b0 (F,xj):=q;split at q;rename_i d;cases q;have g:(2:Int) ^ 62=4611686018427387904:=by decide
    refine⟨B,O,δ,_,_,S,E,λv H1 e=>⟨B,O,c,_,_,e.sta,n,λI G R2=>⟨i,j,?_,by rw[g];exact⟨d.1.1,d.1.2,d.2.1,d.2.2⟩,k _ [] G (R2.sta.keepV λ_ z=>nomatch z) (e.frm.trans R2.frm) (λz=>by obtain⟨p,o⟩:=(Ah _ _).mp z;exact(e.pur p).trans (R2.pur o)) GD⟩⟩⟩;have t:=e.rep;have s:=R2.rep;cases t.onI;cases s.onI;rfl;cases q
   |_=>cases q
  |_=>cases q
def XQ(b:VG)(s:VS):List cY->VS
 |[]=>λδ=>b0 (.nx δ)
 |d::r=>λδ=>(b d δ).bind λa=>(s a).bind (again (XQ b s r))
def U5(fi:VI)(a:VG)(s:VS):VS:=λδ=>(fi δ).bind λp=>XQ a s p.1 p.2
def WX{y iter:Ww}{body:List Xf}{fi:VI}{j:VG}(E:Tz (Wu X.prog X.w) X.A X.env X.xe)(hc:X.calm=ba)(F:PI X y iter (TIV K ml pu fi))(T:PG X y (TGV K ml j))(U:NL X body (RE K ml g))
  (hs:∀x,Xa iter X.env x=pure x:=by intro _;rfl):PS X (.For y iter body [] pos) (RE K ml (U5 fi j g)):=(p9 E hc F T U hs).imp λD σ H C=>by
 obtain⟨B,O,δ,o,S,q,k⟩:=C;unfold U5 at q;obtain⟨⟨c,h⟩,Y,q⟩:=Ac.mp q;have q:XQ j g c h=b0 o:=q;refine⟨B,O,δ,c,h,S,Y,λJ u H1 S1 _ _ L=>?_⟩;refine⟨λi m σ H=>m=c.length-i/\i<=c.length/\∃O δ,aI K ml {B with kp:=u++B.kp} O H σ δ/\XQ j g (c.drop i) δ=b0 o,⟨c.length,rfl,Ch _,O,h,S1,q⟩,?_⟩;rintro i m σ H ⟨rfl,F,O,δ,S,b⟩;have w:=L (Nn B O) H λp E=>S.kep p (Bw _ E);by_cases n:i<c.length;obtain ⟨Z,I⟩ := w.1 i c[i] (by simp [n]);rw[Em n]at b;refine .inr ⟨Z,λa H'=>∃O δ,aI K ml {B with kp:=u++B.kp} O H' a δ/\XQ j g (c.drop (i+1)) δ=b0 o,λa H' M=>⟨c.length-(i+1),by lia,rfl,n,M⟩,λx H' R=>?_⟩;obtain⟨N,P⟩:=I x H' R;have b:((j c[i] δ).bind λh=>(g h).bind (again (XQ j g (c.drop (i+1)))))=b0 o:=b;obtain⟨l,W,b⟩:=Ac.mp b;have b:(g l).bind (again (XQ j g (c.drop (i+1))))=b0 o:=b;refine⟨_,O,δ,c[i],l,S.same N,P,W,λG O2 S2 _=>?_⟩;obtain⟨z,V,b⟩:=Ac.mp b;refine⟨_,O2,l,z,S2,V,?_⟩;cases z with
 |nx f=>exact λa H' t s=>⟨t,f,s,b⟩
 |ct f=>exact λa H' t s=>⟨t,f,s,b⟩
 |bk f=>cases b;exact λa H' t s=>k a H' t s.unkeep
 |rt d f=>cases b;exact λv a H' t s r=>k v a H' t s.unkeep r
 have e : i = c.length := by lia
 subst e;rw[Hl]at b;cases b;exact .inl ⟨w.2,k σ H O S.unkeep⟩
end
section
variable{X:Cx}{K:Au}{ml:List Nat}{e a b c:Ww}{es:List Ww}{pa ta ia pb tb ib pc tc ic pu bt bi ps bs:Bool}{fa fb fc f:VF}{B B':Bs}{O:Nat->Option Ws}{H H1 H':Hp}{σ:St}{δ xj:Ev}{v:V}{d:cY}{p:Ws}{pos:Pos}{st:Xf}{rest:List Xf}{g g':VS}
def aI.call{P:Ws->Prop}(S:aI K ml B O H σ δ)(hl:xj.length=δ.length)(h:∀i:Nat,(xj[i]?=δ[i]? /\∀a,O i=b0 a->¬P a)∨∃a d',O i=b0 a/\xj[i]?=b0 (Sl.ow d')/\TY K (Nn B O) H' a d')
  (f:Fr P H H') (j:∀a,P a->OA O a):aI K ml B O H' σ xj where
 len:=by rw[hl,S.len]
 va:=λi d e=>by
  rcases h i with⟨g,_⟩|⟨a,d',_,g,_⟩;rw[g]at e;obtain⟨v,c,r⟩:=S.va i d e;exact⟨v,c,r.fr f (λa z=>.inr (j a z)) λa z=>.inr (j a z)⟩;rw[g]at e;cases e
 ow:=λi d e=>by
  rcases h i with⟨g,n⟩|⟨a,d',c,g,w⟩;rw[g]at e;obtain⟨a,c,l,w⟩:=S.ow i d e;exact⟨a,c,l,w.fr f (λa z=>.inr (j a z)) (n a c)⟩;rw[g]at e;cases e;obtain⟨m,q0⟩:=S.dom i a c;obtain⟨x,l,u,_⟩:=S.ow i m q0;rw[c]at l;cases l;exact⟨a,c,u,w⟩
 dom:=λi a e=>by
  rcases h i with⟨g,n⟩|⟨a,d',c,g,w⟩;obtain⟨m,q0⟩:=S.dom i a e;exact⟨m,g.trans q0⟩;exact⟨d',g⟩
 inj:=S.inj
 old:=S.old
 zin:=λa k=>by
  obtain⟨o,q⟩:=S.zin a k;exact⟨o,f a o q λz=>by obtain⟨i,e⟩:=j a z;exact absurd k (S.old i a e).1⟩
 frm:=λb o q n=>by
  have t:=S.frm b o q n;refine f b o t λz=>?_;obtain⟨i,e⟩:=j b z;rcases(S.old i b e).2 with w|w
  exact n w;rw[q]at w;cases w
 par:=S.par
 pin:=λa k=>by
  obtain⟨o,q⟩:=S.pin a k;by_cases z:P a;obtain⟨i,e⟩:=j a z;rcases h i with⟨_,n⟩|⟨x,d',c,g,w⟩;exact absurd z (n a e);rw[e]at c;cases c;obtain⟨o,q,_⟩:=w.soft;exact⟨o,q⟩;exact⟨o,f a o q λy=>absurd y z⟩
 kep:=λp s=>(S.kep p s).fr f (λa z=>.inr (j a z)) λa z=>.inr (j a z)
abbrev aP:=List cY->Option (cY×List cY)
def KM(ml:List Nat)(vs:List V):Ws->Prop:=λa=>∃i∈ml,vs[i]?=b0 (.ref a)
def Zp(Z:Ws->Prop)(ml:List Nat)(vs:List V):Ws->Prop:=λa=>Z a∨KM ml vs a
structure hG(K:Au)(ml:List Nat)(Z:Ws->Prop)(H:Hp)(vs:List V)(ds:List cY):Prop where
 len:vs.length=ds.length
 mem:∀i∈ml,i<ds.length
 va:∀(i:Nat) (d:cY),i∉ml->ds[i]?=b0 d->∃v,vs[i]?=b0 v/\bE K (Zp Z ml vs) H (Zp Z ml vs) v d
 ow:∀(i:Nat) (d:cY),i∈ml->ds[i]?=b0 d->∃a,vs[i]?=b0 (.ref a)/\TY K (Zp Z ml vs) H a d/\¬Z a
 inj:∀(i j:Nat) (a:Ws),i∈ml->j∈ml->vs[i]?=b0 (.ref a)->vs[j]?=b0 (.ref a)->i=j
 zin:∀a,Z a->∃o,H a=b0 o
inductive spVi(K:Au)(ml:List Nat)(n:Nat)(F:aP)(vs:List V)(H:Hp)(Q:VK):Prop
 |mk (Z:Ws->Prop) (ds:List cY) (r:cY) (os:List cY) (h0:ds.length=n) (h1:hG K ml Z H vs ds) (h2:F ds=b0 (r,os)) (h3:∀v H',Fr (KM ml vs) H H'->(∀(k i:Nat) (a:Ws) (o:cY),ml[k]?=b0 i->vs[i]?=b0 (.ref a)->os[k]?=b0 o->TY K (Zp Z ml vs) H' a o)->bE K (Zp Z ml vs) H' (Zp Z ml vs) v r->Q v H'):spVi K ml n F vs H Q
def spV(K:Au)(ml:List Nat)(n:Nat)(F:aP):Sp:=λa H Q _=>spVi K ml n F a H Q
def bU(ml:List Nat)(n:Nat)(ds:List cY):Ev:=ds.mapIdx (λi d=>if i∈ml then Sl.ow d else Sl.va d)++Cb (n-ds.length) Sl.no
def SO(ml:List Nat)(δ:Ev):Option (List cY):=ml.mapM λ(i:Nat)=>match(δ[i]? :Option Sl)with
 |some (Sl.ow d)=>b0 d
 |_=>b4
noncomputable def ZQ(n:Nat)(ml:List Nat)(g:VS):aP:=λa=>(g (bU ml n a)).bind λo=>match o with
 |.rt d δ=>(SO ml δ).map λos=>(d,os)
 |.nx δ=>(SO ml δ).map λos=>(.non,os)
 |_=>b4
theorem FE:∀{ml:List Nat}{δ:Ev}{os:List cY},SO ml δ=b0 os->∀(k i:Nat) (o:cY),ml[k]?=b0 i->os[k]?=b0 o->δ[i]?=b0 (.ow o)
 |[],_,_,h,k,i,o,a,c=>by simp at a
 | j :: ml,δ,os,h,k,i,o,a,c => by
  unfold SO at h;rw[Us]at h;split at h;rename_i d f;cases b:(ml.mapM λ(i:Nat)=>match(δ[i]? :Option Sl)with
   |some (Sl.ow d)=>b0 d
   |_=>b4:Option (List cY))with
  |none=>rw[b]at h;cases h
  |some e=>
   rw[b]at h;cases h;cases k with
   |zero=>
    cases a;cases c;exact f
   |succ k=>exact FE (ml:=ml) b k i o (by simpa using a) (by simpa using c)
  cases h
def iT{N:List Wy}{Z:Ws->Prop}{vs:List V}{ds:List cY}(A:hG K ml Z H vs ds)(D:ds.length<=N.length):∃l:Nat->Option Ws,(∀i a,l i=b0 a↔i∈ml/\vs[i]?=b0 (.ref a))/\aI K ml ⟨Z,KM ml vs,H,l,[]⟩ l H (start N vs) (bU ml N.length ds):=by
 classical
 let l:Nat->Option Ws:=λi=>if i∈ml then(match vs[i]? with
  |some (.ref a)=>b0 a
  |_=>b4)else b4
 have f:∀i a,l i=b0 a↔i∈ml/\vs[i]?=b0 (.ref a):=λi a=>by
  show(if i∈ml then(match vs[i]? with
   |some (.ref a)=>b0 a
   |_=>b4)else b4)=b0 a↔_
  by_cases c:i∈ml;rw[if_pos c];constructor;intro h;split at h;rename_i b B;cases h;exact⟨c,B⟩;cases h;rintro ⟨_,h⟩;rw[h];rw[if_neg c];exact⟨(λh=>nomatch h),λh=>absurd h.1 c⟩
 have t:∀a,Nn ⟨Z,KM ml vs,H,l,[]⟩ l a->Zp Z ml vs a:=λa h=>by
  rcases h with h|⟨i,h⟩;exact .inl h;exact .inr ⟨i,(f i a).mp h⟩
 have x:∀(i:Nat) (s:Sl),(bU ml N.length ds)[i]?=b0 s->(∃d,ds[i]?=b0 d/\s=if i∈ml then .ow d else .va d)∨s=.no:=λi s h=>by
  unfold bU at h;by_cases c:i<ds.length;rw [Ax (by simpa using c),Qo]at h;cases q:ds[i]? with
  |none=>rw[q]at h;cases h
  |some d=>rw[q]at h;cases h;exact .inl ⟨d,rfl,rfl⟩
  rw [Dk (by simpa using c),Fb]at h;split at h;cases h;exact .inr rfl;cases h
 have VC:∀(i:Nat) (v:V),vs[i]?=b0 v->(start N vs)[i]?=b0 (b0 v):=λi v h=>by unfold start;have c:i<vs.length:=(Ap.mp h).1;rw[Ax (by simpa using c),Di,h];rfl
 refine⟨l,f,?_,λi d q=>?_,λi d q=>?_,λi a q=>?_,λi j a q1 q2=>?_,λi a q=>?_,A.zin,Fr.refl _ _,⟨λi a q=>((f i a).mp q).1,λi _=>rfl⟩,λa q=>?_,λp y=>nomatch y⟩;unfold start bU;have:=A.len
 simp;lia;rcases x i _ q with⟨e,u,k⟩|h;by_cases c:i∈ml;rw[if_pos c]at k;cases k;rw[if_neg c]at k;cases k;obtain⟨v,g,r⟩:=A.va i d c u;exact⟨v,VC i v g,r.mono t t⟩;cases h;rcases x i _ q with⟨e,u,k⟩|h;by_cases c:i∈ml;rw[if_pos c]at k;cases k;obtain⟨a,g,w,_⟩:=A.ow i d c u;exact⟨a,(f i a).mpr ⟨c,g⟩,VC i _ g,w.mono t⟩;rw[if_neg c]at k;cases k;cases h;obtain⟨c,g⟩:=(f i a).mp q;have hl:=A.mem i c;refine⟨ds[i],?_⟩;unfold bU;rw[Ax (by simpa using hl),Qo];simp[hl,c];exact A.inj i j a ((f i a).mp q1).1 ((f j a).mp q2).1 ((f i a).mp q1).2 ((f j a).mp q2).2;obtain⟨c,g⟩:=(f i a).mp q;refine⟨λz=>?_,.inl ⟨i,c,g⟩⟩;obtain⟨C,m,_,n⟩:=A.ow i (ds[i]'(A.mem i c)) c (by simp[A.mem i c]);rw[g]at m;cases m;exact n z;obtain⟨i,c,g⟩:=q;obtain⟨C,m,w,n⟩:=A.ow i (ds[i]'(A.mem i c)) c (by simp[A.mem i c]);rw[g]at m;cases m;obtain⟨o,q,_⟩:=w.soft;exact⟨o,q⟩
def rH{N ps:List Wy}{vs:List V}{Q:VK}{E:XK}(y:ps.length<=N.length)(h:spV K ml ps.length (ZQ N.length ml g) vs H Q E):RE K ml g {nx:=λ_ H'=>Q .non H',rt:=Q} (start N vs) H:=by
 obtain⟨Z,S,r,os,I,AV,c,k⟩:=h;obtain⟨s,n,R⟩:=iT (N:=N) AV (by rw[I];exact y);unfold ZQ at c;obtain⟨o,L,c⟩:=Ac.mp c;refine⟨_,s,_,o,R,L,?_⟩;have t:∀(xj:Ev) (v:V) (f:St) (H':Hp) (q:Nat->Option Ws),SO ml xj=b0 os->aI K ml ⟨Z,KM ml vs,H,s,[]⟩ q H' f xj->bE K (rz ⟨Z,KM ml vs,H,s,[]⟩) H' (rz ⟨Z,KM ml vs,H,s,[]⟩) v r->Q v H':=λxj v f H' q G l m=>by
  have A:∀a,Zp Z ml vs a->rz ⟨Z,KM ml vs,H,s,[]⟩ a:=λa h=>by
   rcases h with h|⟨i,u,e⟩;exact .inl h;exact .inr ⟨i,(n i a).mpr ⟨u,e⟩⟩
  refine k v H' l.frm (λF i a o D P O=>?_) (m.mono A A);have J:=FE G F i o D O;obtain⟨T,C,_,w⟩:=l.ow i o J;have u:i∈ml:=Fg D;have:=(l.par.2 i u).trans ((n i a).mpr ⟨u,P⟩);rw[this]at C;cases C;refine w.mono λb z=>?_;rcases z with z|⟨j,B,M⟩
  exact .inl z;exact .inr ⟨j,(l.par.2 j B).trans ((n j b).mpr ⟨B,M⟩)⟩
 cases o with
 |rt d xj=>
  have c:(SO ml xj).map (λos=>(d,os))=b0 (r,os):=c;cases p:SO ml xj with
  |none=>rw[p]at c;cases c
  |some x=>
   rw[p]at c;cases c;exact λv f H' q l m=>t xj v f H' q p l m
 |nx xj=>
  have c:(SO ml xj).map (λos=>(cY.non,os))=b0 (r,os):=c;cases p:SO ml xj with
  |none=>rw[p]at c;cases c
  |some x=>
   rw[p]at c;cases c;exact λf H' q l=>t xj .non f H' q p l .non
 |bk xj=>cases c
 |ct xj=>cases c
def Fun.okV{P:Az}{w:Wv}{mg:Wy->Option Wr}{base:Wz}{x a:Wy}{st:Xf}{f:Ws}{d:Hx}{N ps:List Wy}{k:Nat}(F:Fun K x a st f d)(S:WC N ps (bS st))(c:ps.length<=N.length)(l:∀(b:Wr) (A:Bz) (outer:List Env) (s:Af) (H:Hp) (E:XK),WR k (A.deeper (Mb a (bS st) s.heap.objs.size f b))->NL (G3 CX0 P w K mg base N a (bS st) f b A outer s H E).nox (YY st) (RE K ml g)):N5 P w K mg base CX0 (k+1) f d ps (spV K ml ps.length (ZQ N.length ml g)):=by refine F.ok S (λe H Q E h=>?_) (λb A outer s H e Q E i h=>⟨_,l b A outer s H E i,rH c h⟩);obtain⟨Z,m,r,os,j,AV,_⟩:=h;rw[AV.len,j]
inductive AV where
 |d (d:cY)|o (j:Nat)
inductive S9(K:Au)(N:Ws->Prop)(H:Hp)(σ:St):List V->List AV->Prop
 |nil:S9 K N H σ [] []
 |d {v:V}{vs:List V}{d:cY}{as:List AV}:bE K N H N v d->S9 K N H σ vs as->S9 K N H σ (v::vs) (.d d::as)
 |o {v:V}{vs:List V}{j:Nat}{as:List AV}:σ[j]?=b0 (b0 v)->S9 K N H σ vs as->S9 K N H σ (v::vs) (.o j::as)
abbrev EB:=Ev->Option (List AV×Ev)
structure ResG(K:Au)(ml:List Nat)(B:Bs)(O:Nat->Option Ws)(H:Hp)(σ:St)(pu:Bool)(H':Hp)(xj:Ev)(vs:List V)(as:List AV):Prop where
 sta:aI K ml B O H' σ xj
 frm:Fr (OA O) H H'
 pur:pu=ba->aS H H'
 rep:S9 K (Nn B O) H' σ vs as
inductive TAGi(K:Au)(ml:List Nat)(pu:Bool)(f:EB)(σ:St)(H:Hp)(Q:List V->Hp->Prop):Prop
 |mk (B:_) (O:_) (δ:_) (as:_) (xj:_) (h0:aI K ml B O H σ δ) (h1:f δ=b0 (as,xj)) (h2:∀vs H',ResG K ml B O H σ pu H' xj vs as->Q vs H'):TAGi K ml pu f σ H Q
def TAG(K:Au)(ml:List Nat)(pu:Bool)(f:EB):TA:=λσ H Q=>TAGi K ml pu f σ H Q
def cB:EB:=λδ=>b0 ([],δ)
noncomputable def aE(f:VF)(fs:EB):EB:=λδ=>(f δ).bind λp=>(fs p.2).map λq=>(.d p.1::q.1,q.2)
noncomputable def slot(δ:Ev)(j:Nat):Option cY:=match δ[j]? with
 |some (.va d)=>b0 d
 |some (.ow d)=>b0 d
 |_=>b4
def aO(j:Nat)(fs:EB):EB:=λδ=>(slot δ j).bind λ_=>(fs δ).map λq=>(.o j::q.1,q.2)
def cN:PA X [] (TAG K ml ba cB):=Z1.imp λσ H Q a=>by obtain⟨B,O,δ,d,xj,S,q,k⟩:=a;cases q;exact k [] H ⟨S,Fr.refl _ _,λ_=>aS.refl _,.nil⟩
def cS{fs:EB}(j:PE X a (TV K ml pa ba ba fa))(i:PA X es (TAG K ml ps fs))(hs:SE X a es:=by rfl):PA X (a::es) (TAG K ml (pa&&ps) (aE fa fs)):=(bV j i hs).imp λσ H Q f=>by obtain⟨B,O,δ,n,e,S,q,k⟩:=f;unfold aE at q;obtain⟨⟨x,b⟩,m,q⟩:=Ac.mp q;have q:((fs b).map λq=>(AV.d x::q.1,q.2))=b0 (n,e):=q;obtain⟨s,l,q⟩:=Am.mp q;cases q;refine⟨B,O,δ,x,b,S,m,λr H1 c=>⟨B,O,b,_,_,c.sta,l,λp o R2=>k _ o ⟨R2.sta,c.frm.trans R2.frm,λz=>?_,.d (c.rep.fr R2.frm (λa z=>.inr z) λa z=>.inr z) R2.rep⟩⟩⟩;obtain⟨h,g⟩:=(Ah _ _).mp z;exact(c.pur h).trans (R2.pur g)
def J7{j:Nat}{d:cY}(h:slot δ j=b0 d):δ[j]?=b0 (.va d)∨δ[j]?=b0 (.ow d):=by
 unfold slot at h;split at h;cases h;exact .inl (by assumption);cases h;exact .inr (by assumption);cases h
def aI.slot(S:aI K ml B O H σ δ){j:Nat}{d:cY}(h:slot δ j=b0 d):∃v,σ[j]?=b0 (b0 v):=by
 rcases J7 h with h|h;obtain⟨v,e,_⟩:=S.va j d h;exact⟨v,e⟩;obtain⟨a,_,e,_⟩:=S.ow j d h;exact⟨_,e⟩
def bO{fs:EB}{j:Nat}(g:PE X a (KY j))(f:PA X es (TAG K ml ps fs))(hs:SE X a es:=by rfl):PA X (a::es) (TAG K ml ps (aO j fs)):=(bV g f hs).imp λσ H Q c=>by obtain⟨B,O,δ,l,b,S,q,k⟩:=c;unfold aO at q;obtain⟨d,i,q⟩:=Ac.mp q;have q:((fs δ).map λq=>(AV.o j::q.1,q.2))=b0 (l,b):=q;obtain⟨p,h,q⟩:=Am.mp q;cases q;obtain⟨v,e⟩:=S.slot i;exact⟨v,e,B,O,δ,_,_,S,h,λn m R2=>k _ m ⟨R2.sta,R2.frm,R2.pur,.o e R2.rep⟩⟩
theorem S9.length:∀{N:Ws->Prop}{vs:List V}{as:List AV},S9 K N H σ vs as->vs.length=as.length
 |_,_,_,.nil=>rfl
 |_,_,_,.d _ t=>congrArg (· +1) (S9.length t)
 |_,_,_,.o _ t=>congrArg (· +1) (S9.length t)
theorem S9.getD:∀{N:Ws->Prop}{vs:List V}{as:List AV}{i:Nat}{d:cY},S9 K N H σ vs as->as[i]?=b0 (.d d)->∃v,vs[i]?=b0 v/\bE K N H N v d
 |_,_,_,_,_,.nil,e=>by simp at e
 |_,_,_,0,_,.d h _,e=>by simp at e;subst e;exact⟨_,rfl,h⟩
 |_,_,_,0,_,.o h _,e=>by simp at e
 |_,_,_,i+1,_,.d _ t,e=>by obtain⟨u,b,a⟩:=S9.getD (i:=i) t (by simpa using e);exact⟨u,by simpa using b,a⟩
 |_,_,_,i+1,_,.o _ t,e=>by obtain⟨u,b,a⟩:=S9.getD (i:=i) t (by simpa using e);exact⟨u,by simpa using b,a⟩
theorem S9.getO:∀{N:Ws->Prop}{vs:List V}{as:List AV}{i j:Nat},S9 K N H σ vs as->as[i]?=b0 (.o j)->∃v,vs[i]?=b0 v/\σ[j]?=b0 (b0 v)
 |_,_,_,_,_,.nil,e=>by simp at e
 |_,_,_,0,_,.d h _,e=>by simp at e
 |_,_,_,0,_,.o h _,e=>by simp at e;subst e;exact⟨_,rfl,h⟩
 |_,_,_,i+1,_,.d _ t,e=>by obtain⟨u,b,a⟩:=S9.getO (i:=i) t (by simpa using e);exact⟨u,by simpa using b,a⟩
 |_,_,_,i+1,_,.o _ t,e=>by obtain⟨u,b,a⟩:=S9.getO (i:=i) t (by simpa using e);exact⟨u,by simpa using b,a⟩
def argD(δ:Ev):AV->Option cY
 |.d d=>b0 d
 |.o j=>slot δ j
noncomputable def U7(δ:Ev):List AV->Option (List cY)
 |[]=>b0 []
 |a::c=>(argD δ a).bind λd=>(U7 δ c).map λb=>d::b
theorem IU:∀{as:List AV}{ds:List cY},U7 δ as=b0 ds->as.length=ds.length/\∀(i:Nat) (d:cY),ds[i]?=b0 d->∃a,as[i]?=b0 a/\argD δ a=b0 d
 |[],ds,h=>by cases h;exact⟨rfl,λi d e=>by simp at e⟩
 | a :: as,ds,h => by
  unfold U7 at h;obtain⟨d,j,h⟩:=Ac.mp h;cases c:U7 δ as with
  |none=>simp[c]at h
  |some n=>
   simp only[An,c]at h;cases h;obtain⟨l,g⟩:=IU c;refine⟨by simp[l],λi e f=>?_⟩;cases i with
   |zero=>cases f;exact⟨a,rfl,j⟩
   |succ i=>
    obtain⟨b,m,k⟩:=g i e (by simpa using f);exact⟨b,by simpa using m,k⟩
def TC:List AV->List Nat
 |[]=>[]
 |.d _::a=>TC a
 |.o j::a=>j::TC a
theorem OH:∀{as:List AV}{i j:Nat},as[i]?=b0 (.o j)->j∈TC as
 |[],_,_,e=>by simp at e
 |.d _::as,0,j,e=>by simp at e
 |.o k::as,0,j,e=>by simp at e;subst e;exact Ag
 |.d _::as,i+1,j,e=>OH (as:=as) (i:=i) (by simpa using e)
 |.o k::as,i+1,j,e=>Ai _ (OH (as:=as) (i:=i) (by simpa using e))
theorem Xn:∀{as:List AV}{j:Nat},j∈TC as->∃i:Nat,as[i]?=b0 (AV.o j)
 |[],_,h=>nomatch h
 |.d _::as,j,h=>by obtain⟨i,e⟩:=Xn (as:=as) h;exact⟨i+1,by simpa using e⟩
 | .o k :: as,j,h => by
  rcases Ak.mp h with e|e;exact⟨0,by rw[e];rfl⟩;obtain⟨i,e⟩:=Xn (as:=as) e;exact⟨i+1,by simpa using e⟩
theorem HC:∀{as:List AV}{i k j:Nat},(TC as).Nodup->as[i]?=b0 (.o j)->as[k]?=b0 (.o j)->i=k
 |[],_,_,_,_,e,_=>by simp at e
 |.d _::as,0,_,j,_,e,_=>by simp at e
 |.d _::as,_+1,0,j,_,_,e=>by simp at e
 |.d _::as,i+1,k+1,j,n,b,a=>congrArg (· +1) (HC (as:=as) n (by simpa using b) (by simpa using a))
 |.o x::as,0,0,j,_,_,_=>rfl
 |.o x::as,0,k+1,j,n,b,a=>by
  simp at b;subst b;have h:as[k]?=b0 (.o x):=by simpa using a
  exact absurd (OH h) (Ct.mp n).1
 |.o x::as,i+1,0,j,n,b,a=>by
  simp at a;subst a;have h:as[i]?=b0 (.o x):=by simpa using b
  exact absurd (OH h) (Ct.mp n).1
 |.o x::as,i+1,k+1,j,n,b,a=>congrArg (· +1) (HC (as:=as) (Ct.mp n).2 (by simpa using b) (by simpa using a))
def AQ(δ:Ev)(as:List AV)(i:Nat):Bool:=match as[i]? with
 |some (.o j)=>match δ[j]? with
  |some (.ow _)=>ba
  |_=>bb
 |_=>bb
noncomputable def VQ(a:List Nat):List AV->Nat->Bool
 |[],_=>ba
 |.d _::b,i=>VQ a b (i+1)
 |.o _::b,i=>decide (i∈a)&&VQ a b (i+1)
theorem RF{a:List Nat}:∀{as:List AV}{k i j:Nat},VQ a as k=ba->as[i]?=b0 (.o j)->k+i∈a
 |[],_,_,_,_,e=>by simp at e
 |.d _::as,k,0,j,h,e=>by simp at e
 |.o _::as,k,0,j,h,e=>by simp only[VQ,Ah,decide_eq_true_eq]at h;exact h.1
 |.d _::as,k,i+1,j,h,e=>by
  have:=RF (as:=as) (k:=k+1) (i:=i) (j:=j) h (by simpa using e)
  rwa[show k+(i+1)=k+1+i by lia]
 |.o _::as,k,i+1,j,h,e=>by
  simp only[VQ,Ah]at h;have:=RF (as:=as) (k:=k+1) (i:=i) (j:=j) h.2 (by simpa using e);rwa[show k+(i+1)=k+1+i by lia]
def SI:cY->Bool
 |.lst a=>TJ a
 |.dct _ a=>TJ a
 |.dcn _ a=>TJ a
 |_=>bb
def TY.kids{N N':Ws->Prop}{a:Ws}(w:TY K N H a d)(h:SI d=ba):TY K N' H a d:=by
 cases w with
 |lst q r=>exact .lst q (r.hard h)
 |dct q r=>exact .dct q (r.hard h)
 |dcn q r=>exact .dcn q (r.hard h)
noncomputable def US(as:List AV):List Nat->List cY->Ev->Ev
 |i::a,o::os,δ=>match as[i]? with
  |some (.o j)=>US as a os (δ.set j (.ow o))
  |_=>US as a os δ
 |_,_,δ=>δ
theorem PX{as:List AV}:∀{is:List Nat}{os:List cY}{δ:Ev},(US as is os δ).length=δ.length
 |[],_,_=>rfl
 |_::_,[],_=>rfl
 |i::is,o::os,δ=>by
  unfold US;split;rw[PX,Ce];rw[PX]
theorem MH{as:List AV}:∀{is:List Nat}{os:List cY}{δ:Ev}(j:Nat),is.length=os.length->j<δ.length->(∃(k i:Nat) (o:cY),is[k]?=b0 i/\os[k]?=b0 o/\as[i]?=b0 (AV.o j)/\(US as is os δ)[j]?=b0 (Sl.ow o))∨((∀i∈is,as[i]? ≠b0 (AV.o j))/\(US as is os δ)[j]?=δ[j]?)
 |[],[],δ,j,_,_=>.inr ⟨(λi h=>nomatch h),rfl⟩
 | i :: is,o :: os,δ,j,hl,g => by
  unfold US;split;rename_i n p;rcases MH (is:=is) (os:=os) (δ:=δ.set n (.ow o)) j (by simpa using hl) (by rw[Ce];exact g)with⟨k,b,f,e,a,m,l⟩|⟨e,a⟩;exact .inl ⟨k+1,b,f,by simpa using e,by simpa using a,m,l⟩;by_cases c:j=n;subst c;rw[Dy g]at a;exact .inl ⟨0,i,o,rfl,rfl,p,a⟩;rw[Ci (Dg c)]at a;refine .inr ⟨λb d=>?_,a⟩;rcases Ak.mp d with z|z;rw[z,p];intro w;cases w;exact c rfl;exact e b z;rename_i q;rcases MH (is:=is) (os:=os) (δ:=δ) j (by simpa using hl) g with⟨k,b,f,e,a,m,l⟩|⟨e,a⟩;exact .inl ⟨k+1,b,f,by simpa using e,by simpa using a,m,l⟩;refine .inr ⟨λb d => ?_,a⟩;rcases Ak.mp d with z|z;rw[z];exact λw=>q j w;exact e b z
def TZ(a:List Nat)(as:List AV)(δ:Ev):Bool:=a.all (AQ δ as)&&decide (TC as).Nodup
def U1(a:List Nat)(as:List AV)(r:cY)(os:List cY):Bool:=(VQ a as 0 || r.hard)&&(VQ a as 0 || os.all SI)&&decide (a.length=os.length)
def cM(n:Nat)(a:List Nat)(F:aP)(fs:EB):VF:=λδ=>(fs δ).bind λp=>(U7 p.2 p.1).bind λb=>if b.length=n/\TZ a p.1 p.2=ba then(F b).bind λq=>if U1 a p.1 q.1 q.2=ba then b0 (q.1,US p.1 a q.2 p.2)else b4 else b4
def rD{n:Nat}{f:List Nat}{F:aP}{fs:EB}{Q:VK}(h:TV K ml (ps && f.isEmpty) ba ba (cM n f F fs) σ H Q):Xv (spV K f n F) [] E0 (TAG K ml ps fs) σ H Q:=by
 obtain⟨B,O,δ,d,T,S,q,k⟩:=h;unfold cM at q;obtain⟨⟨l,c⟩,h1,q⟩:=Ac.mp q;have q:((U7 c l).bind λds=>if ds.length=n/\TZ f l c=ba then(F ds).bind λq=>if U1 f l q.1 q.2=ba then b0 (q.1,US l f q.2 c)else b4 else b4)=b0 (d,T):=q;obtain⟨ds,h2,q⟩:=Ac.mp q;have q:(if ds.length=n/\TZ f l c=ba then(F ds).bind λq=>if U1 f l q.1 q.2=ba then b0 (q.1,US l f q.2 c)else b4 else b4)=b0 (d,T):=q;split at q;rename_i hc;obtain⟨⟨r,os⟩,h3,q⟩:=Ac.mp q;have q:(if U1 f l r os=ba then b0 (r,US l f os c)else b4)=b0 (d,T):=q;split at q;rename_i Z;cases q;obtain⟨hn,hc⟩:=hc;simp only[TZ,Ah,decide_eq_true_eq,Eo]at hc;simp only[U1,Ah,decide_eq_true_eq]at Z;obtain⟨hmu,hnd⟩:=hc;obtain⟨⟨i8,iu⟩,hlen⟩:=Z;refine⟨B,O,δ,l,c,S,h1,λX H1 R=>?_⟩;show spV K f n F (X++[]) H1 Q E0;rw[Fm];obtain⟨hal,hag⟩:=IU h2;have M:∀i∈f,∃j a x,l[i]?=b0 (.o j)/\c[j]?=b0 (.ow x)/\O j=b0 a/\X[i]?=b0 (.ref a)/\TY K (Nn B O) H1 a x:=λi s=>by
  have:=hmu i s
  unfold AQ at this;split at this;rename_i j ej;split at this;rename_i x ex;obtain⟨a,g,p,w⟩:=R.sta.ow j x ex;obtain⟨v,t,D⟩:=R.rep.getO ej;rw[p]at D;cases D;exact⟨j,a,x,ej,ex,g,t,w⟩;cases this;cases this
 have hP:∀a,KM f X a->∃i j,i∈f/\l[i]?=b0 (.o j)/\O j=b0 a:=λa q0=>by obtain⟨i,s,e⟩:=q0;obtain⟨j,a',x,g,_,p,t,_⟩:=M i s;rw[e]at t;cases t;exact⟨i,j,s,g,p⟩
 have U:∀a,KM f X a->OA O a:=λa h=>by obtain⟨i,j,_,_,e⟩:=hP a h;exact⟨j,e⟩
 have C:∀a,Zp (λa=>Nn B O a/\∀j∈TC l,O j≠b0 a) f X a->Nn B O a:=λa h=>by
  rcases h with h|h;exact h.1;exact .inr (U a h)
 refine⟨λa=>Nn B O a/\∀j∈TC l,O j≠b0 a,ds,_,os,hn,⟨by rw[<-hal,R.rep.length],λi s=>?_,λi x s e=>?_,λi x s e=>?_,λi j a s hj g p=>?_,λa h=>R.sta.nin h.1⟩,h3,λv H2 f2 w2 r2=>?_⟩;obtain⟨j,a,x,g,_⟩:=M i s;rw[<-hal];exact(Ap.mp g).1;obtain⟨a,g,p⟩:=hag i x e;cases a with
 |d y=>
  cases p;obtain⟨v,t,r⟩:=R.rep.getD g;exact⟨v,t,r.mono C C⟩
 |o j=>
  obtain⟨v,t,D⟩:=R.rep.getO g;refine⟨v,t,?_⟩;rcases J7 p with I|I;obtain⟨v',G,r⟩:=R.sta.va j x I;rw[D]at G;cases G;exact r.mono C C;obtain⟨a,P,G,w⟩:=R.sta.ow j x I;rw[D]at G;cases G;refine(w.mono C).rep λz=>?_;rcases z with z|z
  exact z.2 j (OH g) P;obtain⟨Y,u,m,N,V⟩:=hP a z;have:j=u:=R.sta.inj j u a P V
  subst this;have:=HC hnd g N;subst this;exact s m
 obtain⟨a,g,p⟩:=hag i x e;obtain⟨j,b,y,t,D,I,G,w⟩:=M i s;rw[t]at g;cases g;have P:slot c j=b0 y:=by unfold slot;rw[D]
 have p:slot c j=b0 x:=p;rw[P]at p;cases p;exact⟨b,G,w.mono C,λz=>z.2 j (OH t) I⟩;obtain⟨j1,b1,_,t,_,D,I,_⟩:=M i s;obtain⟨j2,b2,_,G,_,P,N,_⟩:=M j hj;rw[g]at I;cases I;rw[p]at N;cases N;have:j1=j2:=R.sta.inj j1 j2 a D P;subst this;exact HC hnd t G;have S2:aI K ml B O H2 σ (US l f os c):=by
  refine R.sta.call PX (λj=>?_) f2 U;by_cases hj:j<c.length;rcases MH (as:=l) (is:=f) (os:=os) (δ:=c) j hlen hj with⟨kk,i,o,g,p,t,D⟩|⟨g,p⟩;obtain⟨u,a,x,I,_,G,P,_⟩:=M i (Fg g);rw[t]at I;cases I;have w:=w2 kk i a o g P p;refine .inr ⟨a,o,G,D,?_⟩;rcases(Ih _ _).mp iu with z|z;refine w.mono λb Z => ?_;by_cases E:∃u∈TC l,O u=b0 b;obtain⟨u,A,N⟩:=E;obtain⟨Y,V⟩:=Xn A;have m:=RF z V;rw[Gm]at m;obtain⟨j'',a'',_,L,_,J,W,_⟩:=M Y m;rw[V]at L;cases L;rw[N]at J;cases J;exact .inr ⟨Y,m,W⟩;exact .inl ⟨Z,λu A e=>E ⟨u,A,e⟩⟩;exact w.kids (Eo.mp z o (Fg p));refine .inl ⟨p,λa ea hPa => ?_⟩;obtain⟨i,u,s,t,D⟩:=hP a hPa;have:j=u:=R.sta.inj j u a ea D;subst this;exact g i s t;refine .inl ⟨?_,λa ea => ?_⟩;rw[Dd (by rw[PX];lia),Dd (by lia)];obtain⟨x,ex⟩:=R.sta.dom j a ea;exact absurd (Ap.mp ex).1 hj
 refine k v H2 ⟨S2,R.frm.trans (f2.mono U),λz=>?_,?_⟩;obtain⟨z1,z2⟩:=(Ah _ _).mp z;refine(R.pur z1).trans λb o e=>f2 b o e λw=>?_;obtain⟨i,s,_⟩:=w;rw[Pb.mp z2]at s;cases s;rcases(Ih _ _).mp i8 with z|z;have hN : ∀ a,Nn B O a -> Zp (λa => Nn B O a /\ ∀ j ∈ TC l,O j ≠ b0 a) f X a := λb Z => by
  by_cases E:∃u∈TC l,O u=b0 b;obtain⟨u,A,N⟩:=E;obtain⟨Y,V⟩:=Xn A;have m:=RF z V;rw[Gm]at m;obtain⟨j'',a'',_,L,_,J,W,_⟩:=M Y m;rw[V]at L;cases L;rw[N]at J;cases J;exact .inr ⟨Y,m,W⟩;exact .inl ⟨Z,λu A e=>E ⟨u,A,e⟩⟩
 exact r2.mono hN hN;exact r2.hard z;cases q;cases q
def mZ{x:Wy}{d j n:Nat}{qs:List Wy}{a:List Nat}{F:aP}{p:Ws}{f:Pos}{fs:EB}(o:X.K=K)(D:Def X.prog X.w K X.mg X.base x d qs (spV K a n F) p)(g:WR j X.A)(i:d<=j)(k:Gl X x)(m:PA X (e::es) (TAG K ml ps fs))(c:ND x:=by decide)(l:SE X e es:=by rfl)(b:(Hk pos (Bi es X.env)).any (·.1)=bb:=by rfl):PE X (.Call (.Name x f) (e::es) [] pos) (TV K ml (ps&&a.isEmpty) ba ba (cM n a F fs)):=by subst o;exact(jq D g i k m c l b).imp λ_ _ _ h=>rD h
end
section
variable{X:Cx}{K:Au}{ml:List Nat}{e a b c:Ww}{es:List Ww}{pi pt pe pu bt bi ps bs:Bool}{f:VF}{B B':Bs}{O:Nat->Option Ws}{H H0 H1 H':Hp}{σ:St}{δ xj:Ev}{v:V}{d:cY}{p:Ws}{pos:Pos}{ix:List Nat}{nl:Nat}
section
variable{D:Ws}{kp:List (V×cY)}{xh:List V}{j i:Nat}{fi:VI}{Q:VK}{Y:Cx}
def b7(ix:List Nat)(δ:Ev):Ev:=ix.map λi=>(δ[i]?).getD .no
def HI(nl:Nat):Ev:=Cb nl Sl.no
noncomputable def Z2(n nl:Nat)(e:VG)(c:VB)(f:VF):List cY->List cY->Ev->Option (List cY×Ev)
 |[],a,δ=>b0 (a,δ)
 |d::r,a,δ=>(e d (δ++HI nl)).bind λb=>(c b).bind λp=>if p.1=ba then(f p.2).bind λq=>if a.length<16777216 then Z2 n nl e c f r (a++[q.1]) (q.2.take n)else b4 else Z2 n nl e c f r a (p.2.take n)
noncomputable def bD:List Nat->Ev->Ev->Ev
 |i::b,s::a,δ=>match s with
  |.ow d=>bD b a (δ.set i (.ow d))
  |_=>bD b a δ
 |_,_,δ=>δ
def bM(ix:List Nat)(nl:Nat)(fi:VI)(b:VG)(a:VB)(c:VF):VF:=λδ=>(fi δ).bind λp=>(Z2 ix.length nl b a c p.1 [] (b7 ix p.2)).map λq=>(.lst q.1,bD ix q.2 p.2)
def Y3:VB:=λδ=>b0 (ba,δ)
theorem N7:∀{ix:List Nat}{ss δ:Ev},(bD ix ss δ).length=δ.length
 |[],_,_=>rfl
 |_::_,[],_=>rfl
 |i::a,s::ss,δ=>by
  cases s<;>simp only[bD]<;>rw[N7]<;>try rw[Ce]
theorem RK:∀{ix:List Nat}{ss δ:Ev}(i:Nat),i<δ.length->ix.length=ss.length->(∃(j:Nat) (d:cY),ix[j]?=b0 i/\ss[j]?=b0 (Sl.ow d)/\(bD ix ss δ)[i]?=b0 (Sl.ow d))∨((∀(j:Nat) (d:cY),ix[j]?=b0 i->ss[j]? ≠b0 (Sl.ow d))/\(bD ix ss δ)[i]?=δ[i]?)
 |[],ss,δ,i,f,hl=>.inr ⟨(λj d h=>by simp at h),rfl⟩
 |k::g,[],δ,i,f,hl=>by cases hl
 | k :: g,s :: ss,δ,i,f,hl => by
  have JO:g.length=ss.length:=by simpa using hl
  cases s with
  |ow d=>
   simp only[bD];rcases RK (ix:=g) (ss:=ss) (δ:=δ.set k (.ow d)) i (by rw[Ce];exact f) JO with⟨j,c,b,a,l⟩|⟨b,a⟩;exact .inl ⟨j+1,c,by simpa using b,by simpa using a,l⟩;by_cases m:i=k;subst m;rw[Dy f]at a;exact .inl ⟨0,d,rfl,rfl,a⟩;rw[Ci (Dg m)]at a;refine .inr ⟨λj c e=>?_,a⟩;cases j with
   |zero=>cases e;exact absurd rfl m
   |succ j=>simpa using b j c (by simpa using e)
  |va d=>
   simp only[bD];rcases RK (ix:=g) (ss:=ss) (δ:=δ) i f JO with⟨j,c,b,a,l⟩|⟨b,a⟩;exact .inl ⟨j+1,c,by simpa using b,by simpa using a,l⟩;refine .inr ⟨λj c e => ?_,a⟩;cases j with
   |zero=>simp
   |succ j=>simpa using b j c (by simpa using e)
  |no=>
   simp only[bD];rcases RK (ix:=g) (ss:=ss) (δ:=δ) i f JO with⟨j,c,b,a,l⟩|⟨b,a⟩;exact .inl ⟨j+1,c,by simpa using b,by simpa using a,l⟩;refine .inr ⟨λj c e => ?_,a⟩;cases j with
   |zero=>simp
   |succ j=>simpa using b j c (by simpa using e)
def Oc(ix:List Nat)(O:Nat->Option Ws):Nat->Option Ws:=λj=>(ix[j]?).bind O
def Bc(ix:List Nat)(B:Bs)(O:Nat->Option Ws)(H0:Hp)(D:Ws)(kp:List (V×cY)):Bs:=
 ⟨λa=>(B.Z a∨a=D)∨∃i,O i=b0 a/\i∉ix,OA (Oc ix O),H0,Oc ix O,kp⟩
def L4:∀a,Nn (Bc ix B O H0 D kp) (Oc ix O) a->Nn B O a∨a=D:=λa h=>by
 rcases h with((h|h)|⟨i,h,_⟩)|⟨j,h⟩;exact .inl (.inl h);exact .inr h;exact .inl (.inr ⟨i,h⟩);unfold Oc at h;cases q:ix[j]? with
 |none=>rw[q]at h;cases h
 |some i=>rw[q]at h;exact .inl (.inr ⟨i,h⟩)
def DC:∀a,Nn (B.add D) O a->Nn (Bc ix B O H0 D kp) (Oc ix O) a:=λa h=>by
 rcases h with h|⟨i,h⟩;exact .inl (.inl h);by_cases b:i∈ix;obtain⟨j,c⟩:=Px.mp b;exact .inr ⟨j,by unfold Oc;rw[c];exact h⟩;exact .inl (.inr ⟨i,h,b⟩)
def aI.withKp(S:aI K ml B O H σ δ)(h:∀p∈kp,bE K (Nn B O) H (Nn B O) p.1 p.2):aI K ml {B with kp:=kp} O H σ δ:=
 ⟨S.len,S.va,S.ow,S.dom,S.inj,S.old,S.zin,S.frm,S.par,S.pin,h⟩
def aI.writeZ{o:HO}(S:aI K ml B O H σ δ)(k:B.Z D)(hl:H D=b0 (.lst xh))(m:B.H0 D=b4):aI K ml B O (Z8 H D o) σ δ:=by
 have j:Fr (λb=>b=D) H (Z8 H D o):=λb u q n=>by
  by_cases c:b=D;subst c;rw[hl]at q;cases q;exact absurd (n rfl) λz=>z;rw[a8 c];exact q
 have g:∀b,b=D->Nn B O b:=λb z=>.inl (z▸k);have f:∀b,(∃u,H b=b0 u)->∃u,Z8 H D o b=b0 u:=λb q0=>by
  obtain⟨u,q⟩:=q0;by_cases c:b=D;exact⟨o,by rw[c];exact b6⟩;exact⟨u,by rw[a8 c];exact q⟩
 refine⟨S.len,λi d q=>?_,λi d q=>?_,S.dom,S.inj,S.old,λb h=>f b (S.zin b h),λb u q n=>?_,S.par,λb h=>f b (S.pin b h),λp l=>(S.kep p l).fr j g g⟩;obtain⟨v,e,r⟩:=S.va i d q;exact⟨v,e,r.fr j g g⟩;obtain⟨a,e,s,w⟩:=S.ow i d q;exact⟨a,e,s,w.fr j g λz=>(S.old i a e).1 (z▸k)⟩;have c : b ≠ D := λz => by rw [z,m]at q;cases q
 rw[a8 c];exact S.frm b u q n
def JE{s:Sl}(h:(b7 ix δ++HI nl)[j]?=b0 s):(∃i,ix[j]?=b0 i/\s=(δ[i]?).getD .no)∨s=.no:=by
 unfold b7 HI at h;by_cases a:j<ix.length;rw [Ax (by simpa using a),Di]at h;cases q:ix[j]? with
 |none=>rw[q]at h;cases h
 |some i=>rw[q]at h;cases h;exact .inl ⟨i,rfl,rfl⟩
 rw [Dk (by simpa using a),Fb]at h;split at h;cases h;exact .inr rfl;cases h
def EK{v:V}(a:ix[j]?=b0 i)(h:σ[i]?=b0 (b0 v)):(Y8 ix σ++Cb nl b4)[j]?=b0 (b0 v):=by have b:j<ix.length:=(Ap.mp a).1;unfold Y8;rw[Ax (by simpa using b),Di,a];show b0 ((σ[i]?).join)=_;rw[h];rfl
def aI.inner(S:aI K ml B O H0 σ δ)(c:H0 D=b4)(y:ix.Nodup){t:List (V×cY)}(x:∀p∈t,bE K (Nn B O) H0 (Nn B O) p.1 p.2):
  aI K (Ao ix.length) (Bc ix B O H0 D t) (Oc ix O) (Z8 H0 D (.lst [])) (Y8 ix σ++Cb nl b4) (b7 ix δ++HI nl) where
 len:=by simp[Y8,b7,HI]
 va := λj d e => by
  rcases JE e with⟨i,b,q⟩|q;have q:δ[i]? =b0 (.va d):=by
   cases w:δ[i]? with
   |none=>rw[w]at q;cases q
   |some s=>rw[w]at q;rw[show s=.va d from q.symm]
  obtain⟨v,f,r⟩:=S.va i d q;exact⟨v,EK b f,(r.away c _ _ L4 L4).same (cQ c)⟩;cases q
 ow := λj d e => by
  rcases JE e with⟨i,b,q⟩|q;have q:δ[i]? =b0 (.ow d):=by
   cases w:δ[i]? with
   |none=>rw[w]at q;cases q
   |some s=>rw[w]at q;rw[show s=.ow d from q.symm]
  obtain⟨a,f,g,w⟩:=S.ow i d q;refine⟨a,by unfold Oc;rw[b];exact f,EK b g,?_⟩;cases w with
  |lst m r=>exact .lst (cQ c _ _ m) ((r.away c _ _ L4).same (cQ c))
  |dct m r=>exact .dct (cQ c _ _ m) ((r.away c _ _ L4).same (cQ c))
  |dcn m r=>exact .dcn (cQ c _ _ m) ((r.away c _ _ L4).same (cQ c))
  cases q
 dom:=λj a e=>by unfold Oc at e;obtain⟨i,b,e⟩:=Ac.mp e;obtain⟨d,q⟩:=S.dom i a e;refine⟨d,?_⟩;have C:j<ix.length:=(Ap.mp b).1;unfold b7;rw[Ax (by simpa using C),Di,b];show b0 ((δ[i]?).getD .no)=_;rw[q];rfl
 inj:=λj k a f g=>by
  unfold Oc at f g;cases b:ix[j]? with
  |none=>rw[b]at f;cases f
  |some i=>
   cases x:ix[k]? with
   |none=>rw[x]at g;cases g
   |some u=>
    rw[b]at f;rw[x]at g;have:i=u:=S.inj i u a f g;subst this;obtain⟨F,q1⟩:=Ap.mp b;obtain⟨E,q2⟩:=Ap.mp x;exact(Tg y).mp (q1.trans q2.symm)
 old:=λj a e=>by
  have l:=e;unfold Oc at l;cases b:ix[j]? with
  |none=>rw[b]at l;cases l
  |some i=>
   rw[b]at l;refine⟨λz=>?_,.inl ⟨j,e⟩⟩;rcases z with(z|z)|⟨u,z,n⟩;exact(S.old i a l).1 z;obtain⟨o,q⟩:=S.nin (.inr ⟨i,l⟩);rw[z,c]at q;cases q;have:i=u:=S.inj i u a l z
   subst this;exact n (Fg b)
 zin:=λa h=>by
  rcases h with(h|h)|⟨i,h,_⟩;obtain⟨o,q⟩:=S.zin a h;exact⟨o,cQ c _ _ q⟩;exact⟨_,by rw[h];exact b6⟩;obtain⟨o,q⟩:=S.nin (.inr ⟨i,h⟩);exact⟨o,cQ c _ _ q⟩
 frm:=(cQ c).fr
 par:=⟨λj a e=>by
  have e:(ix[j]?).bind O=b0 a:=e;cases b:ix[j]? with
  |none=>rw[b]at e;cases e
  |some i=>exact Bj.mpr (Ap.mp b).1,λj _=>rfl⟩
 pin:=λa q0=>by obtain⟨j,e⟩:=q0;unfold Oc at e;obtain⟨i,b,e⟩:=Ac.mp e;obtain⟨o,q⟩:=S.nin (.inr ⟨i,e⟩);exact⟨o,cQ c _ _ q⟩
 kep:=λp A=>((x p A).away c _ _ L4 L4).same (cQ c)
def aI.turn{l:Nat->Option Ws}{f:St}{n:Nat}{m:St}(S:aI K (Ao n) B l H f δ)(C:∀j,n<=j->B.mu j=b4)(x:m.length=n)(o:f.take n=m)(D:n<=δ.length):aI K (Ao n) B B.mu H (m++Cb nl b4) (δ.take n++HI nl):=by
 have z:∀j,j<n->l j=B.mu j:=λj b=>S.par.2 j (Bj.mpr b);have c:∀j a,B.mu j=b0 a->l j=b0 a:=λj a e=>by rw[z j (Bj.mp (S.par.1 j a e))];exact e
 have g:∀a,Nn B B.mu a->Nn B l a:=λa h=>by
  rcases h with h|⟨j,h⟩;exact .inl h;exact .inr ⟨j,c j a h⟩
 have y:∀(j:Nat) (s:Sl),(δ.take n++HI nl)[j]?=b0 s->(j<n/\δ[j]?=b0 s)∨s=.no:=λj s h=>by
  have hl:(δ.take n).length=n:=by rw[Cj];lia
  by_cases b:j<n;rw [Ax (by rw [hl];exact b),Dz b]at h;exact .inl ⟨b,h⟩;unfold HI at h;rw[Dk (by rw[hl];lia),Fb]at h;split at h;cases h;exact .inr rfl;cases h
 have u:∀(j:Nat) (v:V),j<n->f[j]?=b0 (b0 v)->(m++Cb nl b4)[j]?=b0 (b0 v):=λj v b e=>by rw[Ax (by rw[x];exact b),<-o,Dz b];exact e
 refine⟨?_,λj d e=>?_,λj d e=>?_,λj a e=>?_,λj k a i t=>S.inj j k a (c j a i) (c k a t),λj a e=>S.old j a (c j a e),S.zin,S.frm,⟨S.par.1,λj _=>rfl⟩,S.pin,λp A=>(S.kep p A).mono g g⟩;simp[x,HI,Cj];lia;rcases y j _ e with⟨b,e⟩|e;obtain⟨v,i,r⟩:=S.va j d e;exact⟨v,u j v b i,r.mono g g⟩;cases e;rcases y j _ e with⟨b,e⟩|e;obtain⟨a,i,t,w⟩:=S.ow j d e;exact⟨a,(z j b)▸i,u j _ b t,w.mono g⟩;cases e;have b:=Bj.mp (S.par.1 j a e);obtain⟨d,q⟩:=S.dom j a (c j a e);refine⟨d,?_⟩;rw[Ax (by rw[Cj];lia),Dz b];exact q
def W1(ix:List Nat)(σ:St):(Y8 ix σ).length=ix.length:=by simp[Y8]
def KA{a:St}(hl:ix.length<=a.length)(h:∀i∈Ao ix.length,a[i]?=(Y8 ix σ++Cb nl b4)[i]?):a.take ix.length=Y8 ix σ:=by
 refine Io λj=>?_;by_cases b:j<ix.length;rw[Dz b,h j (Bj.mpr b),Ax (by rw[W1];exact b)];rw[Dd (by rw[Cj];lia),Dd (by rw[W1];lia)]
def eA{a:St}(m3:∀i∈Ao ix.length,a[i]?=(Y8 ix σ++Cb nl b4)[i]?):ix.length<=a.length:=by
 by_cases e:ix.length=0;lia;have b : ix.length-1 < ix.length := by lia
 have:=m3 (ix.length-1) (Bj.mpr b)
 have c:(Y8 ix σ++Cb nl b4)[ix.length-1]? ≠b4:=by rw[Ax (by rw[W1];exact b)];simp[Y8,b]
 rw[<-this]at c;have d:ix.length-1<a.length:=Nat.lt_of_not_le λz=>c (List.getElem?_eq_none_iff.mpr z);lia
def oE(K:Au)(J:It)(a:List (V×cY))(ds:List cY)(H0:Hp)(b:Bool):Prop:=∀(N:Ws->Prop) (H:Hp),(∀p∈a,bE K N H N p.1 p.2)->(b=ba->aS H0 H)->
 (∀(i:Nat) (d:cY),ds[i]?=b0 d->J.go i H/\∀x H',J.yld i H x H'->aS H H'/\bE K N H' N x d)/\J.stop ds.length H
inductive TIVq(K:Au)(ml:List Nat)(pu b:Bool)(f:VI)(σ:St)(H:Hp)(R:It->Hp->Prop):Prop
 |mk (B:_) (O:_) (δ:_) (ds:_) (xj:_) (h0:aI K ml B O H σ δ) (h1:f δ=b0 (ds,xj)) (h2:∀J kps H',aI K ml {B with kp:=kps++B.kp} O H' σ xj->Fr (OA O) H H'->(pu=ba->aS H H')->oE K J kps ds H' b->R J H'):TIVq K ml pu b f σ H R
def EM{B:Bs}{O:Nat->Option Ws}{H H0 H1:Hp}{σ:St}{xk c:Ev}{g:List (V×cY)}{res:List cY}{pi pr:Bool}{t:St}(m:aI K ml {B with kp:=g++B.kp} O H0 σ xk)(u:H0 D=b4)(Q:Fr (OA O) H H0)(L:pi=ba->aS H H0)(s:aI K (Ao ix.length) (Bc ix B O H0 D (g++xh.zip res)) (Oc ix O) H1 t (c++HI nl))(U:xh.length=res.length)(h:c.length=ix.length)(l:H1 D=b0 (.lst xh))(T:pr=ba->aS H0 H1):ResN K ml B O H σ (pi&&pr) H1 (bD ix c xk) D (.lst res):=by
 have G:Fr (OA (Oc ix O)) H0 H1:=s.frm;have k:∀a,OA (Oc ix O) a->OA O a:=λa q0=>by
  obtain⟨j,e⟩:=q0;unfold Oc at e;cases d:ix[j]? with
  |none=>rw[d]at e;cases e
  |some i=>rw[d]at e;exact⟨i,e⟩
 have SL:=m.unkeep.laid (o:=.lst xh) u;have P:Fr (OA (Oc ix O)) (Z8 H0 D (.lst xh)) H1:=λb o e n=>by
  by_cases E:b=D;subst E;rw[b6]at e;cases e;exact l;rw[a8 E]at e;exact G b o e n
 refine⟨SL.call (N7) (λi=>?_) P k,Q.trans (G.mono k),λz=>?_,.lst l (UD U λp M=>(s.kep p (Be _ M)).mono DC DC),m.unkeep.new u,m.fresh u⟩;by_cases F:i<xk.length;rcases RK (ix:=ix) (ss:=c) (δ:=xk) i F h.symm with⟨j,x,A,r,S⟩|⟨A,r⟩;have R:(c++HI nl)[j]? =b0 (.ow x):=by rw[Ax (Ap.mp r).1];exact r
 obtain⟨a,y,_,w⟩:=s.ow j x R;refine .inr ⟨a,x,?_,S,w.mono DC⟩;unfold Oc at y;rw[A]at y;exact y;refine .inl ⟨r,λa v ⟨j,f⟩ => ?_⟩;obtain⟨x,q⟩:=s.dom j a f;unfold Oc at f;cases d:ix[j]? with
 |none=>rw[d]at f;cases f
 |some C=>
  rw[d]at f;have:i=C:=m.inj i C a v f;subst this;have N:j<c.length:=by rw[h];exact(Ap.mp d).1
  rw[Ax N]at q;exact A j x d q
 refine .inl ⟨?_,λa v => ?_⟩;rw[Dd (by rw[N7];lia),Dd (by lia)];obtain⟨x,q⟩:=m.dom i a v;exact absurd (Ap.mp q).1 F;obtain⟨J,I⟩:=(Ah _ _).mp z;exact(L J).trans (T I)
def F6{U:VG}{M:VB}{W:VF}(hnd:ix.Nodup)(h:TN K ml (pi&&pt&&pe) (bM ix nl fi U M W) σ H Q):Xp ix nl (TIVq K ml pi (pt&&pe) fi) (TGV K (Ao ix.length) U) (TB K (Ao ix.length) pt M) (TV K (Ao ix.length) pe ba ba W) σ H Q:=by
 obtain⟨B,O,δ,d,xl,S,q,k⟩:=h;unfold bM at q;obtain⟨⟨r,t⟩,h1,q⟩:=Ac.mp q;have q:((Z2 ix.length nl U M W r [] (b7 ix t)).map λq=>(cY.lst q.1,bD ix q.2 t))=b0 (d,xl):=q;obtain⟨⟨N,I⟩,h2,q⟩:=Am.mp q;cases q;refine⟨B,O,δ,r,t,S,h1,λJ f H0 S0 f0 p0 wk D G=>?_⟩;have hDO:∀j,Oc ix O j≠b0 D:=λj e=>by unfold Oc at e;obtain⟨i,hi,e⟩:=Ac.mp e;obtain⟨o,q⟩:=S0.nin (.inr ⟨i,e⟩);rw[G]at q;cases q
 have d8:∀kp j,ix.length<=j->(Bc ix B O H0 D kp).mu j=b4:=λkp j hj=>by show(ix[j]?).bind O=b4;rw[Dd hj];rfl
 refine⟨λi m H1=>m=r.length-i/\i<=r.length/\∃(l:List V) (g:List cY) (c:Ev),c.length=ix.length/\l.length=g.length∧
   aI K (Ao ix.length) (Bc ix B O H0 D (f++l.zip g)) (Oc ix O) H1 (Y8 ix σ++Cb nl b4) (c++HI nl)/\H1 D=b0 (.lst l)/\((pt&&pe)=ba->aS H0 H1)∧
   Z2 ix.length nl U M W (r.drop i) g c=b0 (N,I),
  r.length,⟨rfl,Ch _,[],[],b7 ix t,by simp[b7],rfl,by rw[So,Fm];exact S0.unkeep.inner G hnd λp F=>S0.kep p (Bw _ F),b6,λ_=>cQ G,h2⟩,?_⟩
 rintro i m H1 ⟨rfl,hi,l,g,c,hlc,Y,S1,T,bz,hc⟩;have w:=wk (Nn (Bc ix B O H0 D (f++l.zip g)) (Oc ix O)) H1 (λp F=>S1.kep p (Bw _ F)) bz;by_cases C:i<r.length;obtain ⟨go,yl⟩ := w.1 i r[i] (by simp [C]);rw[Em C]at hc;simp only[Z2]at hc;obtain⟨L,g1,hc⟩:=Ac.mp hc;obtain⟨⟨kk,s⟩,g2,hc⟩:=Ac.mp hc;refine .inr ⟨go,λH'=>∃(aw:List V) (g:List cY) (c:Ev),c.length=ix.length/\aw.length=g.length∧
  aI K (Ao ix.length) (Bc ix B O H0 D (f++aw.zip g)) (Oc ix O) H' (Y8 ix σ++Cb nl b4) (c++HI nl)/\H' D=b0 (.lst aw)/\((pt&&pe)=ba->aS H0 H')∧
  Z2 ix.length nl U M W (r.drop (i+1)) g c=b0 (N,I),λH' w'=>⟨r.length-(i+1),by lia,rfl,C,w'⟩,λx H2 hy=>?_⟩
 obtain⟨Z,rx⟩:=yl x H2 hy;refine⟨_,_,_,r[i],L,S1.same Z,rx,g1,λσ3 O3 S3 m3=>?_⟩;have A:=eA m3;have n:=KA A m3;refine⟨n,_,_,L,kk,s,S3,g2,λH4 E=>?_⟩;have R:H4 D=b0 (.lst l):=E.frm _ _ (Z _ _ T) λz=>by
  obtain⟨j,e⟩:=z;have:=(E.sta.old j D e).1;exact absurd (.inl (.inr rfl)) this
 have ln4:ix.length<=s.length:=by rw[<-E.sta.len];exact A
 cases kk with
 |false=>
  rw[if_neg Db]at hc;refine NI ⟨l,g,s.take ix.length,by rw[Cj];lia,Y,E.sta.turn (d8 _) (W1 ix σ) n ln4,R,λz=>?_,hc⟩;exact((bz z).trans Z).trans (E.pur ((Ah _ _).mp z).1)
 |true=>
  rw[if_pos rfl]at hc;obtain⟨⟨X,y⟩,g3,hc⟩:=Ac.mp hc;split at hc;rename_i hz;refine NJ ⟨_,_,s,X,y,E.sta,g3,λv H5 u=>?_⟩;have P:H5 D=b0 (.lst l):=u.frm _ _ R λz=>by
   obtain⟨j,e⟩:=z;have:=(u.sta.old j D e).1;exact absurd (.inl (.inr rfl)) this
  have ln5:ix.length<=y.length:=by rw[<-u.sta.len];exact A
  have S6:=u.sta.turn (nl:=nl) (d8 _) (W1 ix σ) n ln5;have hv:bE K (Nn (Bc ix B O H0 D (f++l.zip g)) (Oc ix O)) H5 (Nn (Bc ix B O H0 D (f++l.zip g)) (Oc ix O)) v X:=by
   have hN:∀a,Nn (Bc ix B O H0 D (f++l.zip g)) (Oc ix O) a->av (Bc ix B O H0 D (f++l.zip g)) O3 ba a:=λa h=>by
    rcases h with h|⟨j,h⟩;exact .inl h;refine .inr ⟨j,?_⟩;have hj:j∈Ao ix.length:=u.sta.par.1 j a h;rw[u.sta.par.2 j hj];exact h
   exact u.rep.mono hN hN
  have S7:=S6.withKp (kp:=f++(l++[v]).zip (g++[X])) λp F=>by
   rw[Me Y,<-Cr]at F;rcases Bq.mp F with z|z;exact S6.kep p z;rw[Aq.mp (show p∈[(v,X)] from z)];exact hv
  refine⟨l,P,by rw[Y,Dn];exact hz,n,l++[v],g++[X],y.take ix.length,by rw[Cj];lia,by simp[Y],?_,b6,λz=>?_,hc⟩;exact S7.writeZ (.inl (.inr rfl)) P G;intro b o e;have hb:b≠D:=λz=>by rw[z,G]at e;cases e
  rw[a8 hb];obtain⟨z1,z2⟩:=(Ah _ _).mp z;exact(((bz z).trans Z).trans ((E.pur z1).trans (u.pur z2))) b o e;cases hc
 have e : i = r.length := by lia
 subst e;rw[Hl]at hc;cases hc;refine .inl ⟨w.2,k D H1 ?_⟩;rw[Bool.and_assoc];exact EM S0 G f0 p0 S1 Y hlc T bz
def B0{d:VG}{c:VB}{g:VF}(b:ix.Nodup)(h:TN K ml (pi&&pt&&pe) (bM ix nl fi d c g) σ H Q):Xp ix nl (TIV K ml pi fi) (TGV K (Ao ix.length) d) (TB K (Ao ix.length) pt c) (TV K (Ao ix.length) pe ba ba g) σ H Q:=
 let ⟨B,O,δ,i,xj,S,e,k⟩:=F6 b h
 ⟨B,O,δ,i,xj,S,e,λJ a H' j f p w=>k J a H' j f p λN H1 z _=>w N H1 z⟩
def mM{Q:Bool->Hp->Prop}(h:TB K ml ba Y3 σ H Q):tYes σ H Q:=by obtain⟨B,O,δ,k,xj,S,q,w⟩:=h;cases q;exact w H (ResB.refl S)
def XG{t:VB}(h:PT Y c (TB K ml pt t)):PTs Y [c] (TB K ml pt t):=ky h
def ZG:PTs Y [] (TB K ml ba Y3):=λa s σ H Q I hw=>jF a s σ H Q I (mM hw)
def dO{o:Bool}(h:TX K ml (if o then xO f else xV f) σ H Q):TN K ml pu f σ H Q:=by
 obtain⟨B,O,δ,s,xj,S,q,k⟩:=h;have e:∃d,f δ=b0 (d,xj)/\s=if o then .ow d else .va d:=by
  cases o with
  |true=>
   have q:(f δ).map (λp=>(Sl.ow p.1,p.2))=b0 (s,xj):=q;cases a:f δ with
   |none=>rw[a]at q;cases q
   |some p=>rw[a]at q;cases q;exact⟨p.1,rfl,rfl⟩
  |false=>
   have q:(f δ).map (λp=>(Sl.va p.1,p.2))=b0 (s,xj):=q;cases a:f δ with
   |none=>rw[a]at q;cases q
   |some p=>rw[a]at q;cases q;exact⟨p.1,rfl,rfl⟩
 obtain⟨d,a,b⟩:=e;refine⟨B,O,δ,d,xj,S,a,λp H' R=>?_⟩;cases o with
 |true=>
  cases b;have w:=R.own;cases w with
  |lst q1 r=>exact k _ H' _ (R.sta.keepV (WQ r)) (.ol q1 r.length R.nz R.h0) R.frm
  |dct q1 r=>exact k _ H' _ (R.sta.keepV (WQ r)) (.od q1 (by simpa using r.length) R.nz R.h0) R.frm
  |dcn q1 r=>exact k _ H' _ (R.sta.keepV (WQ r)) (.on q1 (by simpa using r.length) R.nz R.h0) R.frm
 |false=>
  cases b;exact k _ H' _ (R.sta.unadd.keepV (ps:=[(.ref p,d)]) λz c=>by rw[Aq.mp c];exact(R.own.mono QY).rep R.nz) .va R.frm
def eT{x:VX}{d:TE}(b:∀σ H Q,TX K ml x σ H Q->d σ H Q)(e:i∉ml){D:GO}(h:RE K ml (aU i x) D σ H):tAsg d (Xk i) D σ H:=by
 obtain⟨B,O,δ,o,S,q,k⟩:=h;unfold aU at q;obtain⟨⟨s,a⟩,f,q⟩:=Ac.mp q;have q:(if i<a.length then b0 (Ou.nx (a.set i s))else b4)=b0 o:=q;split at q;rename_i hl;cases q;refine b _ _ _ ⟨B,O,δ,s,a,S,f,λv H' B' j g m=>?_⟩;obtain⟨l,c⟩:=g.bind j e hl;exact k _ _ _ c;cases q
end
end
abbrev Y2(P:Az)(w:Wv)(K:Au)(mg:Wy->Option Wr)(base:Wz)(x:Wy)(k:Nat)(ps:List Wy)(a:List Nat)(F:aP)(f:Ws):Prop:=Def P w K mg base x k ps (spV K a ps.length F) f
section
variable{X:Cx}{K:Au}{ml:List Nat}{e a b c:Ww}{es:List Ww}{pa ta ia pb tb ib pc tc ic pu bt bi ps bs:Bool}{fa fb fc f:VF}{B B':Bs}{O:Nat->Option Ws}{H H0 H1 H':Hp}{σ:St}{δ xj:Ev}{v:V}{d:cY}{p:Ws}{pos:Pos}
section
variable{N M:Ws->Prop}{ds:List cY}{i:Nat}{E:VF}
def ZE{x:Wy}(a:Gl X x)(h:∃u v,X.mg x=b0 u/\bP v u/\∀N H M,bE K N H M v d)(b:ND x:=by decide):PE X (.Name x pos) (TV K ml ba ba ba (fC d)):=by obtain⟨u,v,f,e,c⟩:=h;exact ve_c (iP a f e b) c
def fE(K:Au):R2:=λx y H Q=>∃a b c d,x=.ref a/\y=.ref b/\WT K H a c/\WT K H b d/\c.length+d.length<=sizeLine∧
 (c=[]->Q (.ref b) H)/\(c≠[]->d=[]->Q (.ref a) H)/\(c≠[]->d≠[]->∀p,H p=b4->Q (.ref p) (Z8 H p (.tup (c++d))))
def qv:V7 X (Hv .Add) (fE X.K):=by
 intro S s σ H x y v u Q I E D h;obtain⟨a,b,m,C,rfl,rfl,J,G,t,q0,q1,q2⟩:=h;cases E;cases D;obtain⟨k,g,r,_⟩:=I.tuple J;obtain⟨O,f,p,_⟩:=I.tuple G;by_cases i:m=[];subst i;have L:k=[]:=g.nil_iff.mpr rfl;subst L;obtain⟨⟨N,M,data,sl⟩,A,hc,n,B⟩:=id r;obtain⟨⟨R,l,data2,j⟩,c,e,F,d⟩:=id p;simp only at hc B e d;subst hc B e d;exact Pt ⟨_,A,rfl⟩ ⟨_,c,rfl⟩ Pa Rp Kc Jp (Ji _ _)
  (tuple_addW0 a b _ O.toArray n F M l sl j (by simp)) ⟨A,c,⟨.ref b,H,I,rfl,q0 rfl⟩⟩
 refine HT.zIX r p (λz => i (g.nil_iff.mp z)) (λz => ⟨.ref a,H,I,rfl,q1 i (f.nil_iff.mp z)⟩) (λz => ?_) (by rw [<- g.length,<- f.length];exact t);refine⟨.ref s.heap.objs.size,_,I.laid (t':=s.toks) (o:=.tup (m++C)) (λb P q=>Ae _ q) (Al _) ?_,rfl,q2 i (λw=>z (f.nil_iff.mpr w)) _ (I.hok.fresh (Al _))⟩;exact⟨by rw[Bm];exact t,_,g.append f,Ni _ _⟩
def Zf(K:Au):R2:=λx y H Q=>∃l b c a,x=.ref l/\y=.ref b/\WZ K H l c/\WZ K H b a/\c.length+a.length<=sizeLine/\∀p,H p=b4->Q (.ref p) (Z8 H p (.lst (c++a)))
def AZ:V7 X (Hv .Add) (Zf X.K):=by
 intro N s σ H x y v u Q I p o h;obtain⟨l,b,L,J,rfl,rfl,B,C,A,q⟩:=h;cases p;cases o;obtain⟨a,r,w,_⟩:=I.list B;obtain⟨i,j,t,_⟩:=I.list C;obtain⟨⟨G,E,data,sl⟩,n,k,hc,_,m⟩:=id w;obtain⟨⟨M,g,data2,f⟩,z,c,e,_,d⟩:=id t;simp only at hc m e d;subst hc m e d;have D:a.toArray++i.toArray=(a++i).toArray:=by simp
 have hl:=r.length;have JO:=j.length;refine Pt ⟨_,k,rfl⟩ ⟨_,c,rfl⟩ noFill_list_add seq_list_add PySem.F.slot_list_add PySem.F.entry_list_add (PySem.F.args_list_add_2 _ _) (list_addW l b a.toArray i.toArray n z E g sl f (by rw[At,At,<-hl,<-JO];exact A)) ⟨k,c,?_⟩;rw[D];exact⟨.ref _,_,I.lnew (t':=s.toks) (r.append j) (by rw[Bm];lia),rfl,q _ I.fresh⟩
def Yq(K:Au):R2:=λx y H Q=>((DO (λi j=>.int (i+j)) x y H Q∨fE K x y H Q)∨Zf K x y H Q)∨∃i j,x=.str i/\y=.str j/\i.length+j.length<=sizeLine/\Q (.str (i++j)) H
def Y5(h:X.K=K:=by rfl):V7 X (Hv .Add) (Yq K):=by subst h;exact((zMD.or qv).or AZ).or DG
noncomputable def aV:cY->cY->Option cY
 |.int i,.int j=>b0 (.int (i+j))
 |.tup ds,.tup es=>if ds.length+es.length<=16777216 then b0 (.tup (ds++es))else b4
 |.lst ds,.lst es=>if ds.length+es.length<=16777216 then b0 (.lst (ds++es))else b4
 |.str x,.str y=>if x.length+y.length<=16777216 then b0 (.str (x++y))else b4
 |_,_=>b4
def bE.tupE(h:bE K N H M v (.tup ds)):∃a xs,v=.ref a/\WT K H a xs/\cA K N H xs ds:=by
 cases h.onT with
 |tup q r=>exact⟨_,_,rfl,q,r⟩
def bE.lstE(h:bE K N H M v (.lst ds)):∃a xs,v=.ref a/\WZ K H a xs/\cA K N H xs ds:=by
 cases h.onL with
 |lst q n r=>exact⟨_,_,rfl,WZ.of q,r⟩
 |fzl q r=>exact⟨_,_,rfl,q.sq,r⟩
def Z4:OpC K (Yq K) aV:=by
 intro H N M B x y d e c Q n m h k;cases d with
 |int i=>
  cases e with
  |int j=>
   cases h;cases n.onI;cases m.onI;exact .inl (.inl (.inl ⟨_,_,rfl,rfl,k _ _ (aS.refl _) λ_ _=>.int _⟩))
  |_=>cases h
 |str i=>
  cases e with
  |str j=>
   simp only[aV]at h;split at h;cases h;cases n.onS;cases m.onS;exact .inr ⟨_,_,rfl,rfl,by rw[Dn];assumption,k _ _ (aS.refl _) λ_ _=>.str _⟩;cases h
  |_=>cases h
 |tup w=>
  cases e with
  |tup es=>
   simp only[aV]at h;split at h;rename_i u;cases h;obtain⟨a,t,rfl,q1,g⟩:=n.tupE;obtain⟨b,s,rfl,q2,f⟩:=m.tupE;refine .inl (.inl (.inr ⟨a,b,t,s,rfl,rfl,q1,q2,by rw[g.length,f.length,Dn];exact u,λz=>?_,λA v=>?_,λA v p l=>?_⟩));subst z;have:w=[]:=Fe.mp g.length.symm
   subst this;exact k _ _ (aS.refl _) λM r=>.tup q2 f;subst v;have:es=[]:=Fe.mp f.length.symm
   subst this;rw[Fm]at k;exact k _ _ (aS.refl _) λM r=>.tup q1 g;exact k _ _ (cQ l) λM r=>.tup (WT.of b6) ((g.append f).same (cQ l));cases h
  |_=>cases h
 |lst w=>
  cases e with
  |lst es=>
   simp only[aV]at h;split at h;rename_i u;cases h;obtain⟨a,t,rfl,q1,g⟩:=n.lstE;obtain⟨b,s,rfl,q2,f⟩:=m.lstE;exact .inl (.inr ⟨a,b,t,s,rfl,rfl,q1,q2,by rw[g.length,f.length,Dn];exact u,λp l=>k _ _ (cQ l) λM r=>.lst b6 (λz=>by obtain⟨o,q⟩:=r _ z;rw[l]at q;cases q) ((g.append f).same (cQ l))⟩);cases h
  |_=>cases h
 |_=>cases h
def hU:Au->R2:=λ_=>rI CMul λi j=>.int (i*j)
def HD(h:X.K=K:=by rfl):V7 X (Hv .Mult) (hU K):=nG
abbrev L9:=oMul
def MT:OpC K (hU K) L9:=by intro H N M g x y d e c Q b a h k;exact lR H N N M g x y d e c Q b a h λv f=>k v H (aS.refl _) λM _=>f _ _ _
def WM:cY->Option bH
 |.int i=>b0 (.inl i)
 |.str x=>b0 (.inr x)
 |_=>b4
def bE.key{k:bH}(h:bE K N H M v d)(e:WM d=b0 k):v=kV k:=by
 cases h<;>first
  |(cases e;rfl)
  |cases e
def a6(ks:List bH)(ds:List cY)(k:bH):Option cY:=match ks,ds with
 |k'::ks,d::ds=>if k'=k then b0 d else a6 ks ds k
 |_,_=>b4
theorem PK{N:Ws->Prop}{k:bH}:∀{kvs:List (bH×V)}{ds:List cY},cA K N H (kvs.map Ej) ds->(∃v d,RB kvs k=b0 v/\a6 (kvs.map Dr) ds k=b0 d/\bE K N H N v d)∨(RB kvs k=b4/\a6 (kvs.map Dr) ds k=b4)
 |[],_,.nil=>.inr ⟨rfl,rfl⟩
 | (k',v) :: kvs,_,.cons h t => by
  by_cases a:k'=k;refine .inl ⟨v,_,P8 (p:=(k',v)) a,?_,h⟩;simp[a6,a];rcases PK (k:=k) t with⟨e,g,c,b,f⟩|⟨c,b⟩;exact .inl ⟨e,g,(SV (p:=(k',v)) a).trans c,by simpa[a6,a]using b,f⟩;exact .inr ⟨(SV (p:=(k',v)) a).trans c,by simpa[a6,a]using b⟩
def iV(f:X.A.units+1<cLine):IxR X (λx y H Q=>∃a v,x=.ref a/\N4 H a y (b0 v)/\Q v H):=by intro value b m s σ H x y v u Q I e d h i;obtain⟨a,w,rfl,g,q⟩:=h;cases e;exact Vk (EO I g) PySem.F.slot_dict_getitem.lookup (pU f I g d λk l j c=>⟨w,H,j,c,q⟩) i
def rIxA(K:Au):R2:=λx y H Q=>(rIx K x y H Q∨∃a v,x=.ref a/\N4 H a y (b0 v)/\Q v H)∨∃a k D v,x=.ref a/\y=.str k/\KTab K a D/\Gv k D=b0 v/\Q v H
def kIxA(a:X.A.units+1<cLine)(h:X.K=K:=by rfl):IxR X (rIxA K):=by subst h;exact(zMZ.or (iV a)).or jB
noncomputable def cJ:cY->cY->Option cY
 |.tup a,.int i=>U8 a i
 |.lst a,.int i=>U8 a i
 |.dct ks a,e=>(WM e).bind (a6 ks a)
 |.str z,.int i=>if z.length<=16777216 then(U8 z.cps.toList i).map λc=>.str ⟨#[c]⟩else b4
 |_,_=>b4
theorem OB{N:Ws->Prop}{k:Wy}:∀{D:List (Wy×V)}{ds:List cY},cA K N H (D.map Ej) ds->(∃v d,Gv k D=b0 v/\a6 (D.map λp=>.inr p.1) ds (.inr k)=b0 d/\bE K N H N v d)∨(Gv k D=b4/\a6 (D.map λp=>.inr p.1) ds (.inr k)=b4)
 |[],_,.nil=>.inr ⟨rfl,rfl⟩
 | (k',v) :: D,_,.cons h t => by
  by_cases a:k'=k;subst a;exact .inl ⟨v,_,by simp[Gv],by simp[a6],h⟩;have b : ¬ k = k' := λz => a z.symm;rcases OB (k:=k) t with⟨f,i,e,c,g⟩|⟨e,c⟩;exact .inl ⟨f,i,by simpa[Gv,a,b]using e,by simpa[a6,a]using c,g⟩;exact .inr ⟨by simpa[Gv,a,b]using e,by simpa[a6,a]using c⟩
theorem EY{i:Int}:∀{D:List (Wy×V)}{ds:List cY},a6 (D.map λp=>.inr p.1) ds (.inl i)=b4
 |[],_=>by simp[a6]
 |_::_,[]=>by simp[a6]
 |p::D,d::ds=>by simpa[a6]using EY (D:=D) (ds:=ds)
def jC:OpI K (rIxA K) cJ:=by
 intro H N E M F x y d e c Q o m h k;have seq:∀f i,YH d=b0 f->e=.int i->U8 f i=b0 c->rIxA K x y H Q:=λf i g b j=>by
  subst b;cases m.onI;obtain⟨a,s,rfl,sq,r⟩:=o.seq g;obtain⟨v,u,t⟩:=rK r j;rcases sq with sq|sq;exact .inl (.inl (.inl ⟨a,s,i,v,rfl,rfl,sq,u,k v t⟩));exact .inl (.inl (.inr (.inl ⟨a,s,i,v,rfl,rfl,sq,u,k v t⟩)))
 cases d with
 |tup f=>
  cases e with
  |int i=>exact seq f i rfl rfl h
  |_=>cases h
 |lst f=>
  cases e with
  |int i=>exact seq f i rfl rfl h
  |_=>cases h
 |str z=>
  cases e with
  |int i=>
   simp only[cJ]at h;split at h;obtain⟨D,hc,h⟩:=Am.mp h;cases h;cases o.onS;cases m.onI;exact .inl (.inl (.inr (.inr ⟨z,i,D,rfl,rfl,by rw[Dn];assumption,hc,k _ (.str _)⟩)));cases h
  |_=>cases h
 |dct w f=>
  simp only[cJ]at h;obtain⟨l,A,h⟩:=Ac.mp h;have h:a6 w f l=b0 c:=h;have B:=m.key A;subst B;cases o.onD with
  |dct q n r p=>
   subst p;rcases PK (k:=l) r with⟨v,C,g,b,j⟩|⟨g,b⟩;rw[h]at b;cases b;exact .inl (.inr ⟨_,v,rfl,g▸N4.k q,k v j⟩);rw[h]at b;cases b
  |ktb T r p=>
   subst p;cases l with
   |inl i=>rw[EY]at h;cases h
   |inr x=>
    rcases OB (k:=x) r with⟨v,C,g,b,j⟩|⟨g,b⟩;rw[h]at b;cases b;exact .inr ⟨_,x,_,v,rfl,rfl,T,g,k v j⟩;rw[h]at b;cases b
 |_=>cases h
noncomputable def WU(δ:Ev)(i:Nat):Option (List bH×List cY):=match δ[i]? with
 |some (.ow (.dct a b))=>b0 (a,b)
 |_=>b4
def RP{ks:List bH}(h:WU δ i=b0 (ks,ds)):δ[i]?=b0 (.ow (.dct ks ds)):=by
 unfold WU at h;split at h;cases h;assumption;cases h
def G5(i:Nat)(fk a:VF):VF:=λδ=>(WU δ i).bind λ_=>(fk δ).bind λp=>(a p.2).bind λq=>(WM p.1).bind λk=>(WU q.2 i).map λz=>((a6 z.1 z.2 k).getD q.1,q.2)
def oz{fk:VF}{R T:Pos}(hu:X.A.units+1<cLine)(n:PE X a (KY i))(hk:PE X b (TV K ml pa ta ia fk))(hx:PE X c (TV K ml pb ba ba E))(m:M2 X a "get" R b c T):
  PE X (.Call (.Attribute a "get" R) [b,c] [] T) (TV K ml (pa&&pb) ba ba (G5 i fk E)):=(lL hu n hk hx m).imp λσ H Q j=>by
 obtain⟨B,O,δ,d,U,S,q,k⟩:=j;unfold G5 at q;cases x:WU δ i with
 |none=>rw[x]at q;cases q
 |some z0=>
  obtain⟨h,G⟩:=z0;rw[x]at q;cases u:fk δ with
  |none=>simp[u]at q
  |some p1=>
   obtain⟨y,e⟩:=p1;simp only[An,u]at q;cases t:E e with
   |none=>simp[t]at q
   |some p2=>
    obtain⟨z,g⟩:=p2;simp only[An,t]at q;cases s:WM y with
    |none=>simp[s]at q
    |some M=>
     simp only[An,s]at q;cases p:WU g i with
     |none=>simp[p]at q
     |some W=>
      obtain⟨L,P⟩:=W;simp only[p]at q;cases q;obtain⟨l,e1,e2,w⟩:=S.ow i _ (RP x);refine⟨.ref l,e2,l,rfl,?_,B,O,δ,y,e,S,u,λv1 H1 f=>⟨B,O,e,z,_,f.sta,t,λv2 I R2=>?_⟩⟩;generalize hw:cY.dct h G=dd at w;cases w with
      |lst _ _=>cases hw
      |dct q _=>exact .inl ⟨_,.inl q⟩
      |dcn _ _=>cases hw
      have ey:=f.rep.key s;subst ey;obtain⟨l',N,_,J⟩:=R2.sta.ow i _ (RP p);rw[e1]at N;cases N;have F:∀o,bE K (Nn B O) I (Nn B O) (o:V) ((a6 L P M).getD z)->Q o I:=λo n=>k o I ⟨R2.sta,f.frm.trans R2.frm,λz=>by obtain⟨Z,Y⟩:=(Ah _ _).mp z;exact(f.pur Z).trans (R2.pur Y),n⟩;generalize hw:cY.dct L P=dd at J;cases J with
      |lst _ _=>cases hw
      |dcn _ _=>cases hw
      |dct q r=>
       cases hw;refine⟨_,N4.k q,F _ ?_⟩;rcases PK (k:=M) r with⟨v,d',D,C,g3⟩|⟨D,C⟩
       rw[D,C];exact g3;rw[D,C];exact R2.rep
noncomputable def Y6:List bH->List cY->bH->cY->List bH×List cY
 |k'::a,d::b,k,v=>if k'=k then(k'::a,v::b)else let r:=Y6 a b k v;(k'::r.1,d::r.2)
 |_,_,k,v=>([k],[v])
def J4(i:Nat)(fk a:VF):VS:=λδ=>(a δ).bind λp=>(WU p.2 i).bind λ_=>(fk p.2).bind λq=>(WM q.1).bind λk=>(WU q.2 i).bind λz=>if z.1.length<16777216/\z.1.Nodup then b0 (.nx (q.2.set i (.ow (let r:=Y6 z.1 z.2 k p.1;.dct r.1 r.2))))else b4
theorem J1{N:Ws->Prop}{k:bH}{v:V}(h:bE K N H N v d):∀{kvs:List (bH×V)}{ds:List cY},(kvs.map Dr).Nodup->cA K N H (kvs.map Ej) ds->(WV kvs k v).map Dr=(Y6 (kvs.map Dr) ds k d).1/\cA K N H ((WV kvs k v).map Ej) (Y6 (kvs.map Dr) ds k d).2
 |[],_,_,.nil=>⟨rfl,.cons h .nil⟩
 | (k',u) :: kvs,_,b,.cons g t => by
  obtain⟨f,c⟩:=Ct.mp b;by_cases a:k'=k;subst a;have e:WV ((k',u)::kvs) k' v=(k',v)::kvs:=by
   unfold WV;rw[if_pos (by simp)];simp only[Av,if_true];congr 1;refine(Eb λp i=>?_).trans (Je _);have:p.1≠k':=λz=>f (Aw.mpr ⟨p,i,z⟩);simp[this]
  rw[e];exact⟨by simp[Y6],by simpa[Y6]using cA.cons h t⟩;obtain⟨l,j⟩:=J1 (k:=k) h c t;have e:WV ((k',u)::kvs) k v=(k',u)::WV kvs k v:=by
   unfold WV;simp only[Hi,a,decide_false,Vm];split;simp[a];rfl
  rw[e];exact⟨by simpa[Y6,a]using l,by simpa[Y6,a]using cA.cons g j⟩
def HR{l:Ws}{o:HO}{xs:List V}{kvs:List (bH×V)}(d:H l=b0 (.dK kvs))(e:N l)(h:cA K N H xs ds):cA K N (Z8 H l o) xs ds:=
 h.fr (P:=λb=>b=l) (λb u q n=>by
  by_cases c:b=l;subst c;rw[d]at q;cases q;exact absurd (n rfl) λz=>z;rw[a8 c];exact q) λa z=>z▸e
def II{fk:VF}{G:Pos}(R:X.A.units+1<cLine)(T:PE X a (KY i))(U:PE X b (TV K ml pa ta ia fk))(Q:PE X c (TV K ml pb ba ba E))(hs:Jm c (b0 (.Subscript a b G)) pos.line X.env=pure bb):
  PS X (.Assign [.Subscript a b G] c pos) (RE K ml (J4 i fk E)):=(ko R T U Q hs).imp λD σ H h=>by
 obtain⟨B,O,δ,o,S,q,k⟩:=h;unfold J4 at q;obtain⟨⟨z,d⟩,V,q⟩:=Ac.mp q;have q:((WU d i).bind λ_=>(fk d).bind λq=>(WM q.1).bind λk=>(WU q.2 i).bind λe=>if e.1.length<16777216/\e.1.Nodup then b0 (Ou.nx (q.2.set i (.ow (let r:=Y6 e.1 e.2 k z;.dct r.1 r.2))))else b4)=b0 o:=q;cases p:WU d i with
 |none=>rw[p]at q;cases q
 |some J=>
 obtain⟨N,ds0⟩:=J;rw[p]at q;cases n:fk d with
 |none=>simp[n]at q
 |some M=>
  obtain⟨y,f⟩:=M;simp only[An,n]at q;cases m:WM y with
  |none=>simp[m]at q
  |some g=>
   simp only[An,m]at q;cases j:WU f i with
   |none=>simp[j]at q
   |some I=>
    obtain⟨P,ds⟩:=I;simp only[j,An]at q;split at q;rename_i C;cases q;refine⟨B,O,δ,z,d,S,V,λv H1 t=>?_⟩;obtain⟨l,s,e2,_⟩:=t.sta.ow i _ (RP p);refine⟨.ref l,e2,B,O,d,y,f,t.sta,n,λv2 H2 R2=>?_⟩;have Z:=R2.rep.key m;subst Z;obtain⟨l',F,_,u⟩:=R2.sta.ow i _ (RP j);rw[s]at F;cases F;generalize hw:cY.dct P ds=dd at u;cases u with
    |lst _ _=>cases hw
    |dcn _ _=>cases hw
    |dct x r=>
     cases hw;have L:=t.rep.fr R2.frm (λa z=>.inr z) λa z=>.inr z;obtain⟨Y,W⟩:=J1 (k:=g) L C.2 r;refine⟨l,_,rfl,DPut.k x (by rw[Dn];simpa using C.1),k σ _ O (R2.sta.wrote s (λz=>z) ?_)⟩;have w:TY K (Nn B O) (Z8 H2 l (.dK (WV _ g v))) l (.dct ((WV _ g v).map Dr) _):=.dct b6 (HR x (.inr ⟨i,s⟩) W);rw[Y]at w;exact w
    cases q
end
end
section
variable{X:Cx}{K:Au}{ml:List Nat}{e a b c:Ww}{es:List Ww}{pa ta ia pb tb ib pc tc ic pu bt bi ps bs:Bool}{fa fb fc f:VF}{B B':Bs}{O:Nat->Option Ws}{H H0 H1 H':Hp}{σ:St}{δ xj:Ev}{v:V}{d:cY}{p:Ws}{pos:Pos}
section
variable{i j:Nat}{x y z:Wy}{F:VX}
def lm(i j k:Nat)(ta:TA):TS:=λD σ H=>ta σ H λa H1=>∃v w u,a=[v,w,u]/\D.nx (((σ.set i (b0 v)).set j (b0 w)).set k (b0 u)) H1
def pE{k:Nat}{a b c:Ww}{ta:TA}{C B t pt:Pos}{kt k2 pt2}(hc:X.calm=ba)(L:X.N.Nodup)(hi:X.N[i]?=b0 x)(hj:X.N[j]?=b0 y)(hk:X.N[k]?=b0 z)(K:i≠j)(J:i≠k)(G:j≠k)(O:X.env.scope.names.lookup x=b0 .local)(M:X.env.scope.names.lookup y=b0 .local)(hz:X.env.scope.names.lookup z=b0 .local)(ha:PA X [a,b,c] ta)(hw:Fu [.Tuple [.Name x C,.Name y B,.Name z t] kt pt] (.Tuple [a,b,c] k2 pt2) X.env=pure (b0 [x,y,z]))(hs:Ft [.Tuple [.Name x C,.Name y B,.Name z t] kt pt] (.Tuple [a,b,c] k2 pt2) pos.line X.env=pure bb:=by rfl):PS X (.Assign [.Tuple [.Name x C,.Name y B,.Name z t] kt pt] (.Tuple [a,b,c] k2 pt2) pos) (lm i j k ta):=by
 intro R s σ H D I h;rw[exec_Assign_arm];refine Aa (Go ?_);rw[hs];refine Aa (Ad ?_);rw[if_neg (by decide)];refine Aa (Tuple_ (Y7 (ha _ R s σ H _ I h) λT m ⟨vs,H1,I1,W,q1⟩=>?_));obtain⟨v,w,u,e1,q1⟩:=q1;subst e1;obtain⟨l,g,f,rfl,U,n,V⟩:∃l g f,T=[l,g,f]/\bP v l/\bP w g/\bP u f:=by
  cases W with
  |cons p q=>
   cases q with
   |cons Z Y=>
    cases Y with
    |cons E r=>
     cases r;exact⟨_,_,_,rfl,p,Z,E⟩
 refine Cp ?_ (by show 3<=sizeLine;decide);have I2:b9 X R σ H1 {m with heap:=m.heap.push {cls:=.type "tuple",data:=.seq [l,g,f].toArray}}:=I1.kept (t':=m.toks) λb o e=>Ae _ e;rw[hw];refine Aa (Ad ?_);show Wt (Wu X.prog X.w) X.A (do rule "assign.swapped-stores";let d<-Ma (.ref m.heap.objs.size) 3 b4;Xh [λv=>Lo X.env z v,λv=>Lo X.env y v,λv=>Lo X.env x v] d.reverse;pure Flow.next) _ _ _;refine Aa (Gh (Aa (Si (items:= #[l,g,f]) (I.ok.hd hc) (Ni m.heap _) λQ F=>?_)));have I3:=I2.kept (h':=Q) (t':=m.toks) λb o e=>F b o (Bd (As e)) e;show Wt _ _ (Xh [λv=>Lo X.env z v,λv=>Lo X.env y v,λv=>Lo X.env x v] [f,g,l]>>=λ_=>pure Flow.next) _ _ _;refine Aa (Ey (Kt (XZ I3 L hk (.inl hz) V (λs2 I4=>?_) (.inr hz))));refine Ey (Kt (XZ I4 L hj (.inl M) n (λs3 I5=>?_) (.inr M)));refine Ey (Kt (XZ I5 L hi (.inl O) U (λs4 S=>Kh (Ad ?_)) (.inr O)));rw[Ez _ _ (Dg K),Ez _ _ (Dg J),Ez _ _ (Dg G)]at S;exact⟨_,H1,S,q1⟩
noncomputable def P2(i j k:Nat)(x y z:VX):VS:=λδ=>(x δ).bind λp=>(y p.2).bind λq=>(z q.2).bind λr=>if i<r.2.length/\j<r.2.length/\k<r.2.length then b0 (.nx (((r.2.set k r.1).set j q.1).set i p.1))else b4
def J5{k:Nat}{x y z:VX}{o:Ou}(h:P2 i j k x y z δ=b0 o):∃f xk e xl d a,x δ=b0 (f,xk)/\y xk=b0 (e,xl)/\z xl=b0 (d,a)/\(i<a.length/\j<a.length/\k<a.length)/\o=.nx (((a.set k d).set j e).set i f):=by
 unfold P2 at h;cases g:x δ with
 |none=>rw[g]at h;cases h
 |some p=>
  rw[g]at h;cases c:y p.2 with
  |none=>simp[c]at h
  |some q=>
   simp only[An,c]at h;cases b:z q.2 with
   |none=>simp[b]at h
   |some r=>
    simp only[An,b]at h;split at h;cases h;exact⟨p.1,p.2,q.1,q.2,r.1,r.2,rfl,c,b,by assumption,rfl⟩;cases h
def k4{k:Nat}{G E:VX}{p n m pt:Pos}{kt k2 pt2}(hc:X.calm=ba)(hN:X.N.Nodup)(hi:X.N[i]?=b0 x)(Z:X.N[j]?=b0 y)(Y:X.N[k]?=b0 z)(h:i≠j)(g:i≠k)(f:j≠k)(W:X.env.scope.names.lookup x=b0 .local)(V:X.env.scope.names.lookup y=b0 .local)(hz:X.env.scope.names.lookup z=b0 .local)(ha:PE X a (TX K ml G))(hb:PE X b (TX K ml F))(C:PE X c (TX K ml E))(hw:Fu [.Tuple [.Name x p,.Name y n,.Name z m] kt pt] (.Tuple [a,b,c] k2 pt2) X.env=pure (b0 [x,y,z]))(u:i∉ml:=by decide)(t:j∉ml:=by decide)(s:k∉ml:=by decide)(hs:Ft [.Tuple [.Name x p,.Name y n,.Name z m] kt pt] (.Tuple [a,b,c] k2 pt2) pos.line X.env=pure bb:=by rfl)(he:SE X a [b,c]:=by rfl)(A:SE X b [c]:=by rfl)(w:SE X c []:=by rfl):
  PS X (.Assign [.Tuple [.Name x p,.Name y n,.Name z m] kt pt] (.Tuple [a,b,c] k2 pt2) pos) (RE K ml (P2 i j k G F E)):=(pE hc hN hi Z Y h g f W V hz (bV ha (bV hb (bV C Z1 w) A) he) hw hs).imp λD σ H r=>by
 obtain⟨B,O,δ,o,S,q,k⟩:=r;obtain⟨U,e,T,d,R,l,h1,h2,h3,hl,rfl⟩:=J5 q;refine⟨B,O,δ,U,e,S,h1,λv H1 B1 S1 M f1=>⟨B1,O,e,T,d,S1,h2,λQ H2 B2 S2 L f2=>⟨B2,O,d,R,l,S2,h3,λP H3 B3 S3 J f3=>⟨v,Q,P,rfl,?_⟩⟩⟩⟩;obtain⟨O4,S4⟩:=J.bind S3 s hl.2.2;obtain⟨O5,S5⟩:=(L.fr f3).bind S4 t (by rw[Ce];exact hl.2.1);obtain⟨O6,I⟩:=((M.fr f2).fr f3).bind S5 u (by rw[Ce,Ce];exact hl.1);rw[Ez _ _ (Dg h),Ez _ _ (Dg g),Ez _ _ (Dg f)]at I;exact k _ _ _ I
def CA{k:Nat}{V U T:VX}{f e d pt:Pos}{kt k2 pt2}(hK:X.K=K)(hc:X.calm=ba)(F:X.N.Nodup)(hi:X.N[i]?=b0 x)(hj:X.N[j]?=b0 y)(hk:X.N[k]?=b0 z)(w:i≠j)(u:i≠k)(t:j≠k)(hx:CF X.env.scope x)(hy:CF X.env.scope y)(hz:CF X.env.scope z)(ha:PE X a (TX K ml V))(hb:PE X b (TX K ml U))(E:PE X c (TX K ml T))(s:i∉ml:=by decide)(r:j∉ml:=by decide)(n:k∉ml:=by decide)(hs:Ft [.Tuple [.Name x f,.Name y e,.Name z d] kt pt] (.Tuple [a,b,c] k2 pt2) pos.line X.env=pure bb:=by rfl)(hw:Fu [.Tuple [.Name x f,.Name y e,.Name z d] kt pt] (.Tuple [a,b,c] k2 pt2) X.env=pure b4:=by rfl)(hn:(Wx [.Name x f,.Name y e,.Name z d] X.env).length=3:=by rfl)(VC:(Wx [.Name x f,.Name y e,.Name z d] X.env).findIdx? (·.1)=b4:=by rfl)(g1:(Wx [.Name x f,.Name y e,.Name z d] X.env).map (·.2)=assign (.Name x f) X.env::(Wx [.Name y e,.Name z d] X.env).map (·.2):=by rfl)(g2:(Wx [.Name y e,.Name z d] X.env).map (·.2)=assign (.Name y e) X.env::(Wx [.Name z d] X.env).map (·.2):=by rfl)(g3:(Wx [.Name z d] X.env).map (·.2)=assign (.Name z d) X.env::(Wx [] X.env).map (·.2):=by rfl)(L:LO X x:=by first|exact .inl rfl|exact .inr rfl|assumption)(J:LO X y:=by first|exact .inl rfl|exact .inr rfl|assumption)(I:LO X z:=by first|exact .inl rfl|exact .inr rfl|assumption)(G:(Wx [.Tuple [.Name x f,.Name y e,.Name z d] kt pt] X.env).map (·.2)=[assign (.Tuple [.Name x f,.Name y e,.Name z d] kt pt) X.env]:=by rfl)(he:SE X a [b,c]:=by rfl)(C:SE X b [c]:=by rfl)(A:SE X c []:=by rfl):PS X (.Assign [.Tuple [.Name x f,.Name y e,.Name z d] kt pt] (.Tuple [a,b,c] k2 pt2) pos) (RE K ml (P2 i j k V U T)):=
 (MG (DI (bV ha (bV hb (bV E Z1 A) C) he)) (Yl (K:=K) hK hc (UR (RS F hi hx L) (UR (RS F hj hy J) (UR (RS F hk hz I) HP g3) g2) g1) hn VC) hs hw G).imp λD σ H m=>by obtain⟨B,O,δ,o,S,q,k⟩:=m;obtain⟨s1,h,s2,g,s3,l,G,h2,h3,hl,rfl⟩:=J5 q;refine⟨B,O,δ,s1,h,S,G,λv H1 B1 S1 w1 f1=>⟨B1,O,h,s2,g,S1,h2,λQ H2 B2 S2 w2 f2=>⟨B2,O,g,s3,l,S2,h3,λP Y B3 S3 Z f3=>⟨(by show 3<=sizeLine;decide),λp R=>⟨p,_,rfl,WT.of b6,rfl,v,_,rfl,Q,_,rfl,P,_,rfl,rfl,?_⟩⟩⟩⟩⟩;have M:Fr (OA O) Y (Z8 Y p (.tup [v,Q,P])):=(cQ R).fr;obtain⟨O4,S4⟩:=(Z.fr M).bind (S3.same (cQ R)) n hl.2.2;obtain⟨O5,S5⟩:=((w2.fr f3).fr M).bind S4 r (by rw[Ce];exact hl.2.1);obtain⟨O6,W⟩:=(((w1.fr f2).fr f3).fr M).bind S5 s (by rw[Ce,Ce];exact hl.1);rw[Ez _ _ (Dg w),Ez _ _ (Dg u),Ez _ _ (Dg t)]at W;exact k _ _ _ W
def l8{w:VX}{d c pt:Pos}{kt k2 pt2}(hK:X.K=K)(hc:X.calm=ba)(E:X.N.Nodup)(W:X.N[i]?=b0 x)(V:X.N[j]?=b0 y)(m:i≠j)(T:CF X.env.scope x)(R:CF X.env.scope y)(ha:PE X a (TX K ml F))(Z:PE X b (TX K ml w))(l:i∉ml:=by decide)(h:j∉ml:=by decide)(hs:Ft [.Tuple [.Name x d,.Name y c] kt pt] (.Tuple [a,b] k2 pt2) pos.line X.env=pure bb:=by rfl)(hw:Fu [.Tuple [.Name x d,.Name y c] kt pt] (.Tuple [a,b] k2 pt2) X.env=pure b4:=by rfl)(U:(Wx [.Name x d,.Name y c] X.env).length=2:=by rfl)(VC:(Wx [.Name x d,.Name y c] X.env).findIdx? (·.1)=b4:=by rfl)(g1:(Wx [.Name x d,.Name y c] X.env).map (·.2)=assign (.Name x d) X.env::(Wx [.Name y c] X.env).map (·.2):=by rfl)(g2:(Wx [.Name y c] X.env).map (·.2)=assign (.Name y c) X.env::(Wx [] X.env).map (·.2):=by rfl)(z:LO X x:=by first|exact .inl rfl|exact .inr rfl|assumption)(u:LO X y:=by first|exact .inl rfl|exact .inr rfl|assumption)(t:(Wx [.Tuple [.Name x d,.Name y c] kt pt] X.env).map (·.2)=[assign (.Tuple [.Name x d,.Name y c] kt pt) X.env]:=by rfl)(Y:SE X a [b]:=by rfl)(n:SE X b []:=by rfl):PS X (.Assign [.Tuple [.Name x d,.Name y c] kt pt] (.Tuple [a,b] k2 pt2) pos) (RE K ml (UT i j F w)):=
 (MG (DI (bV ha (bV Z Z1 n) Y)) (Yl (K := K) hK hc (UR (RS E W T z) (UR (RS E V R u) HP g2) g1) U VC) hs hw t).imp λD σ H g => by
  obtain⟨B,O,δ,o,S,q,k⟩:=g;unfold UT at q;obtain⟨⟨s,e⟩,t,q⟩:=Ac.mp q;cases r:w e with
  |none=>simp[r]at q
  |some Q=>
   obtain⟨P,f⟩:=Q;simp only[An,r]at q;split at q;rename_i hl;cases q;refine⟨B,O,δ,s,e,S,t,λv H1 B1 S1 M f1=>⟨B1,O,e,P,f,S1,r,λA J B2 S2 L f2=>⟨(by show 2<=sizeLine;decide),λp C=>⟨p,_,rfl,WT.of b6,rfl,v,_,rfl,A,_,rfl,rfl,?_⟩⟩⟩⟩;have G:Fr (OA O) J (Z8 J p (.tup [v,A])):=(cQ C).fr;obtain⟨O3,S3⟩:=(L.fr G).bind (S2.same (cQ C)) h hl.2;obtain⟨O4,I⟩:=((M.fr f2).fr G).bind S3 l (by rw[Ce];exact hl.1);rw[Ez _ _ (Dg m)]at I;exact k _ _ _ I;cases q
def FU(i:Nat)(fi b:VF):VS:=λδ=>(b δ).bind λp=>(VM p.2 i).bind λ_=>(fi p.2).bind λq=>(VM q.2 i).bind λa=>match q.1 with
 |.int k=>(HB a.length k).map λj=>.nx (q.2.set i (.ow (.lst (a.set j p.1))))
 |_=>b4
def k5{fi A:VF}{f:Pos}(Y:X.K=K)(M:PE X a (KY i))(N:PE X b (TV K ml pa ta ia fi))(L:PE X c (TV K ml pb ba ba A))(P:∀v,assign (.Subscript a b f) X.env v=(do
   let g<-Nb [v] (eval a X.env)
   let m<-Nb [v,g] (eval b X.env)
   Pm f
   Nb [v,g,m] (setItem g m v)
   release [v,g,m] []):=by intro _;rfl)
  (hs:Ft [.Subscript a b f] c pos.line X.env=pure bb:=by rfl) (hw:Fu [.Subscript a b f] c X.env=pure b4:=by rfl)
  (t:(Wx [.Subscript a b f] X.env).map (·.2)=[assign (.Subscript a b f) X.env]:=by rfl):PS X (.Assign [.Subscript a b f] c pos) (RE K ml (FU i fi A)):=
 (MG L (kL M N kF P) hs hw t).imp λD σ H n => by
  obtain⟨B,O,δ,o,S,q,k⟩:=n;unfold FU at q;obtain⟨⟨z,d⟩,t,q⟩:=Ac.mp q;cases u:VM d i with
  |none=>simp[u]at q
  |some U=>
   simp only[An,u]at q;cases s:fi d with
   |none=>simp[s]at q
   |some J=>
    obtain⟨y,e⟩:=J;simp only[An,s]at q;cases p:VM e i with
    |none=>simp[p]at q
    |some E=>
     simp only[p,An]at q;cases y with
     |int h=>
      have q:((HB E.length h).map λj=>Ou.nx (e.set i (.ow (.lst (E.set j z)))))=b0 o:=q;obtain⟨j,Q,q⟩:=Am.mp q;cases q;refine⟨B,O,δ,z,d,S,t,λV H1 x=>?_⟩;obtain⟨l,w,T,_⟩:=x.sta.ow i _ (RQ u);refine⟨.ref l,T,B,O,d,_,e,x.sta,s,λG Z R2=>?_⟩;have R:G=.int h:=by exact R2.rep.onI
      subst R;obtain⟨W,C,_,F⟩:=R2.sta.ow i _ (RQ p);rw[w]at C;cases C;cases F with
      |lst hl r=>
       have I:=x.rep.fr R2.frm (λa z=>.inr z) λa z=>.inr z;refine⟨l,_,h,j,rfl,rfl,hl,by rw[r.length];exact Q,k σ _ O (R2.sta.wrote w (λz=>z) (.lst b6 (NX (ys:=[]) hl (.inr ⟨i,w⟩) (r.set I j))))⟩
     |_=>cases q
def rIsB(neg:Bool):R2:=λx y H Q=>∃k,y=.bl k/\Q (.bl (if neg then !decide (x=.bl k)else decide (x=.bl k))) H
def Yu:V7 X (Dh .Is) (rIsB bb):=by
 intro c s σ H x y v u Q I a b h;obtain⟨k,rfl,q⟩:=h;cases b;have e:(v==Qk k)=decide (x=V.bl k):=by
  cases x<;>first
   |(cases a;first|rfl|(rename_i z;cases z<;>cases k<;>rfl))
   |(obtain⟨t,rfl⟩:=a;rfl)
 exact wpAny_is_plain (by cases x<;>first|(cases a;cases k<;>rfl)|(obtain⟨t,rfl⟩:=a;cases k<;>rfl)) (by rw[e];exact⟨.bl _,H,I,rfl,q⟩)
def HL:V7 X (Dh .IsNot) (rIsB ba):=by
 intro c s σ H x y v u Q I a b h;obtain⟨k,rfl,q⟩:=h;cases b;have e:(v==Qk k)=decide (x=V.bl k):=by
  cases x<;>first
   |(cases a;first|rfl|(rename_i z;cases z<;>cases k<;>rfl))
   |(obtain⟨t,rfl⟩:=a;rfl)
 exact wpAny_isNot_plain (by cases x<;>first|(cases a;cases k<;>rfl)|(obtain⟨t,rfl⟩:=a;cases k<;>rfl)) (by rw[e];exact⟨.bl _,H,I,rfl,q⟩)
def isBl(k:Bool):cY->Bool
 |.bl x=>x==k
 |_=>bb
def FC:cY->cY->Option cY
 |d,.bl k=>b0 (.bl (isBl k d))
 |_,_=>b4
def Q8:cY->cY->Option cY
 |d,.bl k=>b0 (.bl (!isBl k d))
 |_,_=>b4
def BO{N M:Ws->Prop}{k:Bool}(h:bE K N H M v d):decide (v=V.bl k)=isBl k d:=by
 cases h<;>simp[isBl];rename_i b;cases b<;>cases k<;>rfl
def Zj:OQ K (rIsB bb) FC:=by
  intro H N f M g x y d e c Q b a h k;cases a<;>first
    | (cases h
       refine⟨_,rfl,?_⟩;simp only[Aj,if_false];rw[BO b];exact k _ λ_ _ _=>.bl _)
    |(simp[FC]at h)
def DX:OQ K (rIsB ba) Q8:=by
  intro H N f M g x y d e c Q b a h k;cases a<;>first
    | (cases h
       refine⟨_,rfl,?_⟩;simp only[if_true];rw[BO b];exact k _ λ_ _ _=>.bl _)
    |(simp[Q8]at h)
end
end
section
variable{prog:Az}{w:Wv}{A:Bz}{E:Wr->Af->Prop}{s:Af}
def Q7{it t:Ws}{i:Nat}{items:Array Wr}{x:Wr}{Q:Wr->Af->Prop}(a:s.heap.IsTupleIter it t i)(f:s.heap.IsTuple t items)(e:items[i]?=b0 x)(g:∀h',h'.IsTupleIter it t (i+1)->Dw it s.heap h'->Q x {s with heap:=h'}):Wt (Wu prog w) A (Cm (.ref it)) Q E s:=by obtain⟨m,c,k,b⟩:=id a;obtain⟨l,h,_,n,j⟩:=f;unfold Cm;refine Aa (Dc (name:=Ay "__next__") a.typeIs Gg (Ck Gg a.typeIs Mf ?_ (Lp _)));show Wt _ _ (field (Bb it) 0>>=_) _ _ s;refine Aa (Fc c b (x:=.ref t) rfl ?_);show Wt _ _ (if(Bb t== .none)=ba then _ else _) _ _ s;rw[if_neg (show¬(Bb t==Value.none)=ba from Db)];show Wt _ _ (field (Bb it) 1>>=_) _ _ s;refine Aa (Fc c b (x:=.int i 0) rfl ?_);show Wt _ _ (seqItems? (Bb t)>>=_) _ _ s;refine Aa (Cy h j ?_);simp only[e,Hb];refine Aa (Kv c b (by simp) (Ad ⟨x,rfl,Ad (g _ ⟨_,Et _ c (Ld (Gq b _)),(No ..).trans k,?_⟩ (Ec ..))⟩));rw[Gq b];simp[rawInt]
def PQ{it t:Ws}{i:Nat}{items:Array Wr}{Q:Wr->Af->Prop}(f:A.handled=b4)(b:s.heap.IsTupleIter it t i)(j:s.heap.IsTuple t items)(h:items[i]?=b4)(k:∀h' e,Kk it s.heap h'->(∃o,h'.get? e=b0 o/\o.cls=.type "StopIteration")->E (.ref e) {s with heap:=h'}):Wt (Wu prog w) A (Cm (.ref it)) Q E s:=by
 obtain⟨q,c,u,d⟩:=id b;obtain⟨p,l,_,r,n⟩:=j;unfold Cm;refine Aa (Dc (name:=Ay "__next__") b.typeIs Gg (Ck Gg b.typeIs Mf ?_ (Lp _)));show Wt _ _ (field (Bb it) 0>>=_) _ _ s;refine Aa (Fc c d (x:=.ref t) rfl ?_);show Wt _ _ (if(Bb t== .none)=ba then _ else _) _ _ s;rw[if_neg (show¬(Bb t==Value.none)=ba from Db)];show Wt _ _ (field (Bb it) 1>>=_) _ _ s;refine Aa (Fc c d (x:=.int i 0) rfl ?_);show Wt _ _ (seqItems? (Bb t)>>=_) _ _ s;refine Aa (Cy l n ?_);simp only[h,Hb];refine Aa (Gh (Aa (Kv c d (by simp) ?_)));show Wt _ _ (newExc (Es "StopIteration") []>>=_) _ _ _;refine Aa ?_;unfold newExc newTuple;refine Aa (Cp ?_ (by size_fits));refine Aa (m:=Nf _ _) (Oj (a:=Value.none) (by first|rfl|(unfold Nf;rfl)) (Cp ?_ (by size_fits)));unfold raiseNew;refine Aa (wpAny_handled ?_);first|rw[f]|rw[show A.in1.handled=b4 from f]
 refine Aa (Ad (wpAny_throw (k _ _ (((Ec ..).extBut.push _).push _) ⟨_,Ar _ rfl,rfl⟩)))
end
def oG{prog:Az}{w:Wv}{A:Bz}(j:A.handled=b4)(it t:Ws)(d:t≠it)(items:Array Wr):
  Draws prog w A it [it,t] items.size (λi v=>items[i]?=b0 v) (λi h=>h.IsTupleIter it t i/\h.IsTuple t items) where
 live:=λ_ _ st=>let ⟨o,c,_⟩:=st.1;⟨o,c⟩
 frame:=λ_ _ _ st f=>⟨st.1.at λo e=>f it (by simp) o e,by obtain⟨o,c,r⟩:=st.2;exact⟨o,f t (by simp) o c,r⟩⟩
 item:=λi s Q E g st k=>Q7 st.1 st.2 (x:=items[i]) (by simp[g]) λm a b=>k _ m s.toks (by simp[g]) ⟨a,st.2.extBut b.extBut d⟩ b
 done:=λs Q E st l=>PQ j st.1 st.2 (by simp) l
section
variable{X:Cx}{aa:List (Ws×Xc)}{σ:St}{H:Hp}{s:Af}{h':Wz}
def b9.turnedL{t':Nat}{fp:List Ws}(I:b9 X aa σ H s)(k:∀b o,b∉fp->s.heap.get? b=b0 o->h'.get? b=b0 o)(there:∀b∈fp,∃o,h'.get? b=b0 o)(d:∀b∈fp,K5 X aa H b):b9 X aa σ H {s with heap:=h',toks:=t'}:=by
 have a:∀b u,H b=b0 u->b∉fp:=λb u e z=>by rw[(d b z).1]at e;cases e
 have j:X.env.locals∉fp:=λz=>(d _ z).2.1 rfl;refine I.step (g':=s.gens) (d':=s.drawn) (ch:=fp) (λb i=>?_) (λb o _ _ hc e _=>k b o hc e) (λb o _ _ hc e _=>⟨o.slots,k b o hc e⟩) (λ_ _ _ _ n=>n)
  (λb o hc e=>⟨o,k b o hc e⟩) (λ_ _ e=>e) (λ_ _ _ e=>e) (λb x e=>⟨#[],by rw[e];simp⟩) (λm h=>?_) (λb u e=>?_) I.bare
 obtain⟨_,f1,f2,f3,p,l⟩:=d b i;exact⟨f3,f1,p,l⟩;obtain⟨o,t,w,g,r⟩:=h;exact⟨o,t,w,k _ o j g,r⟩;refine (I.hok b u e).stay (λc v hc q => k c v ?_ q) (λ_ q => q) λ_ _ q => q;rcases hc with z|z;rw[z];exact a b u e;exact a c _ z
end
section
variable{X:Cx}{aa:List (Ws×Xc)}{σ:St}{H:Hp}{s:Af}{h':Wz}
def b9.turnedL'{t':Nat}{fp:List Ws}(I:b9 X aa σ H s)(k:∀b o,b∉fp->s.heap.get? b=b0 o->h'.get? b=b0 o)(d:∀b∈fp,K5 X aa H b):b9 X aa σ H {s with heap:=h',toks:=t'}:=by
 have a:∀b u,H b=b0 u->b∉fp:=λb u e z=>by rw[(d b z).1]at e;cases e
 have j:X.env.locals∉fp:=λz=>(d _ z).2.1 rfl;refine I.step (g':=s.gens) (d':=s.drawn) (ch:=fp) (λb i=>?_) (λb o _ _ hc e _=>k b o hc e) (λb o _ _ hc e _=>⟨o.slots,k b o hc e⟩) (λ_ _ _ _ n=>n)
  (λb o hc e=>⟨o,k b o hc e⟩) (λ_ _ e=>e) (λ_ _ _ e=>e) (λb x e=>⟨#[],by rw[e];simp⟩) (λm h=>?_) (λb u e=>?_) I.bare
 obtain⟨_,f1,f2,f3,p,l⟩:=d b i;exact⟨f3,f1,p,l⟩;obtain⟨o,t,w,g,r⟩:=h;exact⟨o,t,w,k _ o j g,r⟩;refine (I.hok b u e).stay (λc v hc q => k c v ?_ q) (λ_ q => q) λ_ _ q => q;rcases hc with z|z;rw[z];exact a b u e;exact a c _ z
end
section
variable{prog:Az}{w:Wv}{h:Wz}{a it:Ws}{items:Array Wr}{xs:List V}{i:Nat}
def IQ(K:Au)(tup:Bool)(H:Hp)(a:Ws)(xs:List V):Prop:=if tup=ba then WT K H a xs else WZ K H a xs
def OW(tup:Bool)(h:Wz)(a:Ws)(items:Array Wr):Prop:=if tup=ba then h.IsTuple a items else h.IsList a items
def S8(tup:Bool)(h:Wz)(it a:Ws)(i:Nat):Prop:=if tup=ba then h.IsTupleIter it a i else h.IsListIter it a i
def eD{A:Bz}(b:A.handled=b4)(tup:Bool)(it t:Ws)(a:t≠it)(items:Array Wr):Draws prog w A it [it,t] items.size (λi v=>items[i]?=b0 v) (λi h=>S8 tup h it t i/\OW tup h t items):=by
 cases tup with
 |true=>exact oG b it t a items
 |false=>exact Draws.list b it t a items
def OW.lt{tup:Bool}(s:OW tup h a items):a<h.objs.size:=by
 cases tup with
 |true=>obtain⟨o,e,_⟩:=s;exact As e
 |false=>obtain⟨o,e,_⟩:=s;exact As e
def b9.srcA{X:Cx}{d:List (Ws×Xc)}{c:St}{H:Hp}{s:Af}{tup:Bool}(I:b9 X d c H s)(h:IQ X.K tup H a xs):∃b:List Wr,bT xs b/\OW tup s.heap a b.toArray/\xs.length<=sizeLine:=by
 cases tup with
 |true=>
  obtain⟨b,r,p,z⟩:=I.tuple h;exact⟨b,r,p,z⟩
 |false=>
  obtain⟨b,r,p,z⟩:=I.list h;exact⟨b,r,p.isList,z⟩
def b9.sq_inj{X:Cx}{c:List (Ws×Xc)}{b:St}{H:Hp}{s:Af}{ys:List V}{tup:Bool}(I:b9 X c b H s)(h:IQ X.K tup H a xs)(h':IQ X.K tup H a ys):xs=ys:=by
 cases tup with
 |true=>exact I.tuple_inj h h'
 |false=>exact I.list_inj h h'
def S8.at{tup:Bool}{h':Wz}(st:S8 tup h it a i)(k:∀o,h.get? it=b0 o->h'.get? it=b0 o):S8 tup h' it a i:=by
 cases tup with
 |true=>exact Heap.IsTupleIter.at st k
 |false=>exact Heap.IsListIter.at st k
def S8.obj{tup:Bool}(st:S8 tup h it a i):∃o,h.get? it=b0 o/\∀v,o.data≠ .cell v:=by
 cases tup with
 |true=>
  obtain⟨o,e,c,d⟩:=st;exact⟨o,e,λv z=>by rw[d]at z;cases z⟩
 |false=>
  obtain⟨o,e,c,d⟩:=st;exact⟨o,e,λv z=>by rw[d]at z;cases z⟩
def Ite(K:Au)(tup:Bool)(a:Ws):It:=
 ⟨λi H=>∃b x,IQ K tup H a b/\b[i]?=b0 x,λi H v c=>∃p x,(∀b,IQ K tup H a b->b[i]?=b0 x)/\H p=b4/\c=Z8 H p (.tup [.int i,x])/\v=.ref p,λi H=>∃b,IQ K tup H a b/\b.length=i⟩
def sh{P:Az}{K:Au}{es:List Ww}{k:Nat}{R:Pos}(tup:Bool)(a e it:Ws)(l:e≠it)(W:a≠e)(G:a≠it):
  CK P w K (.Tuple es k R) (Ite K tup a) [e,it] e (λi h=>(∃old,IsEnum h e it i old)/\S8 tup h it a i) where
 mem:=by simp
 obj:=λi h st b c=>by
  obtain⟨⟨old,m⟩,n⟩:=st;rcases Ak.mp c with z|z;subst z;exact⟨_,m,λv z=>by cases z⟩;have:=Aq.mp z
  subst this;exact n.obj
 keep:=λi h h' st N=>by obtain⟨⟨old,m⟩,n⟩:=st;exact⟨⟨old,N e (by simp) _ m⟩,n.at λo q=>N it (by simp) o q⟩
 item:=by
  intro X Y hw Z hc i aa s Q H E I C st V;subst Y hw Z;obtain⟨⟨old,m⟩,n⟩:=st;obtain⟨xs,x,O,B⟩:=V;obtain⟨f,M,p,hz⟩:=I.srcA O;have T:i<f.toArray.size:=by
   have:=(Ap.mp B).1
   have:=M.length
   simp only[At];lia
  have U:X.A.in1.handled=b4:=I.ok.hd hc;refine wpAny_pyNext_enum_itemD (eD U tup it a G f.toArray) m ⟨n,p⟩ T l (by simp[l,Dg W]) λu h1 g r ho y ht hsz hk=>⟨_,rfl,?_⟩;refine wpAny_letOwnedTupleGo_enum (s:={s with heap:=h1,toks:=g+1}) ho λJ D d=>?_;have d:Dw e h1 J:=d;obtain⟨t,S,ru⟩:=M.get B;have r:f.toArray[i]?=b0 u:=r;rw[List.getElem?_toArray,S]at r;have r:=Cd r;subst r;have N:∀b o,b∉[e,it]->s.heap.get? b=b0 o->J.get? b=b0 o:=λb o c q=>by have L:b≠e:=λz=>c (by simp[z]);have h2b:b≠it:=λz=>c (by simp[z]);exact(d.2 b L).trans (hk b o L h2b q)
  have cm:J.get? s.heap.objs.size=b0 {cls:=.type "tuple",data:=.seq #[.int i g,t]}:=(d.2 _ (Hg (As m))).trans ht;have bo:H s.heap.objs.size=b4:=I.hok.fresh (Al _);have ca:∀b∈[e,it],b<s.heap.objs.size:=λb c=>by
   rcases Ak.mp c with z|z;rw[z];exact As m;rw[Aq.mp z];obtain⟨o,q,_⟩:=n.obj;exact As q
  have I0:b9 X aa Q (Z8 H s.heap.objs.size (.tup [.int i,x])) {s with heap:=s.heap.push {cls:=.type "tuple",data:=.seq #[.int i g,t]},toks:=g}:=
   I.laid (λb o q=>Ae _ q) (Al _) ⟨by show 2<=sizeLine;decide,[.int i g,t],.cons ⟨g,rfl⟩ (.cons ru .nil),Ni _ _⟩
  have I1:b9 X aa Q (Z8 H s.heap.objs.size (.tup [.int i,x])) {s with heap:=J,toks:=g+1}:=by
   refine b9.turnedL (s:={s with heap:=s.heap.push {cls:=.type "tuple",data:=.seq #[.int i g,t]},toks:=g}) (h':=J) (t':=g+1) (fp:=[e,it]) I0 (λb o c q=>?_) (λb c=>?_) λb c=>⟨by rw[a8 (Bd (ca b c))];exact(C b c).1,(C b c).2⟩;by_cases F:b=s.heap.objs.size;subst F;have q:(s.heap.push {cls:=.type "tuple",data:=.seq #[.int i g,t]}).get? s.heap.objs.size=b0 o:=q;rw[Ar _ rfl]at q;cases q;exact cm;exact N b o c ((Ip _ _ _ F).symm.trans q);rcases Ak.mp c with z|z;rw[z];exact⟨_,D⟩;rw[Aq.mp z];obtain⟨o,q,_⟩:=y.1.obj;exact⟨o,(d.2 it (Dg l)).trans q⟩
  refine⟨.ref s.heap.objs.size,Z8 H s.heap.objs.size (.tup [.int i,x]),?_,rfl,⟨_,x,λys hy=>by rw[I.sq_inj hy O];exact B,bo,rfl,rfl⟩,⟨⟨_,by simpa using D⟩,y.1.at λo q=>(d.2 it (Dg l)).trans q⟩,λb c=>?_⟩;exact I1;rw[a8 (Bd (ca b c))];exact(C b c).1
 done:=by
  intro X Y hw Z hc i aa s Q H E I C st V;subst Y hw Z;obtain⟨⟨old,m⟩,n⟩:=st;obtain⟨xs,O,B⟩:=V;obtain⟨f,M,p,hz⟩:=I.srcA O;have U:X.A.in1.handled=b4:=I.ok.hd hc;have hn:f.toArray.size=i:=by rw[At,<-M.length];exact B
  refine wpAny_pyNext_enum_endD (eD U tup it a G f.toArray) m ⟨by rw[hn];exact n,p⟩ λh1 xb=>⟨rfl,?_⟩;obtain⟨f0,f1,f2,f3,f4,f5⟩:=C it (by simp);exact I.turned (t':=s.toks) (λb o c q=>xb b o c q) f0 f1 f3 f4 f5
 self:=λ_ i _ _ _ st h=>Sq st.1.choose_spec h
def sX(a:Ws)(items:Array Wr)(n:Nat)(l:Option Ws)(sl:Array (Option Wr)):Meets (Gy.«enumerate.__new__» ⟨[.type "enumerate",.ref a],[]⟩) (λ_ R s=>s.heap.get? a=b0 {cls:=.type "tuple",dict:=l,data:=.seq items n,slots:=sl}∧R (.ok (.ret (.ref (s.heap.push {cls:=.type "tuple_iterator",data:=.fields #[.ref a,.int 0 0]}).objs.size))) {s with heap:=(s.heap.push {cls:=.type "tuple_iterator",data:=.fields #[.ref a,.int 0 0]}).push {cls:=.type "enumerate",data:=.fields #[.none,.bool bb,.ref s.heap.objs.size,rawInt 0,.none,.none]}}):=by
 refine .of_wp λe w A R s h=>?_;obtain⟨k,g,d,j,os⟩:=s;obtain⟨b,h⟩:=h;have m:=sub_enumerate;have i:Heap.IsTuple (Uf ⟨k,g,d,j,os⟩) a items:=⟨_,b,rfl,n,rfl⟩;wp_walk using Fq b
 refine wpAny_stack_any λst=>Ad ?_;split
 ·rename_i c _ _ _ _ _
  cases (c==Es "enumerate")<;>(wp_walk using Fq b,Hu i;exact⟨_,rfl,h⟩)
 ·wp_walk using Fq b,Hu i
  exact⟨_,rfl,h⟩
def CS{A:Bz}{E:Wr->Af->Prop}{s:Af}{tup:Bool}{Q:Wr->Af->Prop}(hs:OW tup s.heap a items)(h:∀h',IsEnum h' (s.heap.objs.size+1) s.heap.objs.size 0 .none->S8 tup h' s.heap.objs.size a 0->(∀b o,s.heap.get? b=b0 o->h'.get? b=b0 o)->Q (.ref (s.heap.objs.size+1)) {s with heap:=h'}):Wt (Wu prog w) A (call (.type "enumerate") [.ref a]) Q E s:=by
 cases tup with
 |false=>exact call_enumerate_list hs λh' m l _ a4=>h h' m l a4
 |true=>
  obtain⟨⟨k,j,i,sl⟩,g,hc,n,d⟩:=hs;replace hc:k=.type "tuple":=hc;replace d:i=.seq items n:=d
  subst hc d;have e:(s.heap.push {cls:=.type "tuple_iterator",data:=.fields #[.ref a,.int 0 0]}).objs.size=s.heap.objs.size+1:=En ..;refine callType_new F.called_enumerate (by decide) (F.typeCall_enumerate_1 _) (F.newCall_enumerate_1 _) (λobj=>F.args_object_init_2 obj _) F.entry_enumerate_new (sX a items n j sl) ⟨g,?_⟩;show _/\_;rw[e];have c:=Ar (s.heap.push {cls:=.type "tuple_iterator",data:=.fields #[.ref a,.int 0 0]}) (o:={cls:=.type "enumerate",data:=.fields #[.none,.bool bb,.ref s.heap.objs.size,rawInt 0,.none,.none]}) rfl;rw[e]at c;exact⟨⟨_,c,rfl⟩,h _ c ⟨_,Ae _ (Ar _ rfl),rfl,rfl⟩ λb o x=>Ae _ (Ae _ x)⟩
def GW:Bv "enumerate"=b0 (.type "enumerate"):=by decide+kernel
def jT:Bv "zip"=b0 (.type "zip"):=by decide+kernel
end
section
variable{X:Cx}{K:Au}{ml:List Nat}{l:Ww}{pu:Bool}{f:VF}{p pos c8:Pos}{es:List Ww}{tk:Nat}{δ:Ev}
def iEnu(K:Au)(e:TE):TI:=λc H R=>e c H λx b=>∃a tup,x=.ref a/\(∃d,IQ K tup b a d)/\R (Ite K tup a) b
def lG{r:TE}(F:Gl X "enumerate")(E:X.mg "enumerate"=b4)(hl:PE X l r)(v:SE X l []:=by rfl):PI X (.Tuple es tk c8) (.Call (.Name "enumerate" p) [l] [] pos) (iEnu X.K r):=by
 intro w s o H R I h;refine Hy (QW I F E GW ?_ (by decide) (by decide));refine Fa (Y7 (bV hl Z1 v pos w s o H (λj e=>match j with
  |[x]=>∃a tup,x=.ref a/\(∃q,IQ X.K tup e a q)/\R (Ite X.K tup a) e
  |_=>False) I h) λM c ⟨j,e,i,k,q1⟩=>?_) v (by rfl)
 match j,k,q1 with
 |[x],k,q1=>
  obtain⟨a,tup,rfl,⟨q,C⟩,G⟩:=q1;obtain⟨u,rfl,y⟩:=VZ k;cases y;obtain⟨B,N,d,_⟩:=i.srcA C;refine CS d λJ f m A=>?_;have L:b9 X w o e {c with heap:=J}:=i.kept (t':=c.toks) A;have D:∀b,c.heap.objs.size<=b->e b=b4:=λb n=>i.hok.fresh n;refine Sq f ⟨c.heap.objs.size+1,[c.heap.objs.size+1,c.heap.objs.size],_,Ite X.K tup a,e,rfl,L,sh tup a (c.heap.objs.size+1) c.heap.objs.size (Nat.succ_ne_self _) (λz=>?_) (λz=>?_),⟨⟨_,f⟩,m⟩,λb n=>?_,G⟩;have:=d.lt
  rw[z]at this;exact absurd this (Nat.not_lt_of_le (Jf _));have:=d.lt
  rw[z]at this;exact absurd this (By _);have g:c.heap.objs.size<=b:=by
   rcases Ak.mp n with z|z;rw[z];exact Jf _;rw[Aq.mp z];exact Al _
  exact i.fpOk g (D b g)
def qt(h:X.K=K){a:TE}(c:Gl X "enumerate")(b:X.mg "enumerate"=b4)(hl:PE X l a)(d:SE X l []:=by rfl):PI X (.Tuple es tk c8) (.Call (.Name "enumerate" p) [l] [] pos) (iEnu K a):=by subst h;exact lG c b hl d
def XW:Nat->List cY->List cY
 |_,[]=>[]
 |i,d::a=>.tup [.int i,d]::XW (i+1) a
def LQ(f:VF):VI:=λδ=>(f δ).bind λp=>(YH p.1).map λa=>(XW 0 a,p.2)
theorem LF:∀{ds:List cY}{n i:Nat}{d:cY},(XW n ds)[i]?=b0 d->∃x,ds[i]?=b0 x/\d=.tup [.int (n+i:Nat),x]
 |[],_,_,_,h=>by simp[XW]at h
 |x::ds,n,0,d,h=>by simp[XW]at h;exact⟨x,rfl,h.symm⟩
 |x::ds,n,i+1,d,h=>by
  have h:(XW (n+1) ds)[i]?=b0 d:=by simpa[XW]using h
  obtain⟨y,b,a⟩:=LF h;exact⟨y,by simpa using b,by rw[a,show n+1+i=n+(i+1) by lia]⟩
theorem LG:∀(ds:List cY) (n:Nat),(XW n ds).length=ds.length
 |[],_=>rfl
 |_::ds,n=>congrArg (· +1) (LG ds (n+1))
def KL{a:Ws}{tup:Bool}{ds:List cY}:Walk K (Ite K tup a) [(.ref a,if tup=ba then .tup ds else .lst ds)] (XW 0 ds):=by
 intro N H h;have r:=h _ (Aq.mpr rfl);have b:∀c,IQ K tup H a c->cA K N H c ds->(∀(i:Nat) (d:cY),(XW 0 ds)[i]?=b0 d->(Ite K tup a).go i H/\∀x f,(Ite K tup a).yld i H x f->aS H f/\bE K N f N x d)/\(Ite K tup a).stop (XW 0 ds).length H:=λc sq r=>by
  refine⟨λi d e=>?_,c,sq,by rw[r.length,LG]⟩;obtain⟨z,o,rfl⟩:=LF e;obtain⟨x,j,k⟩:=r.get o;refine⟨⟨c,x,sq,j⟩,λy f l=>?_⟩;obtain⟨p,s,m,g,rfl,rfl⟩:=l;have:=m c sq;rw[j]at this;cases this;refine⟨cQ g,.tup (WT.of b6) (.cons ?_ (.cons (k.same (cQ g)) .nil))⟩;rw[Gm];exact .int _
 cases tup with
 |true=>
  have r:bE K N H N (.ref a) (.tup ds):=r;cases r.onT with
  |tup sq r=>exact b _ sq r
 |false=>
  have r:bE K N H N (.ref a) (.lst ds):=r;cases r.onL with
  |lst q n r=>exact b _ (WZ.of q) r
  |fzl q r=>exact b _ q.sq r
def IE(t:X.K=K)(o:Gl X "enumerate")(n:X.mg "enumerate"=b4)(h:PE X l (TV K ml pu ba ba f))(s:SE X l []:=by rfl):
  PI X (.Tuple es tk c8) (.Call (.Name "enumerate" p) [l] [] pos) (TIV K ml pu (LQ f)):=(qt (K:=K) t o n h s).imp λw H R g=>by
 obtain⟨B,O,δ,y,m,S,q,k⟩:=g;unfold LQ at q;obtain⟨⟨x,d⟩,u,q⟩:=Ac.mp q;refine⟨B,O,δ,x,d,S,u,λv j b=>?_⟩;cases x with
 |lst c=>
  cases q;obtain⟨a,e,rfl,sq,r⟩:=b.rep.lstE;exact⟨a,bb,rfl,⟨e,sq⟩,k _ [(.ref a,.lst c)] j (b.sta.keepV λp i=>by rw[Aq.mp i];exact b.rep) b.frm b.pur (KL (tup:=bb))⟩
 |tup c=>
  cases q;obtain⟨a,e,rfl,sq,r⟩:=b.rep.tupE;exact⟨a,ba,rfl,⟨e,sq⟩,k _ [(.ref a,.tup c)] j (b.sta.keepV λp i=>by rw[Aq.mp i];exact b.rep) b.frm b.pur (KL (tup:=ba))⟩
 |_=>cases q
end
section
variable{prog:Az}{w:Wv}{A:Bz}{E:Wr->Af->Prop}{s:Af}
section
variable{h h':Wz}{it a z q:Ws}{i:Nat}{xs ys:Array Wr}{x y:Wr}{Q:Wr->Af->Prop}{J:Bool}
def S8.ext{tup:Bool}{b:Ws}(x:S8 tup h it a i)(hs:Kk b h h')(c:it≠b):S8 tup h' it a i:=x.at λo e=>hs _ _ c e
def OW.ext{tup:Bool}{b:Ws}(x:OW tup h a xs)(hs:Kk b h h')(c:a≠b):OW tup h' a xs:=by
 cases tup with
 |true=>obtain⟨o,e,r⟩:=x;exact⟨o,hs _ _ c e,r⟩
 |false=>obtain⟨o,e,r⟩:=x;exact⟨o,hs _ _ c e,r⟩
def QX{tup:Bool}(c:S8 tup s.heap it a i)(hs:OW tup s.heap a xs)(b:xs[i]?=b0 x)(e:∀h',S8 tup h' it a (i+1)->Dw it s.heap h'->Q x {s with heap:=h'}):Wt (Wu prog w) A (Cm (.ref it)) Q E s:=by
 cases tup with
 |true=>exact Q7 c hs b e
 |false=>exact wpAny_nextOf_list_item c hs b e
def JX{tup:Bool}(d:A.handled=b4)(c:S8 tup s.heap it a i)(hs:OW tup s.heap a xs)(b:xs[i]?=b4)(g:∀h' e,Kk it s.heap h'->(∃o,h'.get? e=b0 o/\o.cls=.type "StopIteration")->E (.ref e) {s with heap:=h'}):Wt (Wu prog w) A (Cm (.ref it)) Q E s:=by
 cases tup with
 |true=>exact PQ d c hs b g
 |false=>exact wpAny_nextOf_list_end d c hs b g
structure ZSt(t1 t2:Bool)(h:Wz)(z p q i1 i2 a b:Ws)(k:Nat)(f0:Wr):Prop where
 zip:IsZip h z p q f0
 its:IsPair h p (.ref i1) (.ref i2)
 res:∃u v,IsPair h q u v
 one:S8 t1 h i1 a k
 two:S8 t2 h i2 b k
def lz{I:Bool}{p h f b:Ws}{k:Nat}(D:Ql z p q h f a b)(S:ZSt J I s.heap z p q h f a b k .none)(s1:OW J s.heap a xs)(s2:OW I s.heap b ys)(hx:xs[k]?=b0 x)(hy:ys[k]?=b0 y)(hQ:∀h',ZSt J I h' z p q h f a b (k+1) (rawInt s.heap.objs.size)->IsPair h' s.heap.objs.size x y->h'.objs.size=s.heap.objs.size+1->(∀c o,c≠z->c≠q->c≠h->c≠f->s.heap.get? c=b0 o->h'.get? c=b0 o)->Q (.ref s.heap.objs.size) {s with heap:=h'}):Wt (Wu prog w) A (Gy.«zip.__next__» ⟨[.ref z],[]⟩) (λP s'=>∃v,P=.done (.ret v)/\Q v s') E s:=by
 obtain⟨C,gi,⟨u,v,gr⟩,g1,g2⟩:=S;show Wt _ _ (field (Bb z) 2>>=_) _ _ _;refine Aa (Fc C rfl (x:=.bool bb) rfl ?_);show Wt _ _ (field (Bb z) 3>>=_) _ _ _;refine Aa (Fc C rfl (x:=.ref p) rfl (Aa (Cy gi rfl ?_)));show Wt _ _ (Er (Bb z)>>=_) _ _ _;refine Aa ?_
 (unfold Er)
 refine Aa (Fc C rfl (x:=.none) rfl (Ad ?_));simp only[if_true];refine Aa (Gh (Aa (Fc C rfl (x:=.ref q) rfl (Aa (Gr C (by simp) λha N j=>Aa ?_)))));have N:IsZip ha z p q .ellipsis:=N;simp only[Ug,Tl,Gw,Fo];refine Aa (Aa (Ol ?_));show Wt _ _ (Cm (Bb h)>>=_) _ _ _;refine Aa (QX (g1.ext j.extBut D.i1z) (s1.ext j.extBut D.l1z) hx λhb n1 m=>Ad ?_);have Y:IsPair hb q u v:=m.extBut _ _ D.TOi1 (j.extBut _ _ D.TOz gr);refine Aa (Cy Y rfl (Aa (Ll Y λhc O l=>Aa (Uh (Ad ?_)))));have O:IsPair hc q x v:=O;refine Aa (Aa (Ol ?_));show Wt _ _ (Cm (Bb f)>>=_) _ _ _;refine Aa (QX (((g2.ext j.extBut D.i2z).ext m.extBut D.i12.symm).ext l.extBut D.TOi2.symm) (((s2.ext j.extBut D.l2z).ext m.extBut D.l2i1).ext l.extBut D.l2TO) hy λhd n2 G=>Ad ?_);have X:IsPair hd q x v:=G.extBut _ _ D.TOi2 O;refine Aa (Cy X rfl (Aa (Ll X λd K F=>Aa (Uh (Ad (Ad ?_))))));have K:IsPair d q x y:=K;refine Aa (Cy K rfl (Aa (wpAny_newTuple ?_)));have e:d.objs.size=s.heap.objs.size:=by rw[F.1,G.1,l.1,m.1,j.1]
 have V:IsZip d z p q .ellipsis:=F.extBut _ _ D.TOz.symm (G.extBut _ _ D.i2z.symm (l.extBut _ _ D.TOz.symm (m.extBut _ _ D.i1z.symm N)));have Z:∀c o,c≠z->c≠q->c≠h->c≠f->s.heap.get? c=b0 o->d.get? c=b0 o:=λc o i L T R g=>F.extBut _ _ L (G.extBut _ _ R (l.extBut _ _ L (m.extBut _ _ T (j.extBut _ _ i g))));have e1:S8 J d h a (k+1):=((n1.ext l.extBut D.TOi1.symm).ext G.extBut D.i12).ext F.extBut D.TOi1.symm;have e2:S8 I d f b (k+1):=n2.ext F.extBut D.TOi2.symm;have ie:IsPair d p (.ref h) (.ref f):=Z _ _ D.TIz D.TITO D.TIi1 D.TIi2 gi;have n:z<d.objs.size:=As V;show Wt _ _ (Ix (Bb z) (.ref d.objs.size)>>=_) _ _ _;refine Aa ?_
 (unfold Ix)
 have zf:IsZip (d.push {cls:=.type "tuple",data:=.seq #[x,y]}) z p q .ellipsis:=Ae _ V;refine Aa (Gr zf (by simp) λhg M U=>?_);have M:IsZip hg z p q (rawInt d.objs.size):=M;refine Gr M (by simp) λB H bk=>?_;have H:IsZip B z p q (rawInt d.objs.size):=H;have r:∀c o,c≠z->d.get? c=b0 o->B.get? c=b0 o:=λc o i g=>bk.extBut _ _ i (U.extBut _ _ i (Ae _ g));have W:IsPair B d.objs.size x y:=bk.extBut _ _ (Hg n) (U.extBut _ _ (Hg n) (Ar _ rfl));have t:B.objs.size=d.objs.size+1:=by rw[bk.1,U.1,En]
 rw[e]at H W t;refine Ad ⟨_,rfl,?_⟩;show Q (.ref d.objs.size) _;rw[e];exact hQ B ⟨H,r _ _ D.TIz ie,⟨x,y,r _ _ D.TOz K⟩,e1.at λo g=>r _ o D.i1z g,e2.at λo g=>r _ o D.i2z g⟩ W t λc o i L T R g=>r c o i (Z c o i L T R g)
def oq{K:Bool}{p t r b:Ws}{k:Nat}{Q:Fin->Af->Prop}(N:A.handled=b4)(D:Ql z p q t r a b)(S:ZSt K J s.heap z p q t r a b k .none)(L:OW K s.heap a xs)(V:OW J s.heap b ys)(db:xs[k]?=b4∨ys[k]?=b4)(P:∀h' e,(∀c o,c≠z->c≠q->c≠t->c≠r->s.heap.get? c=b0 o->h'.get? c=b0 o)->(∃o,h'.get? e=b0 o/\o.cls=.type "StopIteration")->E (.ref e) {s with heap:=h'}):Wt (Wu prog w) A (Gy.«zip.__next__» ⟨[.ref z],[]⟩) Q E s:=by
 obtain⟨j,gi,⟨u,v,gr⟩,R,g2⟩:=S;show Wt _ _ (field (Bb z) 2>>=_) _ _ _;refine Aa (Fc j rfl (x:=.bool bb) rfl ?_);show Wt _ _ (field (Bb z) 3>>=_) _ _ _;refine Aa (Fc j rfl (x:=.ref p) rfl (Aa (Cy gi rfl ?_)));show Wt _ _ (Er (Bb z)>>=_) _ _ _;refine Aa ?_
 (unfold Er)
 refine Aa (Fc j rfl (x:=.none) rfl (Ad ?_));simp only[if_true];refine Aa (Gh (Aa (Fc j rfl (x:=.ref q) rfl (Aa (Gr j (by simp) λZ n d=>Aa ?_)))));have n:IsZip Z z p q .ellipsis:=n;simp only[Ug,Tl,Gw,Fo];refine Aa (Aa (Ol ?_));show Wt _ _ (Cm (Bb t)>>=_) _ _ _;cases C:xs[k]? with
 |none=>
  refine Aa (JX N (R.ext d.extBut D.i1z) (L.ext d.extBut D.l1z) C λF e f ⟨y,h,l⟩=>?_);have I:IsZip F z p q .ellipsis:=f _ _ D.i1z.symm n;have B:e≠z:=λw=>by subst w;rw[I]at h;cases h;simp at l
  exact Gr I (by simp) λhc _ i=>P hc e (λc o m _ G _ g=>i.extBut _ _ m (f _ _ G (d.extBut _ _ m g))) ⟨y,i.extBut _ _ B h,l⟩
 |some x=>
  have W:ys[k]?=b4:=db.resolve_left λw=>by rw[C]at w;cases w
  refine Aa (QX (R.ext d.extBut D.i1z) (L.ext d.extBut D.l1z) C λF n1 f=>Ad ?_);have M:IsPair F q u v:=f.extBut _ _ D.TOi1 (d.extBut _ _ D.TOz gr);refine Aa (Cy M rfl (Aa (Ll M λhc rc i=>Aa (Uh (Ad (Aa (Aa (Ol ?_))))))));show Wt _ _ (Cm (Bb r)>>=_) _ _ _;refine Aa (JX N (((g2.ext d.extBut D.i2z).ext f.extBut D.i12.symm).ext i.extBut D.TOi2.symm) (((V.ext d.extBut D.l2z).ext f.extBut D.l2i1).ext i.extBut D.l2TO) W λY e U ⟨y,h,l⟩=>?_);have H:IsZip Y z p q .ellipsis:=U _ _ D.i2z.symm (i.extBut _ _ D.TOz.symm (f.extBut _ _ D.i1z.symm n));have B:e≠z:=λw=>by subst w;rw[H]at h;cases h;simp at l
  exact Gr H (by simp) λX _ T=>P X e (λc o m c2 G c4 g=>T.extBut _ _ m (U _ _ c4 (i.extBut _ _ c2 (f.extBut _ _ G (d.extBut _ _ m g))))) ⟨y,T.extBut _ _ B h,l⟩
def DA{g f:Bool}{p e d b:Ws}{k:Nat}{Q:Option Wr->Af->Prop}(D:Ql z p q e d a b)(S:ZSt g f s.heap z p q e d a b k .none)(j:OW g s.heap a xs)(i:OW f s.heap b ys)(m:xs[k]?=b0 x)(l:ys[k]?=b0 y)(n:∀h',ZSt g f h' z p q e d a b (k+1) (rawInt s.heap.objs.size)->IsPair h' s.heap.objs.size x y->h'.objs.size=s.heap.objs.size+1->(∀c o,c≠z->c≠q->c≠e->c≠d->s.heap.get? c=b0 o->h'.get? c=b0 o)->Q (b0 (.ref s.heap.objs.size)) {s with heap:=h'}):Wt (Wu prog w) A (pyNext (.ref z)) Q E s:=by
 have ty:s.TypeIs (.ref z) "zip":=⟨_,S.zip,rfl⟩
 (unfold pyNext)
 exact Aa (Om (Dc (name:=Ay "__next__") ty Mg (Ck Mg ty Tn (lz D S j i m l λh' u t r a4=>Ad (n h' u t r a4)) (Sr _))))
def lN{h g:Bool}{p f d b:Ws}{k:Nat}{Q:Option Wr->Af->Prop}(n:A.handled=b4)(D:Ql z p q f d a b)(S:ZSt h g s.heap z p q f d a b k .none)(l:OW h s.heap a xs)(j:OW g s.heap b ys)(u:xs[k]?=b4∨ys[k]?=b4)(r:∀h',(∀c o,c≠z->c≠q->c≠f->c≠d->s.heap.get? c=b0 o->h'.get? c=b0 o)->Q b4 {s with heap:=h'}):Wt (Wu prog w) A (pyNext (.ref z)) Q E s:=by
 have ty:s.TypeIs (.ref z) "zip":=⟨_,S.zip,rfl⟩
 (unfold pyNext)
 refine Aa (Om (Dc (name:=Ay "__next__") ty Mg (Ck Mg ty Tn (oq n D S l j u λh' e m ⟨o,t,v⟩=>?_) (Sr _))));exact Aa (Gi (T:= "StopIteration") (b:=ba) ⟨o,t,v⟩ isSubtype_stop (Ad (r _ m)))
end
end
section
variable{prog:Az}{w:Wv}{E Q:Wr->Af->Prop}{a:Ws}{xs:Array Wr}{h:Wz}
def jL(tup:Bool):String:=if tup=ba then "tuple_iterator" else "list_iterator"
abbrev zO(tup:Bool)(a:Ws):Xc:={cls:=.type (jL tup),data:=.fields #[.ref a,.int 0 0]}
def Zn{A:Bz}{s:Af}{tup:Bool}(h:OW tup s.heap a xs)(c:Q (.ref s.heap.objs.size) {s with heap:=s.heap.push (zO tup a)}):Wt (Wu prog w) A (Tc (.ref a)) Q E s:=by
 cases tup with
 |true=>exact Hu h c
 |false=>exact Fx h c
def OW.push{tup:Bool}(x:OW tup h a xs)(o:Xc):OW tup (h.push o) a xs:=by
 cases tup with
 |true=>obtain⟨o,e,r⟩:=x;exact⟨o,Ae _ e,r⟩
 |false=>obtain⟨o,e,r⟩:=x;exact⟨o,Ae _ e,r⟩
def iL(c e:Bool)(a b:Ws)(xs ys:Array Wr):Meets (Gy.«zip.__new__» ⟨[.type "zip",.ref a,.ref b],[]⟩) (λ_ R s=>OW c s.heap a xs/\OW e s.heap b ys/\∀k j i f p,k=s.heap.push (zO c a)->j=k.push (zO e b)->i=j.push {cls:=.type "tuple",data:=.seq #[.ref s.heap.objs.size,.ref k.objs.size]}->f=i.push {cls:=.type "tuple",data:=.seq #[.none,.none]}->p=f.push {cls:=.type "zip",data:=.fields #[.none,.bool bb,.bool bb,.ref j.objs.size,.ref i.objs.size]}->R (.ok (.ret (.ref f.objs.size))) {s with heap:=p}):=by
 refine .of_wp λm w A R s h=>?_;obtain⟨n,g,d,l,os⟩:=s;obtain⟨u,t,h⟩:=h;have v:=sub_zip;have r:OW c (Uf ⟨n,g,d,l,os⟩) a xs:=u;have q:OW e (Uf ⟨n.push (zO c a),g,d,l,os⟩) b ys:=OW.push t _;wp_walk using Zn r,Zn q
 exact⟨_,rfl,h _ _ _ _ _ rfl rfl rfl rfl rfl⟩
def mR{A:Bz}{s:Af}{f e:Bool}{b:Ws}{ys:Array Wr}(N:OW f s.heap a xs)(M:OW e s.heap b ys)(h:∀h',ZSt f e h' (s.heap.objs.size+4) (s.heap.objs.size+2) (s.heap.objs.size+3) s.heap.objs.size (s.heap.objs.size+1) a b 0 .none->(∀c o,s.heap.get? c=b0 o->h'.get? c=b0 o)->Q (.ref (s.heap.objs.size+4)) {s with heap:=h'}):Wt (Wu prog w) A (call (.type "zip") [.ref a,.ref b]) Q E s:=by
 refine callType_new F.called_zip (by decide) (F.typeCall_zip_2 _ _) (F.newCall_zip_2 _ _) (λobj=>F.args_object_init_3 obj _ _) F.entry_zip_new (iL f e a b xs ys) ⟨N,M,?_⟩;rintro j i g r d x v u t K;have m:j.objs.size=s.heap.objs.size+1:=by rw[x,En]
 have l:i.objs.size=s.heap.objs.size+2:=by rw[v,En,m]
 have k:g.objs.size=s.heap.objs.size+3:=by rw[u,En,l]
 have y:r.objs.size=s.heap.objs.size+4:=by rw[t,En,k]
 have z:∀c o,r.get? c=b0 o->d.get? c=b0 o:=λc o q=>by rw[K];exact Ae _ q
 have B:∀c o,g.get? c=b0 o->d.get? c=b0 o:=λc o q=>z c o (by rw[t];exact Ae _ q);have C:∀c o,i.get? c=b0 o->d.get? c=b0 o:=λc o q=>B c o (by rw[u];exact Ae _ q);have D:∀c o,j.get? c=b0 o->d.get? c=b0 o:=λc o q=>C c o (by rw[v];exact Ae _ q);have L:∀c o,s.heap.get? c=b0 o->d.get? c=b0 o:=λc o q=>D c o (by rw[x];exact Ae _ q);have n:d.get? r.objs.size=b0 {cls:=.type "zip",data:=.fields #[.none,.bool bb,.bool bb,.ref i.objs.size,.ref g.objs.size]}:=by rw[K];exact Ar _ rfl
 have G:d.get? g.objs.size=b0 {cls:=.type "tuple",data:=.seq #[.none,.none]}:=z _ _ (by rw[t];exact Ar _ rfl);have H:d.get? i.objs.size=b0 {cls:=.type "tuple",data:=.seq #[.ref s.heap.objs.size,.ref j.objs.size]}:=B _ _ (by rw[u];exact Ar _ rfl);have p:d.get? j.objs.size=b0 (zO e b):=C _ _ (by rw[v];exact Ar _ rfl);have I:d.get? s.heap.objs.size=b0 (zO f a):=D _ _ (by rw[x];exact Ar _ rfl);show _/\_;rw[l,k,y]at n;rw[k]at G;rw[m,l]at H;rw[m]at p;rw[y];refine⟨⟨_,n,rfl⟩,h _ ⟨n,H,⟨_,_,G⟩,?_,?_⟩ L⟩;cases f with
 |true=>exact⟨_,I,rfl,rfl⟩
 |false=>exact⟨_,I,rfl,rfl⟩
 cases e with
 |true=>exact⟨_,p,rfl,rfl⟩
 |false=>exact⟨_,p,rfl,rfl⟩
def pV(n a b:Nat)(d:a<n)(c:b<n):Ql (n+4) (n+2) (n+3) n (n+1) a b:=by
 have f:∀x y:Nat,x<y∨y<x->x≠y:=λx y h=>by lia
 exact⟨f _ _ (by lia),f _ _ (by lia),f _ _ (by lia),f _ _ (by lia),f _ _ (by lia),f _ _ (by lia),f _ _ (by lia),f _ _ (by lia),f _ _ (by lia),f _ _ (by lia),f _ _ (by lia),f _ _ (by lia),f _ _ (by lia),f _ _ (by lia),f _ _ (by lia),f _ _ (by lia),f _ _ (by lia),f _ _ (by lia)⟩
def Itz(K:Au)(f e:Bool)(a b:Ws):It:=
  ⟨λi H=>∃d c x y,IQ K f H a d/\IQ K e H b c/\d[i]?=b0 x/\c[i]?=b0 y,λi H v g=>∃p x y,(∀d,IQ K f H a d->d[i]?=b0 x)/\(∀c,IQ K e H b c->c[i]?=b0 y)/\H p=b4/\g=Z8 H p (.tup [x,y])/\v=.ref p,λi H=>∃d c,IQ K f H a d/\IQ K e H b c/\(d.length<=i∨c.length<=i)⟩
def ZSt.all{j i:Bool}{z p q f d b c:Ws}{k:Nat}{l:Wr}(st:ZSt j i h z p q f d a b k l)(hc:c∈[z,p,q,f,d]):∃o,h.get? c=b0 o/\∀v,o.data≠ .cell v:=by
 simp only[Ak,Br,or_false]at hc;rcases hc with rfl|rfl|rfl|rfl|rfl;exact⟨_,st.zip,λv e=>by cases e⟩;exact⟨_,st.its,λv e=>by cases e⟩;obtain⟨u,v,g⟩:=st.res;exact⟨_,g,λv e=>by cases e⟩;exact st.one.obj;exact st.two.obj
def kH{P:Az}{K:Au}{es:List Ww}{k:Nat}{R:Pos}(M L:Bool)(z p q l j a b:Ws)(D:Ql z p q l j a b):
  CK P w K (.Tuple es k R) (Itz K M L a b) [z,p,q,l,j] z (λi h=>ZSt M L h z p q l j a b i .none) where
 mem:=by simp
 obj:=λ_ _ st _ hc=>st.all hc
 keep:=λi h h' st B=>by obtain⟨u,v,g⟩:=st.res;exact⟨B z (by simp) _ st.zip,B p (by simp) _ st.its,⟨u,v,B q (by simp) _ g⟩,st.one.at λo e=>B l (by simp) o e,st.two.at λo e=>B j (by simp) o e⟩
 item:=by
  intro X W hw Y hc i aa s J H E I C st U;subst W hw Y;obtain⟨xs,ys,x,y,n,m,hx,hy⟩:=U;obtain⟨us,Q,g1,_⟩:=I.srcA n;obtain⟨vs,O,Z,_⟩:=I.srcA m;obtain⟨u,hu,ru⟩:=Q.get hx;obtain⟨v,hv,rv⟩:=O.get hy;refine DA D st g1 Z (by simpa using hu) (by simpa using hv) λG d hp hsz T=>⟨_,rfl,?_⟩;refine wpAny_letOwnedTupleGo_zip (s:={s with heap:=G}) d.zip λt z2 N=>?_;have N:Dw z G t:=N;have lt:∀c∈[z,p,q,l,j],c<s.heap.objs.size:=λc hc=>let ⟨_,e,_⟩:=st.all hc;As e
  have r:∀c o,c≠z->G.get? c=b0 o->t.get? c=b0 o:=λc o V e=>(N.2 c V).trans e;have A:ZSt M L t z p q l j a b (i+1) .none:=by obtain⟨u',v',g⟩:=d.res;exact⟨z2,r _ _ D.TIz d.its,⟨u',v',r _ _ D.TOz g⟩,d.one.at λo e=>r _ o D.i1z e,d.two.at λo e=>r _ o D.i2z e⟩
  have cm:t.get? s.heap.objs.size=b0 {cls:=.type "tuple",data:=.seq #[u,v]}:=r _ _ (Hg (lt z (by simp))) hp;have bo:H s.heap.objs.size=b4:=I.hok.fresh (Al _);have I0:b9 X aa J (Z8 H s.heap.objs.size (.tup [x,y])) {s with heap:=s.heap.push {cls:=.type "tuple",data:=.seq #[u,v]},toks:=s.toks}:=
   I.laid (λc o e=>Ae _ e) (Al _) ⟨by show 2<=sizeLine;decide,[u,v],.cons ru (.cons rv .nil),Ni _ _⟩
  have I1:b9 X aa J (Z8 H s.heap.objs.size (.tup [x,y])) {s with heap:=t,toks:=s.toks}:=by
   refine b9.turnedL (s:={s with heap:=s.heap.push {cls:=.type "tuple",data:=.seq #[u,v]},toks:=s.toks}) (h':=t) (t':=s.toks) (fp:=[z,p,q,l,j]) I0 (λc o hc e=>?_) (λc hc=>?_) λc hc=>⟨by rw[a8 (Bd (lt c hc))];exact(C c hc).1,(C c hc).2⟩;by_cases F:c=s.heap.objs.size;subst F;have e:(s.heap.push {cls:=.type "tuple",data:=.seq #[u,v]}).get? s.heap.objs.size=b0 o:=e;rw[Ar _ rfl]at e;cases e;exact cm;have e':=(Ip _ _ _ F).symm.trans e;exact r c o (λw=>hc (by simp[w])) (T c o (λw=>hc (by simp[w])) (λw=>hc (by simp[w])) (λw=>hc (by simp[w])) (λw=>hc (by simp[w])) e');exact let ⟨o,e,_⟩:=A.all hc;⟨o,e⟩
  exact⟨.ref s.heap.objs.size,_,I1,rfl,⟨_,x,y,λzs S=>by rw[I.sq_inj S n];exact hx,λzs S=>by rw[I.sq_inj S m];exact hy,bo,rfl,rfl⟩,A,λc hc=>by rw[a8 (Bd (lt c hc))];exact(C c hc).1⟩
 done:=by
  intro X W hw Y hc i aa s J H E I C st U;subst W hw Y;obtain⟨xs,ys,n,m,db⟩:=U;obtain⟨us,Q,g1,_⟩:=I.srcA n;obtain⟨vs,O,Z,_⟩:=I.srcA m;have l1:=Q.length;have l2:=O.length;have he:us.toArray[i]?=b4∨vs.toArray[i]?=b4:=by
   rcases db with z|z;exact .inl (by simp;lia);exact .inr (by simp;lia)
  refine lN (I.ok.hd hc) D st g1 Z he λG T=>⟨rfl,?_⟩;have fq:∀c∈[z,q,l,j],c∈[z,p,q,l,j]:=λc hc=>by simp only[Ak,Br,or_false]at hc⊢;rcases hc with w|w|w|w<;>simp[w]
  have I':=b9.turnedL' (s:=s) (h':=G) (t':=s.toks) (fp:=[z,q,l,j]) I (λc o hc e=>T c o (λw=>hc (by simp[w])) (λw=>hc (by simp[w])) (λw=>hc (by simp[w])) (λw=>hc (by simp[w])) e) λc hc=>C c (fq c hc);exact I'
 self:=λ_ i _ _ _ st h=>wpAny_pyIter_zip st.zip h
end
section
variable{X:Cx}{K:Au}{ml:List Nat}{l m:Ww}{pa ta ia pb tb ib:Bool}{f g:VF}{p pos c8:Pos}{es:List Ww}{tk:Nat}{δ:Ev}
def iZp(K:Au)(i tm:TE):TI:=λd H R=>i d H λx j=>tm d j λy c=>∃a b f e,x=.ref a/\y=.ref b/\(∃h,IQ K f c a h)/\(∃g,IQ K e c b g)/\R (Itz K f e a b) c
def nu{C tm:TE}(T:Gl X "zip")(S:X.mg "zip"=b4)(hl:PE X l C)(Q:PE X m tm)(F:SE X l [m]:=by rfl)(t:SE X m []:=by rfl)(r:(Hk pos (Bi [m] X.env)).any (·.1)=bb:=by rfl):PI X (.Tuple es tk c8) (.Call (.Name "zip" p) [l,m] [] pos) (iZp X.K C tm):=by
 intro L s z H R I h;refine Hy (QW I T S jT ?_ (by decide) (by decide));refine Fa (Y7 (bV hl (bV Q Z1 t) F pos L s z H (λk e=>match k with
  |[x,y]=>∃a b g f,x=.ref a/\y=.ref b/\(∃B,IQ X.K g e a B)/\(∃A,IQ X.K f e b A)/\R (Itz X.K g f a b) e
  |_=>False) I h) λM d ⟨k,e,j,n,q1⟩=>?_) F r
 match k,n,q1 with
 |[x,y],n,q1=>
  obtain⟨a,b,g,f,rfl,rfl,⟨B,q⟩,⟨A,o⟩,W⟩:=q1;obtain⟨u,v,rfl,O,N⟩:=B7 n;cases O;cases N;obtain⟨M,w1,J,_⟩:=j.srcA q;obtain⟨k,w2,G,_⟩:=j.srcA o;refine mR J G λY st P=>?_;have Z:b9 X L z e {d with heap:=Y}:=j.kept (t':=d.toks) P;have V:=J.lt;have U:=G.lt;have D:Ql (d.heap.objs.size+4) (d.heap.objs.size+2) (d.heap.objs.size+3) d.heap.objs.size (d.heap.objs.size+1) a b:=by exact pV _ a b V U
  refine wpAny_pyIter_zip st.zip ⟨d.heap.objs.size+4,[d.heap.objs.size+4,d.heap.objs.size+2,d.heap.objs.size+3,d.heap.objs.size,d.heap.objs.size+1],_,Itz X.K g f a b,e,rfl,Z,kH g f _ _ _ _ _ a b D,st,λc hc=>?_,W⟩;have i:d.heap.objs.size<=c:=by simp only[Ak,Br,or_false]at hc;rcases hc with w|w|w|w|w<;>rw[w]<;>first|exact To _ _|exact Al _
  exact j.fpOk i (j.hok.fresh i)
def jR(h:X.K=K){c tm:TE}(f:Gl X "zip")(e:X.mg "zip"=b4)(hl:PE X l c)(d:PE X m tm)(g:SE X l [m]:=by rfl)(b:SE X m []:=by rfl)(a:(Hk pos (Bi [m] X.env)).any (·.1)=bb:=by rfl):PI X (.Tuple es tk c8) (.Call (.Name "zip" p) [l,m] [] pos) (iZp K c tm):=by subst h;exact nu f e hl d g b a
noncomputable def XJ:List cY->List cY->List cY
 |d::a,e::es=>.tup [d,e]::XJ a es
 |_,_=>[]
def iZip(f g:VF):VI:=λδ=>(f δ).bind λp=>(g p.2).bind λq=>(YH p.1).bind λa=>(YH q.1).map λes=>(XJ a es,q.2)
theorem GH:∀{ds es:List cY}{i:Nat}{d:cY},(XJ ds es)[i]?=b0 d->∃x y,ds[i]?=b0 x/\es[i]?=b0 y/\d=.tup [x,y]
 |[],_,_,_,h=>by simp[XJ]at h
 |_::_,[],_,_,h=>by simp[XJ]at h
 |x::ds,y::es,0,d,h=>by simp[XJ]at h;exact⟨x,y,rfl,rfl,h.symm⟩
 |x::ds,y::es,i+1,d,h=>by obtain⟨b,a,f,e,c⟩:=GH (ds:=ds) (es:=es) (i:=i) (d:=d) (by simpa[XJ]using h);exact⟨b,a,by simpa using f,by simpa using e,c⟩
theorem GI:∀{ds es:List cY},ds.length<=(XJ ds es).length∨es.length<=(XJ ds es).length
 |[],_=>.inl (Ch _)
 |_::_,[]=>.inr (Ch _)
 |x::ds,y::es=>by
  rcases GI (ds:=ds) (es:=es)with h|h;exact .inl (Tp h);exact .inr (Tp h)
def mQ:cY->Bool
 |.tup _=>ba
 |_=>bb
def bE.sqA{N M:Ws->Prop}{H:Hp}{v:V}{d:cY}{ds:List cY}(h:bE K N H M v d)(e:YH d=b0 ds):∃a tup xs,v=.ref a/\IQ K tup H a xs/\cA K N H xs ds/\tup=mQ d:=by
  cases d<;>first
    | (cases e
       obtain⟨a,xs,f,c,b⟩:=h.tupE;exact⟨a,ba,xs,f,c,b,rfl⟩)
    | (cases e
       obtain⟨a,xs,f,c,b⟩:=h.lstE;exact⟨a,bb,xs,f,c,b,rfl⟩)
    |cases e
def D9(hK:X.K=K)(hg:Gl X "zip")(hm:X.mg "zip"=b4)(h:PE X l (TV K ml pa ba ba f))(h':PE X m (TV K ml pb ba ba g))(he:SE X l [m]:=by rfl)(I:SE X m []:=by rfl)
  (F:(Hk pos (Bi [m] X.env)).any (·.1)=bb:=by rfl):PI X (.Tuple es tk c8) (.Call (.Name "zip" p) [l,m] [] pos) (TIV K ml (pa&&pb) (iZip f g)):=(jR (K:=K) hK hg hm h h' he I F).imp λσ H R E=>by
 obtain⟨B,O,δ,ds,u,S,q,k⟩:=E;unfold iZip at q;obtain⟨⟨x,c⟩,h1,q⟩:=Ac.mp q;cases J:g c with
 |none=>simp[J]at q
 |some p2=>
  obtain⟨y,t⟩:=p2;simp only[An,J]at q;obtain⟨Q,Y,q⟩:=Ac.mp q;have q:(YH y).map (λes=>(XJ Q es,t))=b0 (ds,u):=q;obtain⟨ys,W,q⟩:=Am.mp q;cases q;refine⟨B,O,δ,x,c,S,h1,λA H1 s=>⟨B,O,c,y,_,s.sta,J,λv H2 R2=>?_⟩⟩;have V:=s.rep.fr R2.frm (λa z=>.inr z) λa z=>.inr z;obtain⟨a,U,us,e1,q1,w1,P⟩:=V.sqA Y;obtain⟨b,T,vs,e2,q2,w2,M⟩:=R2.rep.sqA W;refine⟨a,b,U,T,e1,e2,⟨us,q1⟩,⟨vs,q2⟩,k _ [(A,x),(v,y)] H2 (R2.sta.keepV λz o=>?_) (s.frm.trans R2.frm) (λz=>?_) ?_⟩;simp only[Ak,Br,or_false]at o;rcases o with rfl|rfl;exact V;exact R2.rep;obtain⟨z1,z2⟩:=(Ah _ _).mp z;exact(s.pur z1).trans (R2.pur z2);intro N H h;obtain⟨a',D,n,f1,f2,f3,f4⟩:=(h (A,x) (by simp)).sqA Y;obtain⟨b',C,j,r,L,Z,g4⟩:=(h (v,y) (by simp)).sqA W;have f1:A=.ref a':=f1;have r:v=.ref b':=r;rw[e1]at f1;rw[e2]at r;cases f1;cases r;have:D=U:=f4.trans P.symm;subst this;have:C=T:=g4.trans M.symm;subst this;refine⟨λi d e=>?_,n,j,f2,L,?_⟩;obtain⟨dx,dy,hx,hy,rfl⟩:=GH e;obtain⟨ux,ex,rx⟩:=f3.get hx;obtain⟨uy,ey,ry⟩:=Z.get hy;refine⟨⟨n,j,ux,uy,f2,L,ex,ey⟩,λz H' o=>?_⟩;obtain⟨pp,x',y',c1,c2,G,rfl,rfl⟩:=o;have d1:=c1 n f2;have d2:=c2 j L;rw[ex]at d1;rw[ey]at d2;cases d1;cases d2;exact⟨cQ G,.tup (WT.of b6) (.cons (rx.same (cQ G)) (.cons (ry.same (cQ G)) .nil))⟩;rcases GI (ds:=Q) (es:=ys)with w|w;exact .inl (by rw[f3.length];exact w);exact .inr (by rw[Z.length];exact w)
end
end L2
namespace L2
open PySem PySem.Spec PyProof.Rows PySem.W
section
variable{prog:Az}{w:Wv}{A:Bz}{E:Wr->Af->Prop}{s:Af}
def D3{t:Ws}{items:Array Wr}{Q:List Wr->Af->Prop}(z:A.handled=b4)(f:IsTup s.heap t items)(C:1<=items.size)(hz:items.size<=16777216)(B:∀(x:Wr) (c:Wz) (l:Nat),items[0]?=b0 x->(∀b o,s.heap.get? b=b0 o->c.get? b=b0 o)->Q [x,.ref c.objs.size] {s with heap:=c.push {cls:=.type "list",data:=.seq (items.toList.drop 1).toArray},toks:=l}):Wt (Wu prog w) A (Ma (.ref t) 2 (b0 1)) Q E s:=by
 have a:t≠s.heap.objs.size:=by obtain⟨o,e,_⟩:=f;exact Bd (As e)
 (unfold Ma)
 refine Aa ?_
 (unfold notIterableAtAll)
 refine Aa (Fd f.typeIs slot_tuple_iter.lookup (Ad ?_));simp only[Aj,if_false];refine Aa (Bu (iter_tuple f (Aa (Bu (draw_tuple a 1 0 _ _ ⟨_,Ar _ rfl,rfl,rfl⟩ (f.push _) (by lia) λi h m=>?_)))));have n:IsTup i t items:=(f.push _).extBut m.extBut a;have h:i.IsTupleIter s.heap.objs.size t 1:=h;obtain⟨L,G,_⟩:=id h;obtain⟨K,F,_⟩:=id n;have v:i.objs.size=s.heap.objs.size+1:=by rw[m.1,En]
 have D:((items.toList.drop 0).take 1).length=1:=by simp;lia
 rw[if_neg (show¬((items.toList.drop 0).take 1).length<1 by rw[D];exact By _)];refine Aa (Bu (kun_collect (s:={s with heap:=i}) (T:= "tuple_iterator") (.inr (.inr (.inr rfl))) (Wm (A:=A.in1) z s.heap.objs.size t a items) (λj u st=>st.1.typeIs) (k:=1) C ⟨h,n⟩ (As G) (As F) (λc l q=>?_) (by rw[Dn];exact hz)));have M:(items.toList.drop 1).length=items.size-1:=by simp
 show Wt _ _ (if(items.toList.drop 1).length<2-1-1 then _ else _) _ _ _;rw[if_neg (Co _)];show Wt _ _ (newList ((items.toList.drop 1).take ((items.toList.drop 1).length-(2-1-1)))>>=λd=>pure ((items.toList.drop 0).take 1++[d]++(items.toList.drop 1).drop ((items.toList.drop 1).length-(2-1-1)))) _ _ _;have J:(items.toList.drop 1).take ((items.toList.drop 1).length-(2-1-1))=items.toList.drop 1:=Cv (Al _);have I:(items.toList.drop 1).drop ((items.toList.drop 1).length-(2-1-1))=[]:=Hl;rw[J,I];refine Aa (Cp (Ad ?_) (by show _<=sizeLine;rw[Dn];simp;lia));obtain⟨x,p⟩:∃x,items[0]?=b0 x:=⟨items[0],by simp[show 0<items.size by lia]⟩;have H:(items.toList.drop 0).take 1=[x]:=by
  rw[Nd];have:items.toList[0]?=b0 x:=by simpa using p
  cases hl:items.toList with
  |nil=>rw[hl]at this;cases this
  |cons y r=>rw[hl]at this;cases this;rfl
 rw[H];have keep:∀b o,s.heap.get? b=b0 o->c.get? b=b0 o:=λb o e=>q b o (Bd (As e)) (m.extBut b o (Bd (As e)) (Ae _ e));exact B x c l p keep
end
section
variable{X:Cx}{K:Au}{ml:List Nat}{e a b c:Ww}{es:List Ww}{pa ta ia pb tb ib pc tc ic pu bt bi ps bs:Bool}{fa fb fc f:VF}{B B':Bs}{O:Nat->Option Ws}{H H0 H1 H':Hp}{σ:St}{δ xj:Ev}{v:V}{d:cY}{p:Ws}{pos:Pos}
def pG(K:Au)(i j:Nat):TG:=λv σ H Q=>∃a x b,v=.ref a/\WT K H a (x::b)/\∀p,H p=b4->Q ((σ.set i (b0 x)).set j (b0 (.ref p))) (Z8 H p (.lst b))
def rQ{i j:Nat}{x y:Wy}{e d ps A:Pos}{k:Nat}(hc:X.calm=ba)(p:X.N.Nodup)(M:X.N[i]?=b0 x)(L:X.N[j]?=b0 y)(E:CF X.env.scope x)(D:CF X.env.scope y)(P:X.fn x=ba∨X.env.scope.names.lookup x=b0 .local)(O:X.fn y=ba∨X.env.scope.names.lookup y=b0 .local)(hl:(Wx [.Name x e,.Starred (.Name y d) ps] X.env).map (·.2)=[assign (.Name x e) X.env,assign (.Name y d) X.env])(J:(Wx [.Name x e,.Starred (.Name y d) ps] X.env).length=2)(VC:(Wx [.Name x e,.Starred (.Name y d) ps] X.env).findIdx? (·.1)=b0 1):PG X (.Tuple [.Name x e,.Starred (.Name y d) ps] k A) (pG X.K i j):=by
 intro S s σ H v u Q I r hw;obtain⟨a,z,W,R,G,q⟩:=hw;subst R;cases r;obtain⟨l,o,F,C⟩:=I.tuple G;rw[assign_Tuple];refine Aa (Go ?_)
 (unfold unpack)
 rw[J,VC];have b:=o.length;rw[Ba]at b;have f:l.length<=16777216:=by rw[<-Dn,<-b];exact C
 refine Aa (Bu (D3 (I.ok.hd hc) F (by rw[At];lia) (by rw[At];exact f) λu n h m B=>?_));rw[hl];cases o with
 | @cons _ w _ Y rz c=>
  have m:b0 w=b0 u:=by simpa using m
  cases m;have t:b9 X S σ H {s with heap:=n,toks:=h}:=I.kept B;have V:=b9.lnew (s:={s with heap:=n,toks:=h}) (t':=h) t c (by rw[Dn];simp only[Ba]at f b;have:=c.length;lia);refine Ey (Kg (XZ V p M E rz (λs3 U=>?_) P));refine Ey (Kg (XZ U p L D (v:=.ref n.objs.size) rfl (λZ T=>Kh ⟨_,_,T,q _ (t.hok.fresh (Al _))⟩) O))
noncomputable def J6(i j:Nat)(f:VF):VS:=λδ=>(f δ).bind λp=>match p.1 with
 |.tup (d::a)=>b0 (.nx ((p.2.set i (.va d)).set j (.va (.lst a))))
 |_=>b4
def B9{i j:Nat}{x y:Wy}{g b sp h:Pos}{k:Nat}(V:X.K=K)(hc:X.calm=ba)(U:X.N.Nodup)(Q:X.N[i]?=b0 x)(M:X.N[j]?=b0 y)(P:i≠j)(J:CF X.env.scope x)(I:CF X.env.scope y)(T:PE X e (TV K ml pu ba ba f))(u:i∉ml:=by decide)(t:j∉ml:=by decide)(Y:LO X x:=by first|exact .inl rfl|exact .inr rfl|assumption)(W:LO X y:=by first|exact .inl rfl|exact .inr rfl|assumption)(hl:(Wx [.Name x g,.Starred (.Name y b) sp] X.env).map (·.2)=[assign (.Name x g) X.env,assign (.Name y b) X.env]:=by rfl)(L:(Wx [.Name x g,.Starred (.Name y b) sp] X.env).length=2:=by rfl)(VC:(Wx [.Name x g,.Starred (.Name y b) sp] X.env).findIdx? (·.1)=b0 1:=by rfl)(hs:Ft [.Tuple [.Name x g,.Starred (.Name y b) sp] k h] e pos.line X.env=pure bb:=by rfl)(hw:Fu [.Tuple [.Name x g,.Starred (.Name y b) sp] k h] e X.env=pure b4:=by rfl)(w:(Wx [.Tuple [.Name x g,.Starred (.Name y b) sp] k h] X.env).map (·.2)=[assign (.Tuple [.Name x g,.Starred (.Name y b) sp] k h) X.env]:=by rfl):PS X (.Assign [.Tuple [.Name x g,.Starred (.Name y b) sp] k h] e pos) (RE K ml (J6 i j f)):=by
 subst V;refine(MG T (rQ hc U Q M J I Y W hl L VC) hs hw w).imp λD σ H s=>?_;obtain⟨B,O,δ,o,S,q,k⟩:=s;unfold J6 at q;obtain⟨⟨z,m⟩,w,q⟩:=Ac.mp q;refine⟨B,O,δ,z,m,S,w,λv H1 R=>?_⟩;cases z with
 |tup A=>
  cases A with
  |nil=>cases q
  |cons d A=>
   cases q;obtain⟨a,xs,rfl,sq,r⟩:=R.rep.tupE;cases r with
   | @cons E n _ _ G F=>
    refine⟨a,E,n,rfl,sq,λp l=>?_⟩;have Z:=(R.sta.same (cQ (o:=.lst n) l)).setVa u (G.same (cQ (o:=.lst n) l));have C:∀c,Nn B (λj=>if j=i then b4 else O j) c->Nn B O c:=NU (o:=b4);refine k _ _ _ (Z.setVa t (.lst b6 (λz=>R.sta.new l (C _ z)) ((F.same (cQ l)).mono C)))
 |_=>cases q
end
end L2
namespace L2
open PySem PySem.Spec PyProof.Rows
section
variable{X:Cx}{K:Au}{ml:List Nat}{e a b c:Ww}{es:List Ww}{pa ta ia pb tb ib pc tc ic pu bt bi ps bs:Bool}{fa fb fc f:VF}{B B':Bs}{O:Nat->Option Ws}{H H0 H1 H':Hp}{σ:St}{δ xj:Ev}{v:V}{d:cY}{p:Ws}{pos:Pos}
def rInD(K:Au)(neg:Bool):R2:=λx y H Q=>∃d e a,Dp K H x d/\Dp K H y e/\(e=.list a∨e=.tuple a)/\Fp d=ba/\Fp e=ba/\Q (.bl (if neg then !a.any (λz=>Lu z d)else a.any λz=>Lu z d)) H
def P4{d:Qt}(h:Fp d=ba):d.canLay0=ba/\d.depth<=64:=by unfold Fp at h;simp only[Ah,decide_eq_true_eq]at h;exact h
def gF(neg:Bool)(D:X.A.units+64<cLine):V7 X (Dh (if neg then .NotIn else .In)) (rInD X.K neg):=by
 intro C s σ H x y v u Q I r p h;obtain⟨d,e,a,B,w,j,o,n,q⟩:=h;obtain⟨F,g⟩:=I.reads B r;obtain⟨bs,f⟩:=I.reads w p;obtain⟨i,E⟩:=P4 o;obtain⟨m,l⟩:=P4 n;have b:∀k,(k=if neg then !a.any (λz=>Lu z d)else a.any λz=>Lu z d)->EP X C σ Q (.bool k) s:=λk j=>by subst j;exact⟨.bl _,H,I,rfl,q⟩
 rcases j with rfl|rfl;have hc : Kl a = ba := by simpa [Hq]using m
 have t:Ga a<=63:=by simp only[Lb]at l;lia
 have c:X.A.units+1+min (Ga a) d.depth<cLine:=by have:=Ui (Ga a) d.depth;lia
 cases neg with
 |false=>exact SeqAt.in_list_reads f g hc i c (b _ rfl)
 |true=>exact SeqAt.notIn_list_reads f g hc i c (b _ rfl)
 have hc : Kl a = ba := by simpa [Hq]using m
 have t:Ga a<=63:=by simp only[Lb]at l;lia
 have c:X.A.units+1+min (Ga a) d.depth<cLine:=by have:=Ui (Ga a) d.depth;lia
 cases neg with
 |false=>exact SeqAt.in_tuple_reads f g hc i c (b _ rfl)
 |true=>exact SeqAt.notIn_tuple_reads f g hc i c (b _ rfl)
def WL(a:X.A.units+64<cLine)(h:X.K=K:=by rfl):V7 X (Dh .In) (rInD K bb):=by subst h;exact gF bb a
def M4(a:X.A.units+64<cLine)(h:X.K=K:=by rfl):V7 X (Dh .NotIn) (rInD K ba):=by subst h;exact gF ba a
def SZ(d:cY)(ds:List cY):Bool:=(pds ds).any λz=>Lu z d.pd
def bI(neg:Bool)(d e:cY):Option cY:=(YH e).bind λa=>if(GL d&&GL e)=ba then b0 (.bl (if neg then !SZ d a else SZ d a))else b4
def ZM{neg:Bool}:OQ K (rInD K neg) (bI neg):=by
 intro H N j M l x y d e c Q i g h k;unfold bI at h;obtain⟨f,b,h⟩:=Ac.mp h;have h:(if(GL d&&GL e)=ba then b0 (cY.bl (if neg then !SZ d f else SZ d f))else b4)=b0 c:=h;split at h
 ·rename_i a
  cases h;simp only[GL,Ah]at a;refine⟨d.pd,e.pd,pds f,i.dp a.1.1,g.dp a.2.1,?_,a.1.2,a.2.2,k _ λ_ _ _=>.bl _⟩;cases e<;>first
   |(cases b;exact .inr rfl)
   |(cases b;exact .inl rfl)
   |cases b
 cases h
def iR(K:Au)(c ty:TE):TE:=λσ H Q=>c σ H λx H1=>∃a,x=.ref a/\((IsD H1 a/\ty σ H1 λy b=>∃o,N4 b a y o/\Q (o.getD .non) b)∨∃D,KTab K a D/\ty σ H1 λy b=>∃k,y=.str k/\Q ((Gv k D).getD .non) b)
def iC{B C:Pos}{v ty:TE}(O:X.A.units+1<cLine)(P:PE X a v)(z:PE X e ty)(m:M1 X a "get" B e C):PE X (.Call (.Attribute a "get" B) [e] [] C) (iR X.K v ty):=by
 intro r s σ H Q I h;refine Sk m.base m.few m.line Oh Eu Pw (Y7 (P r s σ H _ I h) λu w ⟨x,H1,d,J,l,Y,q1⟩=>?_);subst Y;obtain rfl:u=Bb l:=J;rcases q1 with⟨S,q1⟩|⟨D,T,q1⟩;obtain⟨G,F,_⟩:=eK d S;refine⟨G,F,?_⟩;rw[m.trees];refine Ht rfl (Iu (Hw (Y7 (z r w σ H1 _ d q1) λL i ⟨y,f,c,j,ov,g,q2⟩=>Ki ?_)));exact pC O c g j λw' s3 I3 n=>⟨_,f,I3,n,q2⟩;obtain⟨M,o,jj,ep,p,hex,bq,_⟩:=id T;refine⟨⟨o,d.kIn _ _ p,hex.1⟩,λb q=>?_,?_⟩;cases q;exact⟨o,d.kIn _ _ p,hex.2.1⟩;rw[m.trees];refine Ht rfl (Iu (Hw (Y7 (z r w σ H1 _ d q1) λL i ⟨y,f,c,j,k,W,q2⟩=>Ki ?_)));subst W;obtain⟨t,rfl⟩:=j;have V:i.TypeIs (.ref l) "dict":=⟨o,c.kIn _ _ p,hex.1⟩;refine Ck Eu V Gf ?_ (Jt _ _);show Wt _ _ (dictGet l (.str k t)>>=_) _ _ i;refine Aa (EW c.kIn T (λZ E U N=>Ad ⟨E,rfl,?_⟩) λR=>?_);rw[U]at q2;exact⟨Z,f,c.tok _,N,q2⟩;rw[R]at q2;show Wt _ _ (Rg l (.str k t)>>=_) _ _ _;unfold Rg;rw[if_neg (by rw[M];exact Db)];exact Aa (Ad (Ad ⟨.none,rfl,.non,f,c.tok _,rfl,q2⟩))
def gA:cY->cY->Option cY
 |.dct ks a,.str x=>b0 ((a6 ks a (.inr x)).getD .non)
 |_,_=>b4
def nK{P R:Pos}(hK:X.K=K)(W:X.A.units+1<cLine)(ha:PE X a (TV K ml pa ta ia fa))(Z:PE X b (TV K ml pb tb ib fb))(m:M1 X a "get" P b R)(hs:(pb || (ta&&ia))=ba:=by rfl):PE X (.Call (.Attribute a "get" P) [b] [] R) (TV K ml (pa&&pb) ia ia (f2 gA fa fb)):=by
 subst hK;refine(iC W ha Z m).imp λσ H Q F=>?_;obtain⟨B,O,δ,d,e,S,q,k⟩:=F;obtain⟨x,f,y,h1,M,G⟩:=QJ q;refine⟨B,O,δ,x,f,S,h1,λv1 H1 t=>?_⟩;have s:∀u c (R2:Res X.K ml B O H1 σ pb tb ib c e u y) o,bE X.K (av B O ia) c (av B O ia) o d->Q o c:=λu c R2 o Y=>k o c ⟨R2.sta,t.frm.trans R2.frm,λz=>by obtain⟨j,i⟩:=(Ah _ _).mp z;exact(t.pur j).trans (R2.pur i),Y.mono (λ_ z=>z) gY⟩;cases x with
 |dct ks N=>
  cases y with
  |str z=>
   cases G;have U:=t.rep;cases U.onD with
   | @dct l p E n r J=>
    subst J;refine⟨l,rfl,.inl ⟨.inl ⟨_,.inl E⟩,B,O,f,_,e,t.sta,M,λu c R2=>?_⟩⟩;have C:=R2.rep;cases C.onS;have L:c l=b0 (.dK p)/\cA X.K (av B O ia) c (p.map Ej) N:=by
     cases pb with
     |true=>exact⟨R2.pur rfl _ _ E,r.same (R2.pur rfl)⟩
     |false=>
      have hs:(ta&&ia)=ba:=by simpa using hs
      obtain⟨j,i⟩:=(Ah _ _).mp hs;subst j i;exact⟨R2.frm _ _ E λw=>absurd (.inr w) n,r.fr R2.frm λa z=>.inr z⟩
    refine⟨_,N4.k (k:=.inr z) L.1,s _ _ R2 _ ?_⟩;rcases PK (k:=.inr z) L.2 with⟨v,d',h,g,I⟩|⟨h,g⟩;rw[h,g];exact I;rw[h,g];exact .non
   | @ktb l D T r J=>
    subst J;refine⟨l,rfl,.inr ⟨D,T,B,O,f,_,e,t.sta,M,λu c R2=>?_⟩⟩;have C:=R2.rep;cases C.onS;refine⟨z,rfl,s _ _ R2 _ ?_⟩;have V:cA X.K (av B O ia) c (D.map Ej) N:=by
     cases pb with
     |true=>exact r.same (R2.pur rfl)
     |false=>
      have hs:(ta&&ia)=ba:=by simpa using hs
      obtain⟨j,i⟩:=(Ah _ _).mp hs;subst j i;exact r.fr R2.frm λa z=>.inr z
    rcases OB (k:=z) V with⟨v,d',h,g,I⟩|⟨h,g⟩;rw[h,g];exact I;rw[h,g];exact .non
  |_=>cases G
 |_=>cases G
end
def GV:Bv "all"=b0 (.builtin "all"):=by decide+kernel
def mV:Bv "any"=b0 (.builtin "any"):=by decide+kernel
def qP:Bv "dict"=b0 (.type "dict"):=by decide+kernel
section
variable{X:Cx}{K:Au}{ml:List Nat}{e a b c:Ww}{es:List Ww}{pa ta ia pb tb ib pc tc ic pu bt bi ps bs:Bool}{fa fb fc f:VF}{B B':Bs}{O:Nat->Option Ws}{H H0 H1 H':Hp}{σ:St}{δ xj:Ev}{v:V}{d:cY}{p:Ws}{pos:Pos}
def jt{ks:List Bool}{a:List Wr}(r:bT (ks.map V.bl) a){i:Nat}{u:Wr}(h:a[i]?=b0 u):∃k,ks[i]?=b0 k/\u=.bool k:=by
 have hl:=r.length;rw[Bf]at hl;have b:i<a.length:=(Ap.mp h).1;have e:(ks.map V.bl)[i]?=b0 (.bl ks[i]):=by simp[hl▸b]
 obtain⟨w,c,d⟩:=r.get e;rw[h]at c;cases c;exact⟨ks[i],by simp[hl▸b],d⟩
def oM{ks:List Bool}:(Ao ks.length).all (λi=>(ks[i]?).getD ba)=ks.all id:=by
 induction ks with
 |nil=>rfl
 |cons k ks a=>
  rw[Ba,Fh,Oo,Wc,Oo,<-a];rfl
def mI{ks:List Bool}:(Ao ks.length).any (λi=>(ks[i]?).getD ba)=ks.any id:=by
 induction ks with
 |nil=>rfl
 |cons k ks a=>
  rw[Ba,Fh,Hi,Py,Hi,<-a];rfl
def MI(K:Au)(g:List Bool->Bool):RC:=λb H Q=>∃p a,b=[.ref p]/\WZ K H p (a.map V.bl)/\Q (.bl (g a)) H
def F2{prog:Az}{w:Wv}{A:Bz}{ks:List Bool}{b:List Wr}(r:bT (ks.map V.bl) b):TruthOf prog w A (λi v=>b.toArray[i]?=b0 v) λi=>(ks[i]?).getD ba:=by intro i v s Q E c a;obtain⟨k,d,rfl⟩:=jt r (by simpa using c);have a:Q ((ks[i]?).getD ba) s:=a;rw[d]at a;exact Eh a
def iS(hc:X.calm=ba):aH X (.builtin "all") (MI X.K λf=>f.all id):=by
 intro x s σ H p t Q I r h;obtain⟨l,f,rfl,m,q⟩:=h;obtain⟨u,rfl,j⟩:=VZ r;cases j;obtain⟨c,e,k,v⟩:=I.list m;have hl:=k.isList;have d:l≠s.heap.objs.size:=by obtain⟨o,g,_⟩:=hl;exact Bd (As g)
 have a:=e.length;rw[Bf]at a;refine call_all_walk (Fx hl ⟨_,_,_,_,_,_,_,rfl,Ss (show X.A.in1.handled=b4 from I.ok.hd hc) s.heap.objs.size l d c.toArray,⟨⟨_,Ar _ rfl,rfl,rfl⟩,?_⟩,F2 e,λw i n=>?_⟩);obtain⟨o,g,r⟩:=hl;exact⟨o,Ae _ g,r⟩;rw[At,<- a,oM];exact⟨.bl _,H,I.kept (t':=i) λb o g=>n b o (by simp;exact Bd (As g)) (Ae _ g),rfl,q⟩
def lh(hc:X.calm=ba):aH X (.builtin "any") (MI X.K λf=>f.any id):=by
 intro x s σ H p t Q I r h;obtain⟨l,f,rfl,m,q⟩:=h;obtain⟨u,rfl,j⟩:=VZ r;cases j;obtain⟨c,e,k,v⟩:=I.list m;have hl:=k.isList;have d:l≠s.heap.objs.size:=by obtain⟨o,g,_⟩:=hl;exact Bd (As g)
 have a:=e.length;rw[Bf]at a;refine call_any_walk (Fx hl ⟨_,_,_,_,_,_,_,rfl,Ss (show X.A.in1.handled=b4 from I.ok.hd hc) s.heap.objs.size l d c.toArray,⟨⟨_,Ar _ rfl,rfl,rfl⟩,?_⟩,F2 e,λw i n=>?_⟩);obtain⟨o,g,r⟩:=hl;exact⟨o,Ae _ g,r⟩;rw[At,<- a,mI];exact⟨.bl _,H,I.kept (t':=i) λb o g=>n b o (by simp;exact Bd (As g)) (Ae _ g),rfl,q⟩
def kAll(hc:X.calm=ba)(h:X.K=K:=by rfl):aH X (.builtin "all") (MI K λa=>a.all id):=by subst h;exact iS hc
def kAny(hc:X.calm=ba)(h:X.K=K:=by rfl):aH X (.builtin "any") (MI K λa=>a.any id):=by subst h;exact lh hc
def N8:List cY->Option (List Bool)
 |[]=>b0 []
 |.bl k::b=>(N8 b).map λa=>k::a
 |_=>b4
theorem dC{N:Ws->Prop}:∀{xs:List V}{ds:List cY}{ks:List Bool},cA K N H xs ds->N8 ds=b0 ks->xs=ks.map V.bl
 |_,_,_,.nil,h=>by cases h;rfl
 | _,_,_,@cA.cons _ _ _ v c d ds h t,e => by
  cases d with
  |bl k=>
   cases h;have e:(N8 ds).map (λks=>k::ks)=b0 _:=e;cases a:N8 ds with
   |none=>rw[a]at e;cases e
   |some b=>
    rw[a]at e;cases e;rw[dC t a,Av]
  |_=>cases e
def E9(g:List Bool->Bool):cY->Option cY
 |.lst ds=>(N8 ds).map λa=>.bl (g a)
 |_=>b4
abbrev E8:=E9 λa=>a.all id
abbrev oAny:=E9 λa=>a.any id
def Zx{g:List Bool->Bool}:CalS K (MI K g) (E9 g):=by
 intro H N M x d c Q e h k;cases d with
 |lst i=>
  have h:(N8 i).map (λb=>cY.bl (g b))=b0 c:=h;obtain⟨b,f,h⟩:=Am.mp h;cases h;obtain⟨a,j,rfl,sq,r⟩:=e.lstE;have:=dC r f;subst this;exact⟨a,b,rfl,sq,k _ λ_ _ _=>.bl _⟩
 |_=>cases h
def BU:CalS K (MI K λa=>a.all id) E8:=Zx
def hW:CalS K (MI K λa=>a.any id) oAny:=Zx
def Z3:List cY->Option (List Int)
 |[]=>b0 []
 |.int i::b=>(Z3 b).map λa=>i::a
 |_=>b4
theorem VU{N:Ws->Prop}:∀{xs:List V}{ds:List cY}{ns:List Int},cA K N H xs ds->Z3 ds=b0 ns->xs=ns.map V.int
 |_,_,_,.nil,h=>by cases h;rfl
 | _,_,_,@cA.cons _ _ _ v f d ds h t,e => by
  cases d with
  |int k=>
   cases h;have e:(Z3 ds).map (λc=>k::c)=b0 _:=e;cases a:Z3 ds with
   |none=>rw[a]at e;cases e
   |some b=>
    rw[a]at e;cases e;rw[VU t a,Av]
  |_=>cases e
theorem FS{N:Ws->Prop}:∀ns:List Int,cA K N H (ns.map V.int) (ns.map cY.int)
 |[]=>.nil
 |i::ns=>.cons (.int i) (FS ns)
def rngI{a:Int}{n:Nat}{xh:Array Wr}(h:ItemsOf (λi v=>∃t,v=.int (a+i*1) t) xh n):bT ((Ao n).map λi:Nat=>V.int (a+i)) xh.toList:=by
 obtain⟨j,g⟩:=h;have l:∀(m:Nat) (b:List Wr),b.length=m->∀k:Nat,(∀(i:Nat) (v:Wr),b[i]?=b0 v->∃t,v=.int (a+((k+i:Nat):Int)*1) t)->bT ((Ao m).map λi:Nat=>V.int (a+((k+i:Nat):Int))) b:=by
  intro m;induction m with
  |zero=>intro b hl k _;rw[Fe.mp hl];exact .nil
  |succ m d=>
   intro b hl k c;cases b with
   |nil=>cases hl
   |cons u b=>
    rw[Fh,Av,Cq];obtain⟨t,f⟩:=c 0 u rfl;refine .cons ⟨t,by rw[f];simp⟩ ?_;have:=d b (by simpa using hl) (k+1) λi v e=>by obtain⟨t,h⟩:=c (i+1) v (by simpa using e);exact⟨t,by rw[h,show k+(i+1)=k+1+i by lia]⟩
    have e:((λi:Nat=>V.int (a+((k+i:Nat):Int)))∘Nat.succ)=λi:Nat=>V.int (a+((k+1+i:Nat):Int)):=by funext i;simp only[Op,Nat.succ_eq_add_one];rw[show k+(i+1)=k+1+i by lia]
    rw[e];exact this
 have:=l n xh.toList (by simpa using j) 0 λi v e=>by
  have:=g i v (by simpa using e)
  simpa using this
 simpa using this
def EJ:aH X (.type "range") (λb H Q=>∃j,b=[.int j]/\∀p,H p=b4->Q (.ref p) (Z8 H p (.ext (rngP p 0 j 1)))):=by intro aa s σ H b us Q I r h;obtain⟨j,rfl,q⟩:=h;obtain⟨u,rfl,t,rfl⟩:=VZ r;refine call_range_1 ?_;have c:=I.hok.fresh (Al s.heap.objs.size);refine⟨.ref s.heap.objs.size,_,I.laid (a:=s.heap.objs.size) (o:=.ext (rngP s.heap.objs.size 0 j 1)) (t':=s.toks+1+1) (λ_ _ z=>Ae _ z) (Al _) ?_,rfl,q _ c⟩;exact⟨⟨_,_,_,Wk ..⟩,⟨_,Ar _ rfl⟩,λe d ⟨t,u,v,z⟩ k=>⟨t,u,v,k _ z⟩⟩
def KO(hc:X.calm=ba):aH X (.type "list") (λf H Q=>∃(p:Ws) (j:Int),f=[.ref p]/\H p=b0 (.ext (rngP p 0 j 1))/\(0<=j/\j<=16777216)/\∀l,H l=b4->Q (.ref l) (Z8 H l (.lst ((Ao j.toNat).map λi:Nat=>V.int (0+i))))):=by
 intro F s σ H f C Q I r h;obtain⟨p,j,rfl,y,D,q⟩:=h;obtain⟨u,rfl,n⟩:=VZ r;cases n;obtain⟨⟨t,u,v,z⟩,_⟩:=I.hok p _ y;have A:Jn 0 j 1=(j.toNat:Int):=by
  unfold Jn;rw[if_pos (by decide)];split;rw[Int.ediv_one];lia;lia
 have d:(2:Int) ^ 62=4611686018427387904:=by decide
 have e:(2:Nat) ^ 24=16777216:=by decide
 have m:Wn 0 j 1=ba:=small_one (a:=0) (b:=j) (by rw[d];decide) (by rw[d];decide) (by rw[d];lia) (by rw[d];lia);refine call_list_range (I.ok.hd hc) z m A (by rw[e];lia) λE k g c x B hI=>?_;have w:=rngI hI;refine⟨.ref s.heap.objs.size,_,I.laid (a:=s.heap.objs.size) (o:=.lst ((Ao j.toNat).map λi:Nat=>V.int (0+i))) (t':=k) x (Al _) ⟨?_,g.toList,c,w,by simpa using B⟩,rfl,q _ (I.hok.fresh (Al _))⟩;rw[Bf,Hd,Dn];lia
noncomputable def RL(f:VF):VF:=λδ=>(f δ).bind λp=>match p.1 with
 |.int j=>if 0<=j/\j<=16777216 then b0 (.lst (a7 0 j.toNat),p.2)else b4
 |_=>b4
def jk{N:Ws->Prop}(lo:Int)(n:Nat):cA K N H ((Ao n).map λi:Nat=>V.int (lo+i)) (a7 lo n):=by
 unfold a7;induction (Ao n)with
 |nil=>exact .nil
 |cons x b a=>exact .cons (.int _) a
def oJ{t g o:Pos}(hc:X.calm=ba)(A:Gl X "list")(w:X.mg "list"=b4)(u:Bv "list"=b0 (.type "list"))(n:Gl X "range")(m:X.mg "range"=b4)(h:Bv "range"=b0 (.type "range"))(C:PE X a (TV K ml pa ta ia fa))(r:SE X a []:=by rfl)(b:Bi (.Call (.Name "range" g) [a] [] o::[]) X.env=(bb,eval (.Call (.Name "range" g) [a] [] o) X.env)::Bi [] X.env:=by rfl):PE X (.Call (.Name "list" t) [.Call (.Name "range" g) [a] [] o] [] pos) (TN K ml pa (RL fa)):=
 (XF (KO hc) A w u (bV (XF EJ n m h (bV C Z1 r) (by decide) (by decide) r) Z1 b) (by decide) (by decide) b).imp λσ H Q i => by
  obtain⟨B,O,δ,d,xj,S,q,k⟩:=i;unfold RL at q;obtain⟨⟨x,e⟩,D,q⟩:=Ac.mp q;cases x with
  |int j=>
   have q:(if 0<=j/\j<=16777216 then b0 (cY.lst (a7 0 j.toNat),e)else b4)=b0 (d,xj):=q;split at q;rename_i y;cases q;refine⟨B,O,δ,_,_,S,D,λE H1 c=>?_⟩;have s:=c.rep;cases s.onI;refine⟨j,rfl,λp v=>⟨p,j,rfl,b6,y,λl hl=>?_⟩⟩;have f:aS H1 (Z8 H1 p (.ext (rngP p 0 j 1))):=cQ v;exact k l _ (mkN (c.sta.same f) (c.frm.trans f.fr) (λz=>(c.pur z).trans f) hl (jk 0 j.toNat));cases q
  |_=>cases q
end
section
variable{X:Cx}{K:Au}{ml:List Nat}{e a b c:Ww}{es:List Ww}{pa ta ia pb tb ib pc tc ic pu bt bi ps bs:Bool}{fa fb fc f:VF}{B B':Bs}{O:Nat->Option Ws}{H H0 H1 H':Hp}{σ:St}{δ xj:Ev}{v:V}{d:cY}{p:Ws}{pos:Pos}
def UB(n:Int):List Int->Option Nat
 |[]=>b4
 |i::a=>if i=n then b0 0 else(UB n a).map (· +1)
theorem J0{n:Int}:∀{ns:List Int}{j:Nat},UB n ns=b0 j->ns[j]?=b0 n/\∀m,m<j->ns[m]? ≠b0 n
 |[],_,h=>by cases h
 | i :: ns,j,h => by
  unfold UB at h;split at h;rename_i b;cases h;exact⟨by rw[b];rfl,λm a=>absurd a (Co _)⟩;rename_i b;obtain⟨k,e,h⟩:=Am.mp h;cases h;obtain⟨d,c⟩:=J0 e;refine⟨by simpa using d,λm a=>?_⟩;cases m with
  |zero=>simpa using b
  |succ m=>simpa using c m (Nat.lt_of_succ_lt_succ a)
def F7{ns:List Int}{a:List Wr}(r:bT (ns.map V.int) a){m:Nat}{u:Wr}(h:a[m]?=b0 u):∃i t,ns[m]?=b0 i/\u=.int i t:=by
 have hl:=r.length;rw[Bf]at hl;have b:m<a.length:=(Ap.mp h).1;have e:(ns.map V.int)[m]?=b0 (.int ns[m]):=by simp[hl▸b]
 obtain⟨f,c,t,d⟩:=r.get e;rw[h]at c;cases c;exact⟨ns[m],t,by simp[hl▸b],d⟩
def LR(n:Int):Wr->Bool
 |.int i _=>i==n
 |_=>bb
def dD{ns:List Int}{a:List Wr}{n:Int}{j:Nat}(r:bT (ns.map V.int) a)(h:UB n ns=b0 j):∃f:j<a.toArray.size,LR n a.toArray[j]=ba/\(∀m (b:m<a.toArray.size),m<j->LR n a.toArray[m]=bb):=by
 obtain⟨k,o⟩:=J0 h;have hl:=r.length;rw[Bf]at hl;have f:j<ns.length:=(Ap.mp k).1;have at_:∀(m:Nat) (b:m<a.toArray.size),∃i t,ns[m]?=b0 i/\a.toArray[m]=.int i t:=λm b=>by
  have e:m<a.length:=by simpa using b
  exact F7 r (u:=a.toArray[m]) (by simp[e])
 refine⟨by simpa[<-hl]using f,?_,λm b d=>?_⟩;obtain ⟨i,l,c,g⟩ := at_ j (by simpa [<- hl]using f);rw[k]at c;cases c;rw[g];simp[LR];obtain⟨i,l,c,g⟩:=at_ m b;have:=o m d
 rw[c]at this;rw[g];exact beq_eq_false_iff_ne.mpr λz=>this (by rw[z])
def fY{ns:List Int}{a:List Wr}(r:bT (ns.map V.int) a){y:Wr}(c:y∈a.toArray):∃i t,y=.int i t:=by
 obtain⟨m,d,rfl⟩:=Array.mem_iff_getElem.mp c;have b:m<a.length:=by simpa using d
 obtain⟨i,t,_,e⟩:=F7 r (m:=m) (u:=a.toArray[m]) (by simp[b]);exact⟨i,t,e⟩
def eL(K:Au):V->List V->Hp->VK->Prop:=λx b H Q=>∃(l:Ws) (a:List Int) (n:Int) (j:Nat),x=.ref l/\b=[.int n]/\WZ K H l (a.map V.int)/\UB n a=b0 j/\Q (.int j) H
def sg:MtM X "list.index" (eL X.K):=by
 intro O s σ H x E v G Q I k m h;obtain⟨l,J,n,j,rfl,rfl,z,A,q⟩:=h;cases k;obtain⟨u,rfl,t,rfl⟩:=m.one;obtain⟨a,r,⟨o,c,e,hc,d,f⟩,p⟩:=I.list z;obtain⟨D,N,data,sl⟩:=o;simp only at hc d f;subst hc d f;obtain⟨b,C,B⟩:=dD r A;have hl:=r.length;refine Nk F.slot_list_index ⟨_,e,rfl⟩ F.entry_list_index (F.args_list_index_2 _ _) (SeqAt.list_indexAt l a.toArray c b4 sl (.int n t) (LR n) j b (by
  have M:a.length<=16777216:=by rw[<-hl,<-Dn];exact p
  have L:j<a.length:=by simpa using b
  lia) C B) ⟨e,?_,?_⟩
 intro y w;obtain⟨i,g,rfl⟩:=fY r w;exact SeqAt.EqAt.int_int i g n t;exact⟨.int j,H,I.tok _,⟨_,rfl⟩,q⟩
def qo(h:X.K=K:=by rfl):MtM X "list.index" (eL K):=by subst h;exact sg
def DE:cY->cY->Option cY
 |.lst ds,.int n=>(Z3 ds).bind λa=>(UB n a).map λj=>.int j
 |_,_=>b4
def kS{s g:Pos}(r:X.K=K)(E:PE X a (TV K ml pa ta ia fa))(D:PE X b (TV K ml pb tb ib fb))(P:Jq a "index" X.env (eval a X.env)=eval a X.env:=by rfl)(N:((Hk g (Bi (b::[]) X.env)).all (λx=> !x.1)&&(Rr g (Mc [] X.env)).all (λx=>x.1.isSome)&&decide ((b::([]:List Ww)).length+([]:List Md).length+(if([]:List Md).isEmpty then 0 else 1)<30))=ba:=by rfl)(R:(s.endLine==g.line)=ba:=by rfl)(hs:SE X b []:=by rfl)(T:(Hk g (Bi [] X.env)).any (·.1)=bb:=by rfl)(hl:(pb || (ta&&ia))=ba:=by rfl):PE X (.Call (.Attribute a "index" s) [b] [] g) (TV K ml (pa&&pb) ba ba (f2 DE fa fb)):=
 (kBm (K := K) r Oi PySem.F.slot_list_index PySem.F.type_list_index (qo r) E (bV D Z1 hs) P N R hs T).imp λσ H Q o => by
  obtain⟨B,O,δ,d,i,S,q,k⟩:=o;obtain⟨x,e,y,J,I,c⟩:=QJ q;refine⟨B,O,δ,x,e,S,J,λW H1 h=>?_⟩;cases x with
  |lst M=>
   cases y with
   |int n=>
    have c:((Z3 M).bind λf=>(UB n f).map λj=>cY.int j)=b0 d:=c;obtain⟨f,G,c⟩:=Ac.mp c;have c:(UB n f).map (λj=>cY.int j)=b0 d:=c;cases p:UB n f with
    |none=>rw[p]at c;cases c
    |some j=>
     rw[p]at c;cases c;obtain⟨l,w,rfl,sq,_⟩:=h.rep.lstE;refine⟨.inl ⟨rfl,w,sq⟩,B,O,e,_,i,h.sta,I,λV U R2=>?_⟩;have A:=R2.rep;cases A.onI;obtain⟨Y,v,L,m,C⟩:=(R2.live hl h.rep).lstE;cases L;have:=VU C G;subst this;exact⟨l,f,n,j,rfl,rfl,m,p,k _ U ⟨R2.sta,h.frm.trans R2.frm,λz=>by obtain⟨u,t⟩:=(Ah _ _).mp z;exact(h.pur u).trans (R2.pur t),.int _⟩⟩
   |_=>cases c
  |_=>cases c
def BK:V->List V->Hp->VK->Prop:=λx b H Q=>∃(l:Ws) (a:List Int) (n:Int) (j:Nat),x=.ref l/\b=[.int n]/\H l=b0 (.lst (a.map V.int))/\UB n a=b0 j/\Q .non (Z8 H l (.lst ((a.eraseIdx j).map V.int)))
theorem JK{a b:Type}(g:a->b):∀(l:List a) (j:Nat),(l.map g).eraseIdx j=(l.eraseIdx j).map g
 |[],_=>by simp
 |_::_,0=>by simp
 |x::l,j+1=>by simp[JK g l j]
def kO:MtM X "list.remove" BK:=by
 intro E s σ H x C v D Q I o p h;obtain⟨l,f,n,j,rfl,rfl,g,A,q⟩:=h;cases o;obtain⟨u,rfl,t,rfl⟩:=p.one;obtain⟨z,a,c,r,hl,e⟩:=I.lstM g;obtain⟨b,k,B⟩:=dD r A;refine Nk Rt ⟨_,e,rfl⟩ Rh (Qp _ _) (MeetsSeq.list_remove l a.toArray c (.int n t) (LR n) (λy w=>?_) j b k B (by rw[At,<-hl];exact z)) ⟨e,?_⟩;obtain⟨i,m,rfl⟩:=fY r w;exact Wh i n m t;have d : j < a.length := by simpa using b
 refine⟨.non,_,I.lset (its':=a.eraseIdx j) g e (by simp[Np,d]) (ys:=(f.eraseIdx j).map V.int) ?_ ?_,rfl,q⟩;have:=bT.eraseIdx j r
 rwa[JK]at this
 rw[Bf];have k:=Jv f j;rw[Bf]at z;lia
def mRem:List cY->List cY->Option (List cY)
 |b,[.int n]=>(Z3 b).bind λa=>(UB n a).map λj=>(a.eraseIdx j).map cY.int
 |_,_=>b4
def k7:MuV K BK mRem:=by
 intro H N l p c o es b Q hl q e f h k;cases f with
 |nil=>cases h
 | @cons v c d es g t=>
  cases t with
  |cons _ _=>cases d<;>cases h
  |nil=>
   cases d with
   |int n=>
    cases g;have h:((Z3 o).bind λa=>(UB n a).map λj=>(a.eraseIdx j).map cY.int)=b0 b:=h;obtain⟨a,m,h⟩:=Ac.mp h;have h:(UB n a).map (λj=>(a.eraseIdx j).map cY.int)=b0 b:=h;obtain⟨j,i,h⟩:=Am.mp h;cases h;have:=VU e m;subst this;exact⟨l,a,n,j,rfl,rfl,hl,i,k _ _ (FS _)⟩
   |_=>cases h
end
section
variable{X:Cx}{K:Au}{ml:List Nat}{e:Ww}{es:List Ww}{pu bt bi bs:Bool}{f:VF}{fs:K7}
def cP(h:PE X e (TV K ml pu bt bi f))(a:(bt&&bi)=ba:=by rfl):PE X e (TV K ml pu ba ba f):=by obtain⟨c,b⟩:=(Ah _ _).mp a;subst c b;exact h
def KI(h:PE X e (TV K ml pu bt bi f))(a:bi=ba:=by rfl):PE X e (TV K ml pu bt ba f):=by subst a;exact h
def cK(h:PA X es (TAV K ml pu bs fs))(a:bs=ba:=by rfl):PA X es (TAV K ml pu ba fs):=by subst a;exact h
def GB{st:Xf}:PS X st (RE K ml λ_=>b4):=λ_ _ _ _ _ _ ⟨_,_,_,_,_,q,_⟩=>nomatch q
variable{a b c:Ww}{pa ta ia pb tb ib pc tc ic:Bool}{fa fb fc:VF}{pos:Pos}{δ:Ev}
end
section
variable{X:Cx}{K:Au}{ml:List Nat}{e a b c:Ww}{pa ta ia pb tb ib pu:Bool}{fa fb fc f:VF}{B:Bs}{O:Nat->Option Ws}{H H':Hp}{σ:St}{δ xj:Ev}{v:V}{d:cY}{p:Ws}{pos:Pos}{ks:List (Option Ww)}{vs:List Ww}
theorem JW:∀{more xh:List (bH×V)},((xh++more).map Dr).Nodup->L1 xh more=xh++more
 |[],xh,_=>by simp[L1]
 |(k,v)::more,xh,a=>by
  have d:∀q∈xh,q.1≠k:=λq b z=>by rw[Ed,Av]at a;exact(He.mp a).2.2 q.1 (Jg b) k (by simp) z
  have c:RB xh k=b4:=by unfold RB;rw[List.find?_eq_none.mpr λq b=>by simpa using d q b];rfl
  show L1 (WV xh k v) more=_;rw[iM v c,JW (by simpa using a)];simp
end
theorem QF:∀(names:List (Wy×Xg)) (n:Nat) (xh:List (Wy×Ws)),Xe n names xh=Xe n names []++xh
 |[],_,_=>rfl
 | (x,k) :: r,n,xh => by
  unfold Xe;split;rw[QF r (n+1) ((x,n)::xh),QF r (n+1) [(x,n)]];simp;exact QF r n xh
theorem CW:∀{names:List (Wy×Xg)}{n:Nat}{x:Wy}{c:Ws},(x,c)∈Xe n names []->(x,Cu)∈names
 |[],_,_,_,h=>nomatch h
 | (y,k) :: r,n,x,c,h => by
  unfold Xe at h;split at h;rename_i a;rw[QF]at h;rcases Bq.mp h with h|h;exact Ai _ (CW h);cases Aq.mp h;rw[show k=Cu from beq_iff_eq.mp a];exact Ag;exact Ai _ (CW h)
theorem CV:∀{names:List (Wy×Xg)}{n:Nat}{x:Wy},(x,Cu)∈names->∃c,(x,c)∈Xe n names []
 | (y,k) :: r,n,x,h => by
  unfold Xe;rcases Ak.mp h with e|h;cases e;rw[if_pos (by decide),QF];exact⟨n,Be _ (Aq.mpr rfl)⟩;split;rw[QF];obtain⟨c,hc⟩:=CV (n:=n+1) h;exact⟨c,Bw _ hc⟩;exact CV h
theorem LY:∀{l:List (Wy×Ws)}{x:Wy}{c:Ws},(x,c)∈l->∃b,l.lookup x=b0 b
 | (y,d) :: r,x,c,h => by
  rw[Cz];cases a:x==y with
  |true=>exact⟨d,rfl⟩
  |false=>
   rcases Ak.mp h with e|h;cases e;simp at a;exact LY h
theorem YF:∀{l m:List (Wy×Ws)}{x:Wy}{c:Ws},(l++m).lookup x=b0 c->l.lookup x=b0 c∨(l.lookup x=b4/\m.lookup x=b0 c)
 |[],_,_,_,h=>.inr ⟨rfl,h⟩
 |(y,d)::r,m,x,c,h=>by
  rw[Ja,Cz]at h;rw[Cz];cases a:x==y with
  |true=>rw[a]at h;exact .inl h
  |false=>rw[a]at h;exact YF h
theorem QD:∀{l m:List (Wy×Ws)}{x:Wy},l.lookup x=b4->(l++m).lookup x=m.lookup x
 |[],_,_,_=>rfl
 |(y,d)::r,m,x,h=>by
  rw[Cz]at h;rw[Ja,Cz];cases a:x==y with
  |true=>rw[a]at h;cases h
  |false=>rw[a]at h;exact QD h
def E3{M:Model}{A:Bz}{E:Wr->Af->Prop}{s:Af}{scope:Xd}{globals:Ws}{g:List (Wy×Ws)}{a:Wy}{outer:Env}{Q:Env->Af->Prop}(h:Q (newEnv scope s.heap.objs.size globals (Xe (s.heap.objs.size+1) scope.names g) a b4 .none (b0 outer) builtinsNs) {s with heap:=Uj (s.heap.push {cls:=.type "dict",data:=.dict #[]}) scope.names}):Wt M A (Qu scope globals g [] a b4 .none (b0 outer)) Q E s:=by simp only[Qu,Rs,if_true];refine Aa (wpAny_alloc ?_);refine Aa (wpAny_layCells _ (λf b e=>by cases d:b==Cu<;>simp[d]) _ _ _ _ ?_);rw[show({s with heap:=s.heap.push {cls:=.type "dict",data:=.dict #[]}}:Af).heap.objs.size=s.heap.objs.size+1 from En ..];rw[Gw];exact Aa (Ad (Ad h))
theorem SJ:∀{l m:List (Wy×Ws)}{x:Wy}{c:Ws},l.lookup x=b0 c->(l++m).lookup x=b0 c
 |(y,d)::r,m,x,c,h=>by
  rw[Cz]at h;rw[Ja,Cz];cases a:x==y with
  |true=>rw[a]at h;exact h
  |false=>rw[a]at h;exact SJ h
structure MR(X:Cx)(N':List Wy)(ix:List Nat)(scope:Xd):Prop where
 kind:scope.kind=.function
 cel:∀y∈scope.names,y.2=.cell->scope.names.lookup y.1=b0 .cell
 names:∀y∈scope.names,y.2=.local->scope.names.lookup y.1=b0 .local
 free:∀y∈scope.names,y.2=.free->X.env.kindOf y.1=b0 .cell∨X.env.kindOf y.1=b0 .free
 nd:N'.Nodup
 cap:∀j,j<ix.length->N'[j]?=(ix[j]?).bind λi=>X.N[i]?
 capf:∀x∈N'.take ix.length,scope.names.lookup x=b0 .free
noncomputable def Z5(X:Cx)(N':List Wy)(scope:Xd)(cl:List (Wy×Ws))(a:Af)(b:Hp)(fp:List Ws):Cx:=
 {X with N:=N',s₀:=a,H₀:=b,env:=compEnvC scope cl a.heap.objs.size X.env,outer:=X.stack,stack:=X.stack,ex:=fp,fn:=λx=>scope.names.lookup x==b0 Cu,pn:=[],xe:=λ_ _=>False}
theorem UC{env:Env}{x:Wy}:∀{l:List (Wy×Xg)},((l.map λ(n,k)=>if(k==Ca&&env.scope.kind== .function&&env.kindOf n==b0 .cell)then(n,Cu)else(n,k)).lookup x=b0 .cell∨(l.map λ(n,k)=>if(k==Ca&&env.scope.kind== .function&&env.kindOf n==b0 .cell)then(n,Cu)else(n,k)).lookup x=b0 .free)->(x,Ca)∈l∨(x,Cu)∈l
 |[],h=>by rcases h with z|z<;>cases z
 | (n,k) :: r,h => by
  have h:Rc x ((if(k==Ca&&env.scope.kind== .function&&env.kindOf n==b0 .cell)=ba then(n,Cu)else(n,k))::r.map λ(n,k)=>if(k==Ca&&env.scope.kind== .function&&env.kindOf n==b0 .cell)then(n,Cu)else(n,k))=b0 .cell∨
   Rc x ((if(k==Ca&&env.scope.kind== .function&&env.kindOf n==b0 .cell)=ba then(n,Cu)else(n,k))::r.map λ(n,k)=>if(k==Ca&&env.scope.kind== .function&&env.kindOf n==b0 .cell)then(n,Cu)else(n,k))=b0 .free:=h
  by_cases hc:(k==Ca&&env.scope.kind== .function&&env.kindOf n==b0 .cell)=ba;rw[if_pos hc]at h;by_cases a:x=n;subst a;have c:k=.free:=by simp only[Ah]at hc;exact beq_iff_eq.mp hc.1.1
  subst c;exact .inl Ag;have b:(x==n)=bb:=beq_eq_false_iff_ne.mpr a;simp only[Cz,b]at h;rcases UC (env:=env) h with z|z;exact .inl (Ai _ z);exact .inr (Ai _ z);rw[if_neg hc]at h;by_cases a:x=n;subst a;rw[Ew]at h;rcases h with z|z;cases z;exact .inr Ag;cases z;exact .inl Ag;have b:(x==n)=bb:=beq_eq_false_iff_ne.mpr a;simp only[Cz,b]at h;rcases UC (env:=env) h with z|z;exact .inl (Ai _ z);exact .inr (Ai _ z)
noncomputable def Yj(p:Pos)(b:Ww)(a:List Ww)(em:Xi Unit)(e:Ww)(d:Nat)(it xh:Wr)(env:Env):Xi Ru:=do
 Pm p
 match<-pyNext it with
 |none=>pure (.done .next)
 |some v=>
  Ic b it v
  assign b env v
  let mut ok:=ba
  for c in a do
   if ok then ok<-isTrue c env (eval c env)
  if ok then em
  Wo (.compLoop e d it xh env)
structure CG(e:Ww)(lv:Nat)(tg:Ww)(ifs:List Ww)(em:Xi Unit)(xh:Wr)(env:Env):Prop where
 turn:∃p,∀it,compTurn e lv it xh env=Yj p tg ifs em e lv it xh env
 den:∀(prog:Az) (w:Wv) (A:Bz) (it:Wr) (Q:Ru->Af->Prop) (E:Wr->Af->Prop) (s:Af),Wt (Wu prog w) A ((compTurn e lv it xh env).onRaise (λx=>do noteFrame x env;theTreesLotGoes x)) Q E s->Wt (Wu prog w) (A.under (.compLoop e lv it xh env)) ((Wu prog w).den (.compLoop e lv it xh env)) Q E s
 dens:∀(prog:Az) (w:Wv) (A:Bz) (it:Wr) (Q:Ru->Af->Prop) (E:Wr->Af->Prop) (s:Af),Wt (Wu prog w) A ((compStart e lv it xh env).onRaise (λx=>do noteFrame x env;Pm theWindowsPlace)) Q E s->Wt (Wu prog w) (A.under (.compStart e lv it xh env)) ((Wu prog w).den (.compStart e lv it xh env)) Q E s
 quiet:∀it,(Code.compLoop e lv it xh env).quiet=ba
 cl:∃g,(clausesOf e)[lv]?=b0 g/\g.is_async=0
section
variable{prog:Az}{w:Wv}{A:Bz}{s:Af}{e tg:Ww}{lv:Nat}{ifs:List Ww}{em:Xi Unit}{it xh:Wr}{env:Env}{R:Vz->Af->Prop}
def eB(L:CG e lv tg ifs em xh env)(I:Nat->Af->Prop)(turn:∀n s,I n s->Wt (Wu prog w) A (pyNext it) (λr b=>match r with
   |none=>R (.ok .next) b
   | some v => Wt (Wu prog w) A (Ic tg it v) (λ_ i => Wt (Wu prog w) A (assign tg env v) (λ_ g =>
     Wt (Wu prog w) A (forIn ifs ba λc r=>if r=ba then do let ok<-isTrue c env (eval c env);pure (Fz ok)else pure (Fz r)) (λok a=>if ok=ba then
      Wt (Wu prog w) A em (λ_ f=>∃m,m<n/\I m f) (λ_ _=>False) a else∃m,m<n/\I m a) (λ_ _=>False) g)
     (λ_ _=>False) i) (λ_ _=>False) b) (λ_ _=>False) s)
  (n:Nat) (h:I n s):Jd (Wu prog w) A (.compLoop e lv it xh env) R s:=by
 refine codeAny_loop (L.quiet it) I (λn s hI=>L.den _ _ _ _ _ _ _ (wpAny_noted ?_)) n h;obtain⟨p,u⟩:=L.turn;rw[u];refine Aa (Go (Aa (Cg (turn n s hI) (λr b k=>?_) λ_ _ d=>d.elim)));cases r with
 |none=>exact Ad k
 |some v=>
  refine Aa (Cg k (λ_ i l=>?_) λ_ _ d=>d.elim);refine Aa (Cg l (λ_ g q=>?_) λ_ _ d=>d.elim);refine Aa (Cg q (λt a j=>?_) λ_ _ d=>d.elim);cases t with
  |false=>exact Ad ⟨rfl,j⟩
  |true=>exact Aa (Cg j (λ_ f o=>Ad ⟨rfl,o⟩) λ_ _ d=>d.elim)
def gX(L:CG e lv tg ifs em xh env)(i:Jd (Wu prog w) A (.compLoop e lv it xh env) R s)(h:Wt (Wu prog w) A (Tc it) (λa b=>Jd (Wu prog w) A (.compLoop e lv a xh env) R b) (notedBy (Wu prog w) A env λx b=>R (.error x) b) s):Jd (Wu prog w) A (.compStart e lv it xh env) R s:=by
 refine Pz (L.dens _ _ _ _ _ _ _ (wpAny_notedAt ?_));obtain⟨g,d,f⟩:=L.cl;have c:=L.quiet;unfold compStart;simp only[d,Option.elim_some,f,bne_self_eq_false,Aj,if_false];refine Aa (Hm (wpAny_ite ?_));split;exact Aa (Ad (Ad ⟨c _,i⟩));exact Aa (Gh (Aa (Go (Aa (Cg h (λa b j=>Ad ⟨c _,j⟩) λ_ _ x=>x)))))
end
def PM(Y:Cx)(em:Xi Unit)(tm:TM):Prop:=∀(c:List (Ws×Xc)) (s:Af) (b:St) (H:Hp) (N:St->Hp->Prop),b9 Y c b H s->tm b H N->Wt (Wu Y.prog Y.w) Y.A em (λ_ e=>∃a d,b9 Y c a d e/\N a d) (λ_ _=>False) s
structure BlkG(Y:Cx)(e:Ww)(tg:Ww)(ifs:List Ww)(g:TG)(tt:TT)(tm:Ws->TM):Prop where
 pg:PG Y tg g
 ts:PTs Y ifs tt
 em:∀D,∃em,CG e 0 tg ifs em (.ref D) Y.env/\PM Y em (tm D)
def LB{X:Cx}{aa:List (Ws×Xc)}{I:St}{G:Hp}{f:Af}{E:Wr->Af->Prop}{e tg:Ww}{ifs:List Ww}{scope:Xd}{N':List Wy}{ix:List Nat}{nl:Nat}{g:TG}{tt:TT}{tm:Ws->TM}{mkA:Xi Wr}{ob:Xc}{o0:HO}{cl:List (Wy×Ws)}{J:It}{fp:List Ws}{it:Ws}{tn:Nat->Wz->Prop}{Q:V->Hp->Prop}{RR:Wr->Ws->Vz->Af->Prop}(hmk:∀{Q:Wr->Af->Prop},Q (.ref f.heap.objs.size) {f with heap:=f.heap.push ob}->Wt (Wu X.prog X.w) X.A mkA Q E f)(hob:ZY X.prog X.w (Z8 G f.heap.objs.size o0) (f.heap.push ob) f.heap.objs.size o0)(hc:X.calm=ba)(S:MR X N' ix scope)(hnl:N'.length=ix.length+nl)(cp:∀x c,cl.lookup x=b0 c->X.env.cells.lookup x=b0 c)(gf:∀x,(x,Ca)∈scope.names->∃c,cl.lookup x=b0 c)(blk:∀(cl:List (Wy×Ws)) (s:Af) (H1:Hp) (fp:List Ws),BlkG (Z5 X N' scope cl s H1 fp) e tg ifs g tt tm)(I2:b9 X aa I G f)(T:CK X.prog X.w X.K tg J fp it tn)(st2:tn 0 f.heap)(f2:∀b∈fp,K5 X aa G b)(h:∀D,G D=b4->Yb D o0 ix nl J g tt tm I G λt=>Q (.ref D) t)(fin:∀(D C:Ws) (U:Af) (t:Hp),b9 X aa I t U->(∃m,U.heap.Ns C m)->C≠X.env.locals->(∀x c,X.env.cells.lookup x=b0 c->c≠C)->(∀(F:St) (s'':Af) (h'':Wz),b9 X aa F t s''->Dw C s''.heap h''->b9 X aa F t {s'' with heap:=h''})->Q (.ref D) t->RR (.ref D) C (.ok .next) U):Wt (Wu X.prog X.w) X.A mkA (λxh M=>Wt (Wu X.prog X.w) X.A (Qu scope X.env.globals cl [] X.env.qual b4 .none (b0 X.env)) (λgm s₄=>Jd (Wu X.prog X.w) X.A (.compStart e 0 (.ref it) xh {gm with scope:=relabel scope X.env}) (RR xh gm.locals) s₄) E M) E f:=by
 refine hmk (E3 ?_);dsimp only;have B:b9 X aa I (Z8 G f.heap.objs.size o0) {f with heap:=f.heap.push ob}:=
  I2.laid (a:=f.heap.objs.size) (o:=o0) (t':=f.toks) (λ_ _ q=>Ae _ q) (Al _) hob
 have hDn:G f.heap.objs.size=b4:=I2.hok.fresh (Al _);obtain⟨W,m0,w0,turn⟩:=h _ hDn;generalize K2:({f with heap:=f.heap.push ob}:Af)=s at B;have d9:f.heap.push ob=s.heap:=by rw[<-K2]
 rw[d9];have Z:∀b o,s.heap.get? b=b0 o->(Uj (s.heap.push {cls:=.type "dict",data:=.dict #[]}) scope.names).get? b=b0 o:=λb o e=>pushCells_keeps _ _ _ _ (Ae _ e);have Y:(Uj (s.heap.push {cls:=.type "dict",data:=.dict #[]}) scope.names).Ns s.heap.objs.size (λ_=>b4):=(Heap.Ns.new s.heap (.type "dict")).keeps λb o e=>pushCells_keeps _ _ _ _ e;have okc:=cellsFrom_ok scope.names (s.heap.push {cls:=.type "dict",data:=.dict #[]}) (s.heap.objs.size+1) [] ⟨λ_ _ hm=>(nomatch hm),Nl⟩ (by rw[En];exact Al _);rw[En]at okc;generalize hz1:Uj (s.heap.push {cls:=.type "dict",data:=.dict #[]}) scope.names=O at Z Y okc;rw[QF];generalize hnc:Xe (s.heap.objs.size+1) scope.names []=H at okc;have R:∀x c,H.lookup x=b0 c->(x,Cu)∈scope.names/\O.IsCell c b4/\s.heap.objs.size+1<=c:=λx c e=>by have hm:=Dq e;exact⟨CW (n:=s.heap.objs.size+1) (by rw[hnc];exact hm),okc.empty x c hm⟩
 have nch:∀x,(x,Cu)∈scope.names->∃c,H.lookup x=b0 c:=λx h=>by obtain⟨c,hc⟩:=CV (n:=s.heap.objs.size+1) h;rw[hnc]at hc;exact LY hc
 have ez:∀b∈fp,b<f.heap.objs.size:=λb k=>by obtain⟨o,e,_⟩:=T.obj _ _ st2 b k;exact As e
 have fj:s.heap.objs.size=f.heap.objs.size+1:=by rw[<-d9,En]
 have gn:∀b o,f.heap.get? b=b0 o->s.heap.get? b=b0 o:=λb o e=>by rw[<-d9];exact Ae _ e
 have de:∀x c,cl.lookup x=b0 c->c<s.heap.objs.size:=λx c e=>by obtain⟨v,q⟩:=B.cell x c (cp x c e);exact q.lt
 have je:∀b∈frs X.stack,b<s.heap.objs.size:=λb k=>by obtain⟨_,o,ho,_⟩:=(B.stack).mem k;exact As ho
 have okY:(Z5 X N' scope (H++cl) s (Z8 G f.heap.objs.size o0) fp).Ok:=by
  refine⟨B.ok.mod,S.kind,B.ok.glob,B.ok.blt,Al _,λx y c e1 e2=>?_,λx hx=>?_,λx c hf e=>?_,B.ok.hd,B.ok.frames,.inl rfl,λb k=>⟨?_,λx c e=>?_⟩,λb o e=>?_,Fl B.ok.bsz B.sz,λb o e k=>?_,λb k hb2=>?_,B.stack,B.stkFree⟩;rcases YF e1 with n1|⟨_,o1⟩;rcases YF e2 with n2|⟨_,o2⟩;exact PySem.name_of_addr okc.apart (Dq n1) (Dq n2);exact absurd (Bt (de y c o2) (Km (R x c n1).2.2)) (By _);rcases YF e2 with n2|⟨_,o2⟩;exact absurd (Bt (de x c o1) (Km (R y c n2).2.2)) (By _);exact B.ok.inj x y c (cp x c o1) (cp y c o2);cases q:H.lookup x with
  |some c=>exact⟨c,SJ q⟩
  |none=>
   rcases UC hx with h|h;obtain⟨c,hc⟩:=gf x h;exact⟨c,(QD q).trans hc⟩;obtain⟨c,hc⟩:=nch x h;rw[q]at hc;cases hc
  have hx:(x,Cu)∈scope.names:=Dq (beq_iff_eq.mp hf);obtain⟨c',hc'⟩:=nch x hx;have:=SJ (m:=cl) hc';have e:(H++cl).lookup x=b0 c:=e;rw[this]at e;cases e;exact Km (R x c hc').2.2;exact Bd (Bt (ez b k) (by show f.heap.objs.size<=s.heap.objs.size;rw[fj];exact Jf _));rcases YF e with n1|⟨_,o1⟩;have h1:=ez b k;have h2:=(R x c n1).2.2;rw[fj]at h2;exact λz=>absurd (z▸h2) (Nat.not_le_of_lt (Bt h1 (Fl (Jf _) (Jf _))));exact(f2 b k).2.2.2.2.1 x c (cp x c o1);exact B.bs b o e;have:=(f2 b k)
  obtain⟨o',e',_⟩:=T.obj _ _ st2 b k;have hlt:=Bt (As e) B.ok.bsz;rcases this.2.2.2.1 with z|z;exact B.ok.noex b o e z;exact absurd (Bt hlt z) (By _);rcases Ak.mp (B.stkSub b hb2)with z|z;exact(f2 b k).2.1 z;exact(f2 b k).2.2.1 z
 have dq:(Y8 ix I++Cb nl b4).length=N'.length:=by rw[Bm,Ps,hnl];simp[Y8]
 have IY:b9 (Z5 X N' scope (H++cl) s (Z8 G f.heap.objs.size o0) fp) [] (Y8 ix I++Cb nl b4) (Z8 G f.heap.objs.size o0) {f with heap:=O}:=by
  refine⟨okY,?_,I2.bare,Un.kept Z,⟨_,Y,λj x v e1 e2 e3=>?_⟩,λx c e=>?_,B.hok.fresh (Al _),λx c e=>?_,λp hp=>absurd (show p∈([]:List (Ws×Xc)) from hp) (by simp),B.hok.kept Z,dq⟩;show f.os=s.os;rw[<-K2]
  ·have hj:j<ix.length:=by
    by_cases hj:j<ix.length;exact hj
    ·exfalso
     have hl:(Y8 ix I).length=ix.length:=by simp[Y8]
     rw[Dk (by rw[hl];lia),Fb]at e2;split at e2<;>cases e2
   have hl:(Y8 ix I).length=ix.length:=by simp[Y8]
   rw[Ax (by rw[hl];exact hj)]at e2;have hci:=S.cap j hj;obtain⟨i,hi⟩:∃i,ix[j]?=b0 i:=⟨ix[j],by simp[hj]⟩;rw[hi]at hci;have hNi:X.N[i]?=b0 x:=by
    have:N'[j]?=X.N[i]? :=hci
    rw[<-this];exact e1
   have hσ:I[i]?=b0 (b0 v):=by
    unfold Y8 at e2;rw[Di,hi]at e2;have e2':(I[i]?).join=b0 v:=by simpa using e2
    cases q:I[i]? with
    |none=>rw[q]at e2';cases e2'
    |some o=>rw[q]at e2';rw[show o=b0 v from e2']
   have hfl:scope.names.lookup x=b0 .free:=S.capf x (by rw[Px];exact⟨j,by rw[Dz hj];exact e1⟩);have bo:(x,Ca)∈scope.names:=Dq hfl;have hpk:X.env.kindOf x=b0 .cell∨X.env.kindOf x=b0 .free:=by exact S.free (x,.free) bo rfl
   have i3:Vis X.env.scope x:=by
    rcases hpk with z|z;exact .inr (.inl z);exact .inr (.inr z)
   obtain⟨m,hn,ip⟩:=B.loc;obtain⟨u,ru,l⟩:=ip i x v hNi hσ i3;refine⟨u,ru,?_⟩;rcases l with⟨hk,_⟩|⟨hk,c,ec,z⟩
   ·rcases hpk with q|q<;>rw[hk]at q<;>cases q
   obtain⟨c',hc'⟩:=gf x bo
   have:c'=c:=by
    have:=cp x c' hc'
    rw[ec]at this;exact(Cd this).symm
   subst this;have ii:H.lookup x=b4:=by
    cases q:H.lookup x with
    |none=>rfl
    |some d=>
     have:=S.cel (x,.cell) (R x d q).1 rfl
     rw[hfl]at this;cases this
   refine .inr ⟨PY hfl,c',(QD ii).trans hc',?_⟩;obtain⟨o,ho,hd⟩:=z;exact⟨o,Z _ _ ho,hd⟩
  rcases YF e with n1|⟨_,o1⟩;exact⟨b4,(R x c n1).2.1⟩;obtain⟨v,o,ho,hd⟩:=B.cell x c (cp x c o1);exact⟨v,o,Z _ _ ho,hd⟩;rcases YF e with n1|⟨_,o1⟩;exact B.hok.fresh (Km (R x c n1).2.2);exact B.freeC x c (cp x c o1)
 have back:∀{pY:List (Ws×Xc)}{F:St}{t:Hp}{U:Af},b9 (Z5 X N' scope (H++cl) s (Z8 G f.heap.objs.size o0) fp) pY F t U->b9 X aa I t U:=λ{pY F t U} J'=>
  B.call' J'.os J'.base J'.hok J'.bare λb k=>⟨(f2 b k).2.2.2.1,(f2 b k).2.1,(f2 b k).2.2.2.2.1,(f2 b k).2.2.2.2.2⟩
 have stat:∀{t:Hp}{pY:List (Ws×Xc)},(∀b∈fp,t b=b4)->pY=[]->∀b∈fp,K5 (Z5 X N' scope (H++cl) s (Z8 G f.heap.objs.size o0) fp) pY t b:=λ{t pY} hn hp b k=>by subst hp;refine⟨hn b k,(okY.exf b k).1,okY.exfs b k,.inl k,(okY.exf b k).2,λp hp=>absurd (show p∈([]:List (Ws×Xc)) from hp) (by simp)⟩
 have st1:tn 0 O:=T.keep 0 f.heap O st2 λb k o e=>Z b o (gn b o e);have fr1:∀b∈fp,(Z8 G f.heap.objs.size o0) b=b4:=λb k=>by rw[a8 (Bd (ez b k))];exact(f2 b k).1
 obtain⟨btg,bts,bem⟩:=blk (H++cl) s (Z8 G f.heap.objs.size o0) fp;obtain⟨em,L,bem⟩:=bem f.heap.objs.size;have loop:∀M:Af,M={f with heap:=O}->
   Jd (Wu X.prog X.w) X.A (.compLoop e 0 (.ref it) (.ref f.heap.objs.size) (compEnvC scope (H++cl) s.heap.objs.size X.env)) (RR (.ref f.heap.objs.size) s.heap.objs.size) M:=by
  rintro M rfl;refine eB L (λn U=>∃i F t,b9 (Z5 X N' scope (H++cl) s (Z8 G f.heap.objs.size o0) fp) [] F t U/\F.take ix.length=Y8 ix I/\tn i U.heap/\(∀b∈fp,t b=b4)/\W i n t) ?_ m0
   ⟨0,_,_,IY,by rw[Ep (by simp[Y8])];exact Cv (by simp[Y8]),st1,fr1,w0⟩
  rintro n U ⟨i,F,t,J',hσ,st',fr',w'⟩;have Jc:b9 (Z5 X N' scope (H++cl) s (Z8 G f.heap.objs.size o0) fp) [] (Y8 ix I++Cb nl b4) t U:=by
   refine J'.weak (by rw[dq];exact J'.len.symm) λj v e=>?_;have hl:(Y8 ix I).length=ix.length:=by simp[Y8]
   by_cases hj:j<ix.length;rw [Ax (by rw [hl];exact hj),<- hσ,Dz hj]at e;exact e
   ·rw [Dk (by rw [hl];lia),Fb]at e
    split at e<;>cases e
  rcases turn i n t w' with⟨stop,q⟩|⟨go,N,hN,step⟩;refine Cg (T.done (Z5 X N' scope (H ++ cl) s (Z8 G f.heap.objs.size o0) fp) rfl rfl rfl hc i [] U _ t (λ_ _ => False) Jc (stat fr' rfl) st' stop) (λr s4 ⟨hr,I4⟩ => ?_) λ_ _ z => z;subst hr;have IX:=back I4;obtain⟨m,hm,_⟩:=I4.loc;exact fin _ _ s4 t IX ⟨m,hm⟩ (Hg B.lt) (λx c e z=>by
   obtain⟨v,q⟩:=B.cell x c e;have:=q.lt;rw[z]at this;exact By _ this) (λσ'' s'' h'' I'' sb=>b9.offNew B I'' I4.free λb o k e=>(sb.2 b k).trans e) q
  refine Cg (T.item (Z5 X N' scope (H ++ cl) s (Z8 G f.heap.objs.size o0) fp) rfl rfl rfl hc i [] U _ t (λ_ _ => False) Jc (stat fr' rfl) st' go) (λr s4 ⟨u,hr,h4⟩ => ?_) λ_ _ z => z;subst hr;refine Cg h4 (λ_ s5 ⟨x,H5,I5,r5,y5,st5,fr5⟩=>?_) λ_ _ z=>z;have I5':=I5.pinned (stat fr5 rfl) (T.obj _ _ st5);refine Cg (btg _ s5 _ H5 x u _ I5' r5 (step x H5 y5)) (λ_ s6 ⟨σ6,H6,I6,hσ6,q6⟩=>?_) λ_ _ z=>z;have again:∀{σ7:St}{H7:Hp}{s7:Af},σ7.take ix.length=Y8 ix I->b9 (Z5 X N' scope (H++cl) s (Z8 G f.heap.objs.size o0) fp) ([]++ON fp s5.heap) σ7 H7 s7->N H7->
    ∃m,m<n/\∃i F t,b9 (Z5 X N' scope (H++cl) s (Z8 G f.heap.objs.size o0) fp) [] F t s7/\F.take ix.length=Y8 ix I/\tn i s7.heap/\(∀b∈fp,t b=b4)/\W i m t:=λ{σ7 H7 s7} hσ7 I7 n7=>by
   obtain⟨m',hm,w7⟩:=hN H7 n7;refine⟨m',hm,i+1,σ7,H7,I7.unpinned,hσ7,T.keep _ _ _ st5 λb k o e=>(I7.pin (b,o) (Be _ (Be _ (XC k e)))).1,λb k=>?_,w7⟩;obtain⟨o,e,d⟩:=T.obj _ _ st5 b k;exact(I7.pin (b,o) (Be _ (Be _ (XC k e)))).2.1
  refine Cg (bts _ s6 σ6 H6 _ I6 q6) (λokb s7 ⟨H7,I7,q7⟩=>?_) λ_ _ z=>z;cases okb with
  |false=>exact again hσ6 I7 q7
  |true=>exact Cg (bem _ s7 σ6 H7 _ I7 q7) (λ_ s8 ⟨σ8,H8,I8,hσ8,n8⟩=>again hσ8 I8 n8) λ_ _ z=>z
 exact gX L (loop _ rfl) (T.self _ 0 _ _ _ st1 (loop _ rfl))
def qE{X:Cx}{h:List (Ws×Xc)}{s:St}{i:Nat}{y:Wy}{t:Pos}{D:GO}(I:X.N.Nodup)(n:X.N[i]?=b0 y)(u:X.env.scope.names.lookup y=b0 .local)(j C:Ws)(f:Af)(g:Hp)(J:b9 X h s g f)(l:∃m,f.heap.Ns C m)(q:C≠X.env.locals)(p:∀x c,X.env.cells.lookup x=b0 c->c≠C)(G:∀(e:St) (b:Af) (d:Wz),b9 X h e g b->Dw C b.heap d->b9 X h e g {b with heap:=d})(F:D.nx (s.set i (b0 (.ref j))) g):compPost (Wu X.prog X.w) X.A X.xe (b0 (assign (.Name y t) X.env)) (λ_ f=>SP X h D .next f) (.ref j) C (.ok .next) f:=by
 obtain⟨m,l⟩:=l;show Wt _ X.A (assign (.Name y t) X.env (.ref j)) _ _ _;refine Kg (J8 J I n (.inl u) (v:=.ref j) rfl (λb r ⟨a,k,H⟩=>?_) (.inr u));have o:C≠a:=by
  rcases H with z|z;rw[z];exact q;exact Dg (p y a z)
 exact⟨m,l.sameBut k o,λd E=>⟨_,g,G _ b d r E,F⟩⟩
def emL(D:Ws)(a:Ww)(env:Env):Xi Unit:=do let _<-call (.builtin "list.append") [.ref D,<-eval a env]
def lpL1{b d iter:Ww}{a:List Ww}{scope:Xd}{c:Pos}{D:Ws}{env:Env}:CG (.ListComp b [⟨d,iter,a,0⟩] scope c) 0 d a (emL D b env) (.ref D) env:=⟨⟨iter.pos,λ_=>rfl⟩,λ_ _ _ _ _ _ _ h=>h,λ_ _ _ _ _ _ _ h=>h,λ_=>rfl,_,rfl,rfl⟩
def A7{Y:Cx}{a:Ww}{g:TE}{D:Ws}(d:Y.xe=λ_ _=>False)(o:PE Y a g):PM Y (emL D a Y.env) (tmL g D):=by
 intro p s b H N I h;have nx:∀{i:Sort _}{x:Wr}{s:Af},Y.xe x s->i:=λz=>by rw[d]at z;exact z.elim
 exact Aa (Cg (o p s b H _ I h) (λv k ⟨y,t,r,l,j,e,c,n⟩=>Aa (Cg (aR (X:=Y) _ k b t (.ref D) [y] (.ref D) [v] (λ_ f=>N b f) r rfl (.cons l .nil)
  ⟨D,j,y,rfl,rfl,e,c,n⟩) (λ_ u ⟨_,f,q,_,m⟩=>Ad ⟨b,f,q,m⟩) λ_ _ z=>nx z)) λ_ _ z=>nx z)
section
variable{X:Cx}{tg iter elt:Ww}{ifs:List Ww}{rest:List Comprehension}{scope:Xd}{pos py c9:Pos}{N':List Wy}{ix:List Nat}{nl:Nat}{wi:TI}{g:TG}{tt:TT}{tm:Ws->TM}{i:Nat}{y:Wy}
def MD(hc:X.calm=ba)(S:MR X N' ix scope)(f:N'.length=ix.length+nl)(F:PI X tg iter wi)(k:∀(cl:List (Wy×Ws)) (t:Af) (V:Hp) (fp:List Ws),BlkG (Z5 X N' scope cl t V fp) (.ListComp elt (⟨tg,iter,ifs,0⟩::rest) scope pos) tg ifs g tt tm)(hs:∀x,Xa iter X.env x=pure x):PE X (.ListComp elt (⟨tg,iter,ifs,0⟩::rest) scope pos) (IA ix nl wi g tt tm):=by intro o s c H Q I h;rw[eval_ListComp];obtain⟨cl,P,O,N⟩:=dJ (env:=X.env) (scope:=scope) λy B G=>I.ok.has y.1 (S.free y B G);refine Nq (use:=b4) (cl:=cl) rfl hs P S.kind S.names (Cg (F o s c H _ I h) (λY n b=>Cg b (λv l a=>?_) λ_ _ e=>e) λ_ _ e=>e);obtain⟨it,fp,Z,J,H2,e,R,T,d,f2,q⟩:=a;subst e;refine LB (o0:=.lst []) (Q:=Q) (RR:=λp C=>compPost (Wu X.prog X.w) X.A X.xe b4 (EP X o c Q) p C) (λz=>Cp z) ⟨Ch _,[],0,.nil,Ar _ rfl⟩ hc S f O N k R T d f2 q ?_;intro D C u W U i M L K E;obtain⟨m,i⟩:=i;exact⟨m,i,λj r=>⟨.ref D,W,K c u j U r,rfl,E⟩⟩
def BC(K:X.N.Nodup)(l:X.N[i]?=b0 y)(f:X.env.scope.names.lookup y=b0 .local)(hc:X.calm=ba)(S:MR X N' ix scope)(k:N'.length=ix.length+nl)(F:PI X tg iter wi)(m:∀(cl:List (Wy×Ws)) (u:Af) (R:Hp) (fp:List Ws),BlkG (Z5 X N' scope cl u R fp) (.ListComp elt (⟨tg,iter,ifs,0⟩::rest) scope pos) tg ifs g tt tm)(j:Jm (.ListComp elt (⟨tg,iter,ifs,0⟩::rest) scope pos) (b0 (.Name y py)) c9.line X.env=pure ba)(hs:∀x,Xa iter X.env x=pure x):PS X (.Assign [.Name y py] (.ListComp elt (⟨tg,iter,ifs,0⟩::rest) scope pos) c9) (tAsg (IA ix nl wi g tt tm) (Xk i)):=by
 intro n s o H D I h;rw[exec_Assign_Name_used _ _ _ _ j];refine Aa (Go (Aa ?_));show Wt _ X.A (do let _<-comprehension (.ListComp elt (⟨tg,iter,ifs,0⟩::rest) scope pos) scope X.env _ (newList []) bb (eval iter X.env) (b0 (assign (.Name y py) X.env))) _ _ s;obtain⟨cl,O,M,L⟩:=dJ (env:=X.env) (scope:=scope) λy f G=>I.ok.has y.1 (S.free y f G);refine Aa (Cg (Nq (use:=b0 (assign (.Name y py) X.env)) (cl:=cl) (Q:=λ_ c=>SP X n D .next c) rfl hs O S.kind S.names
  (Cg (F n s o H _ I h) (λV r b=>Cg b (λB p a=>?_) λ_ _ e=>e) λ_ _ e=>e)) (λ_ c E=>Ad (Ad E)) λ_ _ e=>e)
 obtain⟨Y,fp,W,J,Z,e,P,T,d,f2,q⟩:=a;subst e;exact LB (o0:=.lst []) (Q:=λv U=>D.nx (o.set i (b0 v)) U) (RR:=λt C=>compPost (Wu X.prog X.w) X.A X.xe (b0 (assign (.Name y py) X.env)) (λ_ c=>SP X n D .next c) t C) (λz=>Cp z) ⟨Ch _,[],0,.nil,Ar _ rfl⟩ hc S k M L m P T d f2 q (qE K l f)
end
section
variable{X:Cx}{K:Au}{ml:List Nat}{pi pt pe pu:Bool}{pos:Pos}{ix:List Nat}{nl:Nat}{f:VF}
def QG(N N':List Wy)(ix:List Nat)(names:List (Wy×Xg))(k:Wy->Option Xg):Bool:=
 names.all (λy=>y.2 != .cell || names.lookup y.1==b0 .cell)&&(names.all (λy=>y.2 != .local || names.lookup y.1==b0 .local)&&(names.all (λy=>y.2 != .free || (k y.1==b0 .cell || k y.1==b0 .free)) &&
  (decide N'.Nodup&&((Ao ix.length).all (λj=>N'[j]? ==(ix[j]?).bind λi=>N[i]?)&&(N'.take ix.length).all λx=>names.lookup x==b0 .free))))
def YX{N':List Wy}{scope:Xd}(b:scope.kind=.function)(h:QG X.N N' ix scope.names X.env.kindOf=ba):MR X N' ix scope:=by unfold QG at h;simp only[Ah,Eo,Ih,bne_iff_ne,beq_iff_eq,decide_eq_true_eq,Bj]at h;obtain⟨j,i,g,f,d,c⟩:=h;exact⟨b,λy a e=>(j y a).resolve_left λz=>z e,λy a e=>(i y a).resolve_left λz=>z e,λy a e=>(g y a).resolve_left λz=>z e,f,d,c⟩
def Blk.g{X:Cx}{N':List Wy}{scope:Xd}{f iter e:Ww}{a:List Ww}{pos:Pos}{g:TG}{h:TT}{i:TE}(b:∀(cl:List (Wy×Ws)) (c:Af) (d:Hp) (fp:List Ws),Blk (Z5 X N' scope cl c d fp) f a e g h i)(cl:List (Wy×Ws))(c:Af)(d:Hp)(fp:List Ws):BlkG (Z5 X N' scope cl c d fp) (.ListComp e [⟨f,iter,a,0⟩] scope pos) f a g h (tmL i):=
 ⟨(b cl c d fp).tg,(b cl c d fp).ts,λD=>⟨_,lpL1,A7 rfl (b cl c d fp).el⟩⟩
abbrev BlkC(X:Cx)(K:Au)(N':List Wy)(ix:List Nat)(scope:Xd)(c:Ww)(a:List Ww)(b:Ww)(f:VG)(pt:Bool)(d:VB)(pe:Bool)(h:VF):Prop:=N'.Nodup->∀(i:List (Wy×Ws)) (e:Af) (j:Hp) (g:List Ws),Blk (Z5 X N' scope i e j g) c a b (TGV K (Ao ix.length) f) (TB K (Ao ix.length) pt d) (TV K (Ao ix.length) pe ba ba h)
def bB{d iter c:Ww}{a:List Ww}{scope:Xd}{fi:VI}{l:VG}{j:VB}{m:VF}(N':List Wy)(ix:List Nat)(nl:Nat)(n:PI X d iter (TIV K ml pi fi))(i:BlkC X K N' ix scope d a c l pt j pe m)(hc:X.calm=ba:=by rfl)(k:scope.kind=.function:=by rfl)(b:QG X.N N' ix scope.names X.env.kindOf=ba:=by rfl)(e:N'.length=ix.length+nl:=by rfl)(f:ix.Nodup:=by decide)(hs:∀x,Xa iter X.env x=pure x:=by intro _;rfl):PE X (.ListComp c [⟨d,iter,a,0⟩] scope pos) (TN K ml (pi&&pt&&pe) (bM ix nl fi l j m)):=
 (MD hc (YX k b) e n (Blk.g (i (YX k b).nd)) hs).imp λ_ _ _ h=>B0 f h
def GC{i:Nat}{y:Wy}{q s:Pos}{d iter b:Ww}{a:List Ww}{scope:Xd}{fi:VI}{m:VG}{e:VB}{n:VF}(o:Bool)(A:X.N.Nodup)(N':List Wy)(ix:List Nat)(nl:Nat)(w:PI X d iter (TIV K ml pi fi))(p:BlkC X K N' ix scope d a b m pt e pe n)(l:X.N[i]?=b0 y:=by rfl)(u:X.env.scope.names.lookup y=b0 .local:=by rfl)(hc:X.calm=ba:=by rfl)(r:scope.kind=.function:=by rfl)(c:QG X.N N' ix scope.names X.env.kindOf=ba:=by rfl)(j:N'.length=ix.length+nl:=by rfl)(k:ix.Nodup:=by decide)(v:i∉ml:=by decide)(f:Jm (.ListComp b [⟨d,iter,a,0⟩] scope pos) (b0 (.Name y q)) s.line X.env=pure ba:=by rfl)(hs:∀x,Xa iter X.env x=pure x:=by intro _;rfl):PS X (.Assign [.Name y q] (.ListComp b [⟨d,iter,a,0⟩] scope pos) s) (RE K ml (aU i (if o then xO (bM ix nl fi m e n)else xV (bM ix nl fi m e n)))):=
 (BC A l u hc (YX r c) j w (Blk.g (p (YX r c).nd)) f hs).imp λD t H h=>eT (λt H Q z=>B0 k (dO (pu:=pi&&pt&&pe) z)) v h
end
section
variable{X:Cx}{K:Au}{ml:List Nat}{e a b c:Ww}{es:List Ww}{pi pt pe pu bt bi ps bs:Bool}{f:VF}{B B':Bs}{O:Nat->Option Ws}{H H0 H1 H':Hp}{σ:St}{δ xj:Ev}{v:V}{d:cY}{p:Ws}{pos:Pos}{ix:List Nat}{nl:Nat}
def r9(K:Au)(N:Ws->Prop)(J:It)(H:Hp)(ds:List cY):Prop:=∃b:List V,cA K N H b ds/\∀a,aS H a->(∀(i:Nat) (x:V),b[i]?=b0 x->J.go i a/\∀y c,J.yld i a y c->c=a/\y=x)/\J.stop b.length a
inductive gM(K:Au)(ml:List Nat)(f:VI)(σ:St)(H:Hp)(R:It->Hp->Prop):Prop
 |mk (B:_) (O:_) (δ:_) (ds:_) (xj:_) (h0:aI K ml B O H σ δ) (h1:f δ=b0 (ds,xj)) (h2:∀J H',aI K ml B O H' σ xj->aS H H'->r9 K (Nn B O) J H' ds->R J H'):gM K ml f σ H R
def TIVp(K:Au)(ml:List Nat)(f:VI):TI:=λσ H R=>gM K ml f σ H R
def F5{fi:VI}{l:VG}{g:VB}{m:VF}(b:ix.Nodup){Q:VK}(h:TN K ml ba (bM ix nl fi l g m) σ H Q):Xp ix nl (TIVp K ml fi) (TGV K (Ao ix.length) l) (TB K (Ao ix.length) ba g) (TV K (Ao ix.length) ba ba ba m) σ H Q:=by obtain⟨B,O,δ,n,xj,S,e,k⟩:=F6 (pi:=ba) (pt:=ba) (pe:=ba) b h;refine⟨B,O,δ,n,xj,S,e,λJ H' t p w=>?_⟩;obtain⟨c,a,f⟩:=w;refine k J (c.zip n) H' (t.keepV (WQ a)) p.fr (λ_=>p) λN H1 z j=>⟨λi d s=>?_,by rw[<-a.length];exact(f H1 (j rfl)).2⟩;obtain⟨x,q,r⟩:=(UD a.length z).get s;have w:=(f H1 (j rfl)).1 i x q;exact⟨w.1,λy u o=>by obtain⟨rfl,rfl⟩:=w.2 y u o;exact⟨.refl _,r⟩⟩
def aS.sqT{a:Ws}{xs:List V}(s:aS H H')(h:WT K H a xs):WT K H' a xs:=Fr.tup (P:=λ_=>False) s.fr h
def IF{u:Ww}(s:X.K=K)(h:PE X e (TV K ml ba bt bi f))(w:bi=ba:=by rfl):PI X u e (TIVp K ml (ZT f)):=by
 subst w;refine((gG (K:=K) s h).or (Yz (K:=K) s h)).imp λσ H R m=>?_;obtain⟨B,O,δ,C,xj,S,q,k⟩:=m;unfold ZT at q;obtain⟨⟨x,g⟩,t,q⟩:=Ac.mp q;cases x with
 |lst p=>
  cases q;refine .inl ⟨B,O,δ,_,g,S,t,λv H1 d=>?_⟩;obtain⟨a,b,rfl,sq,r⟩:=d.rep.lstE;refine⟨a,rfl,⟨b,sq⟩,k _ H1 d.sta (d.pur rfl) ⟨b,r,λA c=>⟨λi x j=>⟨⟨b,x,c.seq sq,j⟩,λy z l=>?_⟩,b,c.seq sq,Al _⟩⟩⟩;obtain⟨o,n⟩:=l;have:=n b (c.seq sq);rw[j]at this;cases this;exact⟨o,rfl⟩
 |tup p=>
  cases q;refine .inr ⟨B,O,δ,_,g,S,t,λv H1 d=>?_⟩;obtain⟨a,b,rfl,sq,r⟩:=d.rep.tupE;refine⟨a,rfl,⟨b,sq⟩,k _ H1 d.sta (d.pur rfl) ⟨b,r,λA c=>⟨λi x j=>⟨⟨b,x,c.sqT sq,j⟩,λy z l=>?_⟩,b,c.sqT sq,Al _⟩⟩⟩;obtain⟨o,n⟩:=l;have:=n b (c.sqT sq);rw[j]at this;cases this;exact⟨o,rfl⟩
 |_=>cases q
def pW{d iter c:Ww}{a:List Ww}{scope:Xd}{fi:VI}{l:VG}{j:VB}{m:VF}(N':List Wy)(ix:List Nat)(nl:Nat)(o:PI X d iter (TIVp K ml fi))(i:BlkC X K N' ix scope d a c l pt j pe m)(hc:X.calm=ba:=by rfl)(k:scope.kind=.function:=by rfl)(b:QG X.N N' ix scope.names X.env.kindOf=ba:=by rfl)(e:N'.length=ix.length+nl:=by rfl)(f:ix.Nodup:=by decide)(n:(pt&&pe)=ba:=by rfl)(hs:∀x,Xa iter X.env x=pure x:=by intro _;rfl):PE X (.ListComp c [⟨d,iter,a,0⟩] scope pos) (TN K ml ba (bM ix nl fi l j m)):=by obtain⟨q,p⟩:=(Ah _ _).mp n;subst q p;exact(MD hc (YX k b) e o (Blk.g (i (YX k b).nd)) hs).imp λ_ _ _ h=>F5 f h
def MO{i:Nat}{y:Wy}{q s:Pos}{d iter b:Ww}{a:List Ww}{scope:Xd}{fi:VI}{m:VG}{e:VB}{n:VF}(o:Bool)(A:X.N.Nodup)(N':List Wy)(ix:List Nat)(nl:Nat)(w:PI X d iter (TIVp K ml fi))(p:BlkC X K N' ix scope d a b m pt e pe n)(l:X.N[i]?=b0 y:=by rfl)(t:X.env.scope.names.lookup y=b0 .local:=by rfl)(hc:X.calm=ba:=by rfl)(r:scope.kind=.function:=by rfl)(c:QG X.N N' ix scope.names X.env.kindOf=ba:=by rfl)(j:N'.length=ix.length+nl:=by rfl)(k:ix.Nodup:=by decide)(u:(pt&&pe)=ba:=by rfl)(v:i∉ml:=by decide)(f:Jm (.ListComp b [⟨d,iter,a,0⟩] scope pos) (b0 (.Name y q)) s.line X.env=pure ba:=by rfl)(hs:∀x,Xa iter X.env x=pure x:=by intro _;rfl):PS X (.Assign [.Name y q] (.ListComp b [⟨d,iter,a,0⟩] scope pos) s) (RE K ml (aU i (if o then xO (bM ix nl fi m e n)else xV (bM ix nl fi m e n)))):=by obtain⟨C,B⟩:=(Ah _ _).mp u;subst C B;exact(BC A l t hc (YX r c) j w (Blk.g (p (YX r c).nd)) f hs).imp λD σ H h=>eT (λσ H Q z=>F5 k (dO (pu:=ba) z)) v h
end
section
variable{X:Cx}{K:Au}{ml:List Nat}{e a b c:Ww}{es:List Ww}{pa ta ia pb tb ib pc tc ic pu bt bi ps bs:Bool}{fa fb fc f:VF}{pos p':Pos}{d:cY}{x:Wy}
def vv(i:Nat)(d:X.N[i]?=b0 x:=by rfl)(b:Vis X.env.scope x:=by first|exact Lk rfl|exact Ju (Lk rfl)|exact Ju (Ju rfl))(c:ND x:=by decide)(a:(x==("__classdict__":Wy))=bb:=by decide):PE X (.Name x pos) (TV K ml ba ba ba (fV i)):=mi (DJ d b c a)
def vo(i:Nat)(d:X.N[i]?=b0 x:=by rfl)(b:Vis X.env.scope x:=by first|exact Lk rfl|exact Ju (Lk rfl)|exact Ju (Ju rfl))(c:ND x:=by decide)(a:(x==("__classdict__":Wy))=bb:=by decide):PE X (.Name x pos) (TV K ml ba bb ba (fO i)):=kB (DJ d b c a)
def Z0(d:X.A.units+1<cLine)(f:PE X a (TV K ml pa ta ia fa))(e:PE X b (TV K ml pb tb ib fb))(g:X.K=K:=by rfl)(c:GQ b:=by exact λ_ _=>rfl)(hs:(pb || (ta&&ia))=ba:=by rfl):PE X (.Subscript a b pos) (TV K ml (pa&&pb) ia ia (f2 cJ fa fb)):=
 om (kIxA d g) jC f e c hs
def veq(c:X.A.units+64<cLine)(e:PE X a (TV K ml pa ta ia fa))(d:PE X b (TV K ml pb tb ib fb))(f:X.K=K:=by rfl)(hs:(pb || (ta&&ia))=ba:=by rfl):PE X (.Compare a [.Eq] [b] pos) (TV K ml (pa&&pb) ba ba (f2 ZF fa fb)):=
 X3 (kEqD c f) s_eq e d (HH _) hs
def XH(c:X.A.units+64<cLine)(e:PE X a (TV K ml pa ta ia fa))(d:PE X b (TV K ml pb tb ib fb))(f:X.K=K:=by rfl)(hs:(pb || (ta&&ia))=ba:=by rfl):PT X (.Compare a [.Eq] [b] pos) (TB K ml (pa&&pb) (fB (f2 ZF fa fb))):=
 b8 (kEqD c f) s_eq e d (HH _) hs
def bW{d j n:Nat}{qs:List Wy}{a:List Nat}{F:aP}{m:Ws}{fs:EB}(D:Def X.prog X.w K X.mg X.base x d qs (spV K a n F) m)(f:WR j X.A)(k:PA X (e::es) (TAG K ml ps fs))(l:X.K=K:=by rfl)(g:d<=j:=by decide)(h:Gl X x:=by rfl)(c:ND x:=by decide)(i:SE X e es:=by rfl)(b:(Hk pos (Bi es X.env)).any (·.1)=bb:=by rfl):PE X (.Call (.Name x p') (e::es) [] pos) (TV K ml (ps&&a.isEmpty) ba ba (cM n a F fs)):=mZ l D f g h k c i b
def YS(b:X.mg "len"=b4)(e:PE X a (TV K ml pa ta ia fa))(f:X.K=K:=by rfl)(c:Gl X "len":=by rfl)(d:SE X a []:=by rfl):PE X (.Call (.Name "len" p') [a] [] pos) (TV K ml pa ba ba (f1 Z9 fa)):=
 KH (iK f) oV c b Zi e (by decide) (by decide) d
def vty{n:String}(c:X.mg x=b4)(a:Bv x=b0 (.type n))(d:Gl X x:=by rfl)(b:x≠ "__name__":=by decide)(e:ND x:=by decide):PE X (.Name x pos) (TV K ml ba ba ba (fC (.ty n))):=
 ve_c (pD (v:=.ty n) d c a rfl b e) λ_ _ _=>.ty _
def IG(e:X.mg "isinstance"=b4)(i:PE X a (TV K ml pa ta ia fa))(h:PE X b (TV K ml pb tb ib fb))(j:X.K=K:=by rfl)(f:Gl X "isinstance":=by rfl)(g:SE X a [b]:=by rfl)(d:SE X b []:=by rfl)(c:(Hk pos (Bi [b] X.env)).any (·.1)=bb:=by rfl)(hs:(pb || (ta&&ia))=ba:=by rfl):PE X (.Call (.Name "isinstance" p') [a,b] [] pos) (TV K ml (pa&&pb) ba ba (f2 QZ fa fb)):=Yg (kIsi j) pK f e KN i h (by decide) (by decide) g d c hs
end
def A4(K:Au)(x:Wy)(st:Xf)(f:Ws):Prop:=∃(d:Wr) (od:Option Ws) (kV doc c:Wr) (e:Option Ws) (a ct:Wr) (b:Array (Option Wr)),Te K Xb x=b0 (b0 (.ref f))∧
 K.lookup f=b0 ⟨d,od,.func (Ro x x (WJ st) (YY st) (bS st) .none kV doc c e a ct),b⟩/\Tt K a x=ba/\Rn K (.ref f)=ba
def a4{K:Au}{x:Wy}{st:Xf}{f:Ws}{i:Wr}{od:Option Ws}{kV doc h:Wr}{j:Option Ws}{e ct:Wr}{g:Array (Option Wr)}(a:Te K Xb x=b0 (b0 (.ref f)))(b:K.lookup f=b0 ⟨i,od,.func (Ro x x (WJ st) (YY st) (bS st) .none kV doc h j e ct),g⟩)(c:Tt K e x=ba)(d:Rn K (.ref f)=ba):A4 K x st f:=⟨i,od,kV,doc,h,j,e,ct,g,a,b,c,d⟩
def mkSc{N P:List Wy}{h:Xd}(a:h.kind=.function:=by rfl)(b:h.isCoroutine=bb:=by rfl)(c:h.isGenerator=bb:=by rfl)(d:N.Nodup:=by decide+kernel)(e:N.take P.length=P:=by rfl)(f:∀x∈P,h.names.lookup x=b0 .local∨h.names.lookup x=b0 .cell:=by decide+kernel)(g:∀y∈h.names,y.2≠Ca:=by decide+kernel):WC N P h:=⟨a,b,c,d,e,f,g⟩
noncomputable def em2(e a:Ww)(xh:Wr)(env:Env):Xi Unit:=do
 let x<-eval a env
 Pm a.pos
 let x<-Xa a env x
 let _<-runOwn (.compStart e 1 (<-Nb [x] (Tc x)) xh env) env
noncomputable def twoG(d iter a:Ww)(b:List Ww)(e:Ww)(it xh:Wr)(env:Env):Xi Ru:=do
 Pm iter.pos
 match<-pyNext it with
 |none=>pure (.done .next)
 |some v=>
  Ic d it v
  assign d env v
  let mut ok:=ba
  for c in b do
   if ok then ok<-isTrue c env (eval c env)
  if ok then
   let x<-eval a env
   Pm a.pos
   let x<-Xa a env x
   let _<-runOwn (.compStart e 1 (<-Nb [x] (Tc x)) xh env) env
  Wo (.compLoop e 0 it xh env)
section
variable{e tg iter tg2 it2:Ww}{ifs ax:List Ww}{xh:Wr}{env:Env}
def iA{it:Wr}:twoG tg iter it2 ifs e it xh env=Yj iter.pos tg ifs (em2 e it2 xh env) e 0 it xh env:=by unfold twoG Yj em2;simp only[bind_assoc,pure_bind]<;>rfl
def lpL2{b:Ww}{scope:Xd}{a:Pos}{D:Ws}:CG (.ListComp b [⟨tg,iter,ifs,0⟩,⟨tg2,it2,ax,0⟩] scope a) 0 tg ifs (em2 (.ListComp b [⟨tg,iter,ifs,0⟩,⟨tg2,it2,ax,0⟩] scope a) it2 (.ref D) env) (.ref D) env:=⟨⟨iter.pos,λ_=>iA (e:=.ListComp b [⟨tg,iter,ifs,0⟩,⟨tg2,it2,ax,0⟩] scope a)⟩,λ_ _ _ _ _ _ _ h=>h,λ_ _ _ _ _ _ _ h=>h,λ_=>rfl,_,rfl,rfl⟩
def lpL3{a:Ww}{scope:Xd}{b:Pos}{D:Ws}:CG (.ListComp a [⟨tg,iter,ifs,0⟩,⟨tg2,it2,ax,0⟩] scope b) 1 tg2 ax (emL D a env) (.ref D) env:=⟨⟨it2.pos,λ_=>rfl⟩,λ_ _ _ _ _ _ _ h=>h,λ_ _ _ _ _ _ _ h=>h,λ_=>rfl,_,rfl,rfl⟩
end
section
variable{Y:Cx}{e it2 tg2:Ww}{ax:List Ww}{wi:TI}{g:TG}{tt:TT}{em:Xi Unit}{tm:TM}{xh:Wr}
inductive TM2(wi:TI)(g:TG)(tt:TT)(tm:TM)(N:St->Hp->Prop)(σ:St)(J:It)(H0:Hp):Prop
 |mk (W:Nat->Nat->St->Hp->Prop) (m:Nat) (h0:W 0 m σ H0) (h1:∀i m σ1 H1,W i m σ1 H1->(J.stop i H1/\N σ1 H1)∨
  (J.go i H1/\ ∃N2:St->Hp->Prop,(∀xm H',N2 xm H'-> ∃m',m'<m/\W (i+1) m' xm H')∧
   ∀x H2,J.yld i H1 x H2->g x σ1 H2 λσ2 H3=>tt σ2 H3 λb H4=>if b=ba then tm σ2 H4 N2 else N2 σ2 H4)):TM2 wi g tt tm N σ J H0
def tm2(wi:TI)(g:TG)(tt:TT)(tm:TM):TM:=λa H N=>wi a H (TM2 wi g tt tm N a)
def rW(R:Y.xe=λ_ _=>False)(hc:Y.calm=ba)(hi:PI Y tg2 it2 wi)(hg:PG Y tg2 g)(ht:PTs Y ax tt)(L:CG e 1 tg2 ax em xh Y.env)(he:PM Y em tm)(hs:∀x,Xa it2 Y.env x=pure x):PM Y (em2 e it2 xh Y.env) (tm2 wi g tt tm):=by
 intro q s X H N I h;have nx:∀{α:Sort _}{x:Wr}{s:Af},Y.xe x s->α:=λz=>by rw[R]at z;exact z.elim
 refine Aa (Cg (hi q s X H _ I h) (λv s1 h1=>Aa (Go (Aa (Oj (hs v) (Aa (Bu (Cg h1 (λitv s2 h2=>?_) λ_ _ z=>nx z))))))) λ_ _ z=>nx z);obtain⟨it,O,Z,J,H2,ei,I2,T,K,f2,W,m0,w0,turn⟩:=h2;subst ei;have stat:∀{c:Hp},(∀b∈O,c b=b4)->∀b∈O,K5 Y q c b:=λhn b p=>⟨hn b p,(f2 b p).2⟩;refine Aa (wpAny_runOwn ?_);have loop:∀l:Af,l=s2->Jd (Wu Y.prog Y.w) Y.A (.compLoop e 1 (.ref it) xh Y.env) (λr E=>match r with|.ok _=>∃a c,b9 Y q a c E/\N a c|.error _=>False) l:=by
  rintro l rfl;refine eB L (λn s'=>∃i a c,b9 Y q a c s'/\Z i s'.heap/\(∀b∈O,c b=b4)/\W i n a c) ?_ m0 ⟨0,X,H2,I2,K,λb p=>(f2 b p).1,w0⟩;rintro n s3 ⟨i,k,P,I3,G,M,w3⟩;rcases turn i n k P w3 with⟨F,qn⟩|⟨go,N2,hN,step⟩;refine Cg (T.done Y rfl rfl rfl hc i q s3 k P (λ_ _ => False) I3 (stat M) G F) (λr s4 ⟨S,I4⟩ => ?_) λ_ _ z => z;subst S;exact⟨k,P,I4,qn⟩;refine Cg (T.item Y rfl rfl rfl hc i q s3 k P (λ_ _ => False) I3 (stat M) G go) (λr s4 ⟨u,S,h4⟩ => ?_) λ_ _ z => z;subst S;refine Cg h4 (λ_ s5 ⟨x,H5,I5,r5,y5,t,U⟩=>?_) λ_ _ z=>z;have V:=I5.pinned (stat U) (T.obj _ _ t);refine Cg (hg _ s5 k H5 x u _ V r5 (step x H5 y5)) (λ_ s6 ⟨D,H6,I6,q6⟩=>?_) λ_ _ z=>nx z;have again:∀{j:St}{y:Hp}{B:Af},b9 Y (q++ON O s5.heap) j y B->N2 j y->∃m,m<n/\∃i a c,b9 Y q a c B/\Z i B.heap/\(∀b∈O,c b=b4)/\W i m a c:=λ{j y B} C n7=>by obtain⟨m',hm,w7⟩:=hN j y n7;refine⟨m',hm,i+1,j,y,C.unpinned,T.keep _ _ _ t λb p o e=>(C.pin (b,o) (Be _ (Be _ (XC p e)))).1,λb p=>?_,w7⟩;obtain⟨o,e,d⟩:=T.obj _ _ t b p;exact(C.pin (b,o) (Be _ (Be _ (XC p e)))).2.1
  refine Cg (ht _ s6 D H6 _ I6 q6) (λQ B ⟨y,C,q7⟩=>?_) λ_ _ z=>nx z;cases Q with
  |false=>exact again C q7
  |true=>exact Cg (he _ B D y _ C q7) (λ_ s8 ⟨σ8,H8,I8,n8⟩=>again I8 n8) λ_ _ z=>z
 refine Kz (gX L (loop _ rfl) (T.self _ 0 _ _ _ K (loop _ rfl))) λr s6 h6=>?_;cases r with
 |ok f=>exact Ad h6
 |error e=>exact h6.elim
end
structure Blk2(Y:Cx)(tg:Ww)(ifs:List Ww)(tg2 it2:Ww)(ax:List Ww)(elt:Ww)(g:TG)(tt:TT)(wi2:TI)(g2:TG)(tt2:TT)(te:TE):Prop where
 tg:PG Y tg g
 ts:PTs Y ifs tt
 it:PI Y tg2 it2 wi2
 tg2:PG Y tg2 g2
 ts2:PTs Y ax tt2
 el:PE Y elt te
abbrev sW(ix:List Nat)(nl:Nat)(c:TI)(g:TG)(d:TT)(a:TI)(f:TG)(b:TT)(e:TE):TE:=IA ix nl c g d λD=>tm2 a f b (tmL e D)
def Blk2.g{X:Cx}{N':List Wy}{scope:Xd}{j iter e a f:Ww}{b v:List Ww}{k:Pos}{g u:TG}{s d:TT}{c:TI}{t:TE}(hc:X.calm=ba)(C2:∀(env:Env) (x:Wr),Xa a env x=pure x)(p:∀(cl:List (Wy×Ws)) (h:Af) (i:Hp) (fp:List Ws),Blk2 (Z5 X N' scope cl h i fp) j b e a v f g s c u d t)(cl:List (Wy×Ws))(h:Af)(i:Hp)(fp:List Ws):BlkG (Z5 X N' scope cl h i fp) (.ListComp f [⟨j,iter,b,0⟩,⟨e,a,v,0⟩] scope k) j b g s λD=>tm2 c u d (tmL t D):=
 let ⟨m,l,q,n,o,r⟩:=p cl h i fp
 ⟨m,l,λD=>⟨_,lpL2,rW rfl hc q n o lpL3 (A7 rfl r) λx=>C2 _ x⟩⟩
noncomputable def NG(f:VG)(e:VB)(g:VF):List cY->List cY->Ev->Option (List cY×Ev)
 |[],a,c=>b0 (a,c)
 |d::r,a,c=>(f d c).bind λb=>(e b).bind λp=>if p.1=ba then(g p.2).bind λq=>if a.length<16777216 then NG f e g r (a++[q.1]) q.2 else b4 else NG f e g r a p.2
def YD(n nl:Nat)(i:VG)(h:VB)(c:VI)(b:VG)(a:VB)(j:VF):List cY->List cY->Ev->Option (List cY×Ev)
 |[],e,g=>b0 (e,g)
 |d::r,e,g=>(i d (g++HI nl)).bind λf=>(h f).bind λp=>if p.1=ba then(c p.2).bind λu=>(NG b a j u.1 e u.2).bind λq=>YD n nl i h c b a j r q.1 (q.2.take n)else YD n nl i h c b a j r e (p.2.take n)
def T4(ix:List Nat)(nl:Nat)(fi:VI)(f:VG)(e:VB)(c:VI)(b:VG)(a:VB)(g:VF):VF:=λd=>(fi d).bind λp=>(YD ix.length nl f e c b a g p.1 [] (b7 ix p.2)).map λq=>(.lst q.1,bD ix q.2 p.2)
section
variable{X:Cx}{K:Au}{ml:List Nat}{e a b c:Ww}{es:List Ww}{pi pt pe pi2 pt2 pu bt bi ps bs:Bool}{f:VF}{B B':Bs}{O:Nat->Option Ws}{H H0 H1 H':Hp}{σ:St}{δ xj:Ev}{v:V}{d:cY}{p:Ws}{pos:Pos}{ix:List Nat}{nl:Nat}
def hX{fi I:VI}{gg s:VG}{tb r:VB}{fe:VF}(hnd:ix.Nodup){Q:VK}(h:TN K ml (pi&&(pt&&pi2&&pt2&&pe)) (T4 ix nl fi gg tb I s r fe) σ H Q):sW ix nl (TIV K ml pi fi) (TGV K (Ao ix.length) gg) (TB K (Ao ix.length) pt tb) (TIV K (Ao ix.length) pi2 I) (TGV K (Ao ix.length) s) (TB K (Ao ix.length) pt2 r) (TV K (Ao ix.length) pe ba ba fe) σ H Q:=by
 obtain⟨B,O,δ,d,xl,S,q,k⟩:=h;unfold T4 at q;obtain⟨⟨y,T⟩,h1,q⟩:=Ac.mp q;have q:((YD ix.length nl gg tb I s r fe y [] (b7 ix T)).map λq=>(cY.lst q.1,bD ix q.2 T))=b0 (d,xl):=q;obtain⟨⟨res,δf⟩,h2,q⟩:=Am.mp q;cases q;refine⟨B,O,δ,y,T,S,h1,λJ g H0 S0 f0 p0 wk D hD=>?_⟩;have hDO:∀j,Oc ix O j≠b0 D:=λj e=>by unfold Oc at e;obtain⟨i,hi,e⟩:=Ac.mp e;obtain⟨o,q⟩:=S0.nin (.inr ⟨i,e⟩);rw[hD]at q;cases q
 have d8:∀kp j,ix.length<=j->(Bc ix B O H0 D kp).mu j=b4:=λkp j hj=>by show(ix[j]?).bind O=b4;rw[Dd hj];rfl
 refine⟨λi m H1=>m=y.length-i/\i<=y.length/\∃(U:List V) (L:List cY) (n:Ev),n.length=ix.length/\U.length=L.length∧
   aI K (Ao ix.length) (Bc ix B O H0 D (g++U.zip L)) (Oc ix O) H1 (Y8 ix σ++Cb nl b4) (n++HI nl)/\H1 D=b0 (.lst U)/\((pt&&pi2&&pt2&&pe)=ba->aS H0 H1)∧
   YD ix.length nl gg tb I s r fe (y.drop i) L n=b0 (res,δf),
  y.length,⟨rfl,Ch _,[],[],b7 ix T,by simp[b7],rfl,by rw[So,Fm];exact S0.unkeep.inner hD hnd λp M=>S0.kep p (Bw _ M),b6,λ_=>cQ hD,h2⟩,?_⟩
 rintro i m H1 ⟨rfl,hi,U,L,n,hlc,am,S1,hD1,bz,hc⟩;have w:=wk (Nn (Bc ix B O H0 D (g++U.zip L)) (Oc ix O)) H1 λp M=>S1.kep p (Bw _ M);by_cases hlt:i<y.length;obtain ⟨go,yl⟩ := w.1 i y[i] (by simp [hlt]);rw[Em hlt]at hc;simp only[YD]at hc;obtain⟨δ3,g1,hc⟩:=Ac.mp hc;obtain⟨⟨kk,R⟩,g2,hc⟩:=Ac.mp hc;refine .inr ⟨go,λH'=>∃(aw:List V) (L:List cY) (n:Ev),n.length=ix.length/\aw.length=L.length∧
  aI K (Ao ix.length) (Bc ix B O H0 D (g++aw.zip L)) (Oc ix O) H' (Y8 ix σ++Cb nl b4) (n++HI nl)/\H' D=b0 (.lst aw)/\((pt&&pi2&&pt2&&pe)=ba->aS H0 H')∧
  YD ix.length nl gg tb I s r fe (y.drop (i+1)) L n=b0 (res,δf),λH' w'=>⟨y.length-(i+1),by lia,rfl,hlt,w'⟩,λx H2 hy=>?_⟩
 obtain⟨sm,rx⟩:=yl x H2 hy;refine⟨_,_,_,y[i],δ3,S1.same sm,rx,g1,λσ3 O3 S3 m3=>?_⟩;have ln3:=eA m3;have F:=KA ln3 m3;refine⟨F,_,_,δ3,kk,R,S3,g2,λH4 X=>?_⟩;have hD4:H4 D=b0 (.lst U):=X.frm _ _ (sm _ _ hD1) λz=>by
  obtain⟨j,e⟩:=z;have:=(X.sta.old j D e).1;exact absurd (.inl (.inr rfl)) this
 have ln4:ix.length<=R.length:=by rw[<-X.sta.len];exact ln3
 cases kk with
 |false=>
  rw[if_neg Db]at hc;refine NI ⟨U,L,R.take ix.length,by rw[Cj];lia,am,X.sta.turn (d8 _) (W1 ix σ) F ln4,hD4,λz=>?_,hc⟩;simp only[Ah]at z;exact((bz (by simp[z.1.1.1,z.1.1.2,z.1.2,z.2])).trans sm).trans (X.pur z.1.1.1)
 |true=>
  rw[if_pos rfl]at hc;obtain⟨⟨f,δ5⟩,g3,hc⟩:=Ac.mp hc;obtain⟨⟨dg,A⟩,g4,hc⟩:=Ac.mp hc;refine NJ ⟨_,_,R,f,δ5,X.sta,g3,λJ2 cx H5 S5 f5 p5 wk2=>?_⟩;have hD5:H5 D=b0 (.lst U):=f5 _ _ hD4 λz=>by
   obtain⟨j,e⟩:=z;have:=(X.sta.old j D e).1;exact absurd (.inl (.inr rfl)) this
  refine⟨λC m2 N H6=>m2=f.length-C/\C<=f.length/\∃(t:List V) (u:List cY) (l:Ev) (O1:Nat->Option Ws),t.length=u.length∧
    aI K (Ao ix.length) (Bc ix B O H0 D (cx++(g++t.zip u))) O1 H6 N l/\N.take ix.length=Y8 ix σ/\ix.length<=N.length/\H6 D=b0 (.lst t)/\((pt&&pi2&&pt2&&pe)=ba->aS H0 H6)∧
    NG s r fe (f.drop C) u l=b0 (dg,A),
   f.length,⟨rfl,Ch _,U,L,δ5,_,am,S5,F,ln3,hD5,λz=>by simp only[Ah]at z;exact(((bz (by simp[z.1.1.1,z.1.1.2,z.1.2,z.2])).trans sm).trans (X.pur z.1.1.1)).trans (p5 z.1.1.2),g4⟩,?_⟩
  rintro C m2 N H6 ⟨rfl,hi2,t,u,l,O1,cf,S6,G,ln1,hD6,dz,c⟩;have w2:=wk2 (Nn (Bc ix B O H0 D (cx++(g++t.zip u))) O1) H6 λp M=>S6.kep p (Bw _ M);by_cases ca:C<f.length;obtain ⟨go2,yl2⟩ := w2.1 C f[C] (by simp [ca]);rw[Em ca]at c;simp only[NG]at c;obtain⟨δ7,k1,c⟩:=Ac.mp c;obtain⟨⟨kk2,Z⟩,k2,c⟩:=Ac.mp c;refine .inr ⟨go2,λP H'=>∃(aw:List V) (u:List cY) (l:Ev) (O1:Nat->Option Ws),aw.length=u.length∧
   aI K (Ao ix.length) (Bc ix B O H0 D (cx++(g++aw.zip u))) O1 H' P l/\P.take ix.length=Y8 ix σ/\ix.length<=P.length/\H' D=b0 (.lst aw)/\((pt&&pi2&&pt2&&pe)=ba->aS H0 H')∧
   NG s r fe (f.drop (C+1)) u l=b0 (dg,A),λP H' w'=>⟨f.length-(C+1),by lia,rfl,ca,w'⟩,λx2 H7 hy2=>?_⟩
  obtain⟨W,rx2⟩:=yl2 x2 H7 hy2;refine⟨_,_,_,f[C],δ7,S6.same W,rx2,k1,λY O7 S7 m7=>?_⟩;have E:Y.take ix.length=Y8 ix σ:=by
   rw[<-G];refine Io λj=>?_;rw[Rv,Rv];split;rename_i hj;exact m7 j (Bj.mpr hj);rfl
  have ln7:ix.length<=Y.length:=by
   have:(Y.take ix.length).length=ix.length:=by rw[E,W1]
   rw[Cj]at this;lia
  refine⟨_,_,δ7,kk2,Z,S7,k2,λH8 R8=>?_⟩;have hD8:H8 D=b0 (.lst t):=R8.frm _ _ (W _ _ hD6) λz=>by
   obtain⟨j,e⟩:=z;have:=(R8.sta.old j D e).1;exact absurd (.inl (.inr rfl)) this
  cases kk2 with
  |false=>
   rw[if_neg Db]at c;refine NI ⟨t,u,Z,_,cf,R8.sta,E,ln7,hD8,λz=>?_,c⟩;have z0:=z;simp only[Ah]at z;exact((dz z0).trans W).trans (R8.pur z.1.2)
  |true=>
   rw[if_pos rfl]at c;obtain⟨⟨dv,δ9⟩,k3,c⟩:=Ac.mp c;split at c;rename_i hz;refine NJ ⟨_,_,Z,dv,δ9,R8.sta,k3,λv H9 R9=>?_⟩;have hD9:H9 D=b0 (.lst t):=R9.frm _ _ hD8 λz=>by
    obtain⟨j,e⟩:=z;have:=(R9.sta.old j D e).1;exact absurd (.inl (.inr rfl)) this
   have hv:bE K (Nn (Bc ix B O H0 D (cx++(g++t.zip u))) O7) H9 (Nn (Bc ix B O H0 D (cx++(g++t.zip u))) O7) v dv:=R9.rep.mono (λa h=>by
    rcases h with h|h;exact .inl h;exact .inr h) (λa h=>by
    rcases h with h|h;exact .inl h;exact .inr h)
   have S10:=R9.sta.withKp (kp:=cx++(g++(t++[v]).zip (u++[dv]))) λp M=>by
    rw[Me cf,<-Cr,<-Cr]at M;rcases Bq.mp M with z|z;exact R9.sta.kep p (by rw[<-Cr];exact z);rw[Aq.mp (show p∈[(v,dv)] from z)];exact hv
   refine⟨t,hD9,by rw[cf,Dn];exact hz,t++[v],u++[dv],δ9,O7,by simp[cf],?_,E,ln7,b6,λz=>?_,c⟩;exact S10.writeZ (.inl (.inr rfl)) hD9 hD;intro b o e;have hb:b≠D:=λz=>by rw[z,hD]at e;cases e
   rw[a8 hb];have z0:=z;simp only[Ah]at z;exact(((dz z0).trans W).trans ((R8.pur z.1.2).trans (R9.pur z.2))) b o e;cases c
  have e : C = f.length := by lia
  subst e;rw[Hl]at c;cases c;refine .inl ⟨w2.2,G,t,dg,A.take ix.length,by rw[Cj,<-S6.len];lia,cf,?_,hD6,dz,hc⟩;have S11:=S6.turn (nl:=nl) (d8 _) (W1 ix σ) G (by rw[<-S6.len];exact ln1);exact S11.withKp (kp:=g++t.zip dg) λp M=>S11.kep p (Be _ M)
 have e : i = y.length := by lia
 subst e;rw[Hl]at hc;cases hc;refine .inl ⟨w.2,k D H1 ?_⟩;exact EM S0 hD f0 p0 S1 am hlc hD1 bz
def F9{j iter b a i:Ww}{d r:List Ww}{scope:Xd}{N':List Wy}{fi f:VI}{p e:VG}{o c:VB}{q:VF}(hc:X.calm=ba)(t:scope.kind=.function)(k:QG X.N N' ix scope.names X.env.kindOf=ba)(l:N'.length=ix.length+nl)(m:ix.Nodup)(u:PI X j iter (TIV K ml pi fi))(n:∀(cl:List (Wy×Ws)) (s:Af) (H1:Hp) (fp:List Ws),Blk2 (Z5 X N' scope cl s H1 fp) j d b a r i (TGV K (Ao ix.length) p) (TB K (Ao ix.length) pt o) (TIV K (Ao ix.length) pi2 f) (TGV K (Ao ix.length) e) (TB K (Ao ix.length) pt2 c) (TV K (Ao ix.length) pe ba ba q))(hs:∀x,Xa iter X.env x=pure x:=by intro _;rfl)(C2:∀(env:Env) (x:Wr),Xa a env x=pure x:=by intro _ _;rfl):PE X (.ListComp i [⟨j,iter,d,0⟩,⟨b,a,r,0⟩] scope pos) (TN K ml (pi&&(pt&&pi2&&pt2&&pe)) (T4 ix nl fi p o f e c q)):=
 (MD hc (YX t k) l u (Blk2.g hc C2 n) hs).imp λ_ _ _ h=>hX m h
end
end L2
namespace TS
open PySem PySem.W PyProof.Rows
def SH{b:Type}(ck:Nat->Nat->Bool):KasT b->b
 |.ret a=>a
 |.ask i j k=>SH ck (k (ck i j))
def KG{c:Type}(n:Nat)(R:c->Prop):KasT c->Prop
 |.ret a=>R a
 |.ask i j k=>i<n/\j<n/\∀b,KG n R (k b)
theorem KG.bind{c d:Type}{n:Nat}{R:c->Prop}{g:d->Prop}{f:c->KasT d}(e:∀a,R a->KG n g (f a)):∀{t:KasT c},KG n R t->KG n g (t.bind f)
 |.ret a,h=>e a h
 |.ask _ _ k,h=>⟨h.1,h.2.1,λb=>KG.bind e (h.2.2 b)⟩
theorem KG.ev{a:Type}{n:Nat}{R:a->Prop}{ck:Nat->Nat->Bool}:∀{t:KasT a},KG n R t->R (SH ck t)
 |.ret _,h=>h
 |.ask i j k,h=>KG.ev (t:=k (ck i j)) (h.2.2 _)
theorem KG.wp{a:Type}{n:Nat}{R:a->Prop}{ck:Nat->Nat->Bool}{cmp:Nat->Nat->(Bool->Af->Prop)->Af->Prop}{G:a->Af->Prop}{s:Af}(hc:∀i j,i<n->j<n->∀C:Bool->Af->Prop,C (ck i j) s->cmp i j C s):∀{t:KasT a},KG n R t->G (SH ck t) s->t.kasWp cmp G s
 |.ret _,_,h=>h
 |.ask i j k,g,h=>hc i j g.1 g.2.1 _ (KG.wp hc (g.2.2 _) h)
section
variable{n:Nat}
def Pn(n:Nat)(p:Array Nat):Prop:=p.toList.Perm (Ao n)
def Pn.get{p:Array Nat}(h:Pn n p)(b:0<n)(i:Nat):p.getD i 0<n:=by
 by_cases a:i<p.size;have : p[i] ∈ p.toList := by simp
 rw[show p.getD i 0=p[i] by simp[a]];exact Bj.mp (h.mem_iff.mp this);rw [show p.getD i 0 = 0 by simp [Uz,a]];exact b
def Pn.rev{p:Array Nat}(h:Pn n p)(i j:Nat):Pn n (kas_rev p i j):=(mirror_perm p _ _ _).toList.trans h
theorem Xz{p:Array Nat}(h:Pn n p)(a:0<n):∀f m,KG n (λ_=>True) (Oq p f m)
 |0,_=>trivial
 |f+1,m=>⟨h.get a _,h.get a _,λb=>by
  dsimp only;split;trivial;exact Xz h a f _⟩
theorem HE(a:0<n):∀(f:Nat) (p:Array Nat) (m q:Nat),Pn n p->KG n (λr=>Pn n r.1) (kas_desc f p m q)
 |0,_,_,_,h=>h
 | f + 1,p,m,q,h => ⟨h.get a _,h.get a _,λb => by
  dsimp only;split;split;exact HE a f _ _ _ (h.rev _ _);exact HE a f _ _ _ h;refine ⟨h.get a _,h.get a _,λd => ?_⟩;dsimp only;split;exact h;exact HE a f _ _ _ h⟩
def fN(e:0<n){p:Array Nat}(h:Pn n p)(a b:Nat):KG n (λr=>Pn n r.2) (kas_descPart a b p):=by
 have c:∀(m:Nat) {p:Array Nat},Pn n p->KG n (λr=>Pn n r.2) (kas_tail3 m b p):=λm p h=>by unfold kas_tail3;refine KG.bind (λ_ _=>?_) (Xz (h.rev 0 m) e _ _);exact h.rev 0 m
 refine KG.bind (λr d=>?_) (HE e _ _ _ _ h);split;exact c _ (d.rev _ _);exact c _ d
theorem HF{p:Array Nat}(h:Pn n p)(a:0<n)(k:Nat):∀f l r,KG n (λ_=>True) (kas_place p k f l r)
 |0,_,_=>trivial
 | f + 1,l,r => by
  unfold kas_place;split;trivial;refine ⟨h.get a _,h.get a _,λb => ?_⟩;dsimp only;split;exact HF h a k f _ _;exact HF h a k f _ _
theorem dQ(a:0<n):∀(f:Nat) (p:Array Nat) (k:Nat),Pn n p->KG n (Pn n) (kas_bin f p k)
 |0,_,_,h=>h
 |f+1,p,k,h=>KG.bind (λl _=>dQ a f _ _ ((bubble_perm p _ _).toList.trans h)) (HF h a k k 0 k)
def C4(a:0<n):KG n (Pn n) (Ot n):=by
 have h:Pn n (Le (Ao n)):=.refl _;have c:KG n (λr=>Pn n r.2) (kas_count n (Le (Ao n))):=by
  refine KG.bind (λm _=>?_) (Xz h a _ _);split;exact h;split;refine ⟨h.get a _,h.get a _,λb => ?_⟩;dsimp only;split;exact h;exact fN a (h.rev _ _) _ _;exact fN a h _ _
 refine KG.bind (λr d=>?_) c;split;exact dQ a _ _ _ d;exact d
def srt0(n:Nat)(ck:Nat->Nat->Bool):List Nat:=if 2<=n then(SH ck (Ot n)).toList else Ao n
def RX(n:Nat)(ck:Nat->Nat->Bool):(srt0 n ck).Perm (Ao n):=by
 unfold srt0;split;exact(C4 (by lia)).ev;exact .refl _
def nh(vs:List Wr):(Ao vs.length).map (λi=>vs.getD i Value.none)=vs:=by
 refine Io λi=>?_;by_cases h:i<vs.length;simp[h];simp[h]
end
section
variable{prog:Az}{w:Wv}{A:Bz}{E:Wr->Af->Prop}{s:Af}
section
variable{vs xs:List Wr}{κ:Ov}{ck:Nat->Nat->Bool}{T:String}{Q:Wr->Af->Prop}{C:Bool->Af->Prop}{as:List Int}{h:Wz}
def MM{a:Ws}{F:Nat}{P:Ru->Af->Prop}(n:s.heap.get? a=b0 (Gb "list" vs.toArray F))(hz:vs.length<=sizeLine)(u:vs.length<64)(K:2<=vs.length->∀h':Wz,(∀b o,b≠a->s.heap.get? b=b0 o->h'.get? b=b0 o)->∀D:Ov->Af->Prop,D κ {s with heap:=h'}->Wt (Wu prog w) A (keyKind' vs.toArray) D E {s with heap:=h'})(hc:∀h':Wz,(∀b o,b≠a->s.heap.get? b=b0 o->h'.get? b=b0 o)->∀i j,i<vs.length->j<vs.length->∀C:Bool->Af->Prop,C (ck i j) {s with heap:=h'}->Wt (Wu prog w) A (keyLt' κ (vs.getD i Value.none) (vs.getD j Value.none)) C (λ_ _=>False) {s with heap:=h'})(h:P (.done (.ret .none)) {s with heap:=sortedHeap s.heap a vs ((srt0 vs.length ck).map λi=>vs.getD i Value.none).toArray}):Wt (Wu prog w) A (Gy.«list.sort» ⟨[.ref a],[]⟩) P E s:=by
 have lt:=As n;have I:vs.toArray.size=vs.length:=by simp
 obtain⟨R,m⟩:∃k,(s.heap.update a (El λ_=> #[])).get? a=b0 (Gb "list" #[] k):=⟨_,get?_update_seq n (λ_=> #[])⟩;have keep:∀b o,b≠a->s.heap.get? b=b0 o->(((s.heap.update a (El λ_=> #[])).push (Gb "tuple" vs.toArray 0)).push (Gb "list" #[] 0)).get? b=b0 o:=λb o O t=>
  Ae _ (Ae _ (by rw[Jh _ _ _ _ O];exact t))
 have e:(((s.heap.update a (El λ_=> #[])).push (Gb "tuple" vs.toArray 0)).push (Gb "list" #[] 0)).get? a=b0 (Gb "list" #[] R):=Ae _ (Ae _ m);have U:∀l:List Wr,l.length=vs.length->l.toArray.size<=sizeLine+1:=λl hl=>by rw[At];lia
 rw[list_sort_plain];refine(Aa (Mv n rfl ?_));refine(Aa (Lq n rfl ?_ (by rw[At];lia) (Ch _)));refine(Aa (Uk m rfl ?_));refine(Aa (wpAny_newTuple ?_ (by show vs.length<=_;exact hz)));refine(Aa (Ow (Bu ?_) (Ch _)));show (Wt (Wu prog w) A _ P E { s with heap := (((s.heap.update a (El λ_ => #[])).push (Gb "tuple" vs.toArray 0)).push (Gb "list" #[] 0)) });dsimp only;have y:((srt0 vs.length ck).map λi=>vs.getD i Value.none).length=vs.length:=by rw[Bf,(RX _ _).length_eq,Hd]
 by_cases r:vs.toArray.size<2;have N : ((srt0 vs.length ck).map λi => vs.getD i Value.none) = vs := by unfold srt0;rw[if_neg (by lia)];exact nh vs
 rw[N]at h;rw[if_pos r,if_pos r];refine(Aa (Ad ?_));rw[StateT.run_pure];refine(Aa (Ad ?_));dsimp only;have J:(vs.toArray.zip vs.toArray).map (·.2)=vs.toArray:=by apply Array.toList_inj.mp;simp;exact List.map_snd_zip (Al _)
 rw[J];refine(Aa (Uk e rfl (Aa (Lq e rfl ?_ (hsz2:=by rw[At];lia)))));simp only[bne_self_eq_false,Aj,if_false];exact Ad h;rw[if_neg r,if_neg r];refine(Aa (K (by lia) _ keep _ ?_));have v:2<=vs.length:=by lia
 have H:srt0 vs.length ck=(SH ck (Ot vs.length)).toList:=by unfold srt0;rw[if_pos v]
 refine Aa (Cg (kat_run (ks:=vs) (κ:=κ) (G:=λp f=>p=SH ck (Ot vs.length)/\f={s with heap:=(((s.heap.update a (El λ_=> #[])).push (Gb "tuple" vs.toArray 0)).push (Gb "list" #[] 0))})
  (Q:=λd f=>(arrOf d).map (·.2)=((srt0 vs.length ck).map λi=>vs.getD i Value.none).toArray/\failedOf d=b4/\f={s with heap:=(((s.heap.update a (El λ_=> #[])).push (Gb "tuple" vs.toArray 0)).push (Gb "list" #[] 0))}) rfl v u (λp d f _ T S a4=>?_)
  (KG.wp (λi j M L C q=>hc _ keep i j M L C q) (C4 (by lia)) ⟨rfl,rfl⟩)) ?_ λ_ _ x=>x)
 obtain⟨rfl,rfl⟩:=a4;exact⟨by rw[kat_snds rfl T,H],S,rfl⟩;rintro ⟨⟨⟩,d⟩ f ⟨B,z,rfl⟩;dsimp only at B z⊢;rw[B];refine(Aa (Uk e rfl (Aa (Lq e rfl ?_ (hsz2:=by rw[At];lia)))));rw[z];simp only[bne_self_eq_false,Aj,if_false];exact Ad h
def CY(h:Wz)(vs:List Wr):Wz:=(h.push (Gb "list" #[] 0)).update h.objs.size (El (· ++vs.toArray))
def CZ{l:Ws}{o:Xc}{n:Nat}{Q:List Wr->Af->Prop}(i:T= "list" ∨T= "tuple")(f:s.heap.get? l=b0 o)(e:o.cls=.type T)(g:o.data=.seq vs.toArray n)(hz:vs.length<=sizeLine)(h:Q vs {s with heap:=CY s.heap vs}):Wt (Wu prog w) A (Vn (.ref l)) Q E s:=by
 unfold Vn;refine Aa (Qv (Ee entry_proto_collect' ?_));show Wt _ _ (newList []>>=λc=>again (.builtin "list.__iadd__" ⟨[c,.ref l],[]⟩)) _ _ s;refine Aa (Ow (Ad ⟨Jw _ (by decide+kernel),Ee entry_list_iadd' ?_⟩));have d:(s.heap.push (Gb "list" #[] 0)).get? s.heap.objs.size=b0 (Gb "list" #[] 0):=Ar _ rfl;have b:(s.heap.push (Gb "list" #[] 0)).get? l=b0 o:=Ae _ f;show Wt _ _ (Gc (.ref s.heap.objs.size) (.ref l) (.ref s.heap.objs.size)) _ _ {s with heap:=s.heap.push (Gb "list" #[] 0)};unfold Gc;refine Aa (Fn (T:=T) ⟨o,b,e⟩ ?_);have j:(Es T==Es "list" || Es T==Es "tuple")=ba:=by rcases i with rfl|rfl<;>decide
 rw[if_pos (by rw[Bool.or_assoc,j,Bool.or_true])];refine Aa (Mv b g (Aa (Mv d rfl ?_)));rw[if_neg (by simp)];refine Aa (Lq d rfl (Ad ?_) (Ch _) (by rw[Su];simp;lia));show Wt (Wu prog w) A (load s.heap.objs.size>>=_) Q E {s with heap:=CY s.heap vs};refine Aa (Ux (get?_update_seq d _) ?_);refine Ad ?_;show Q ((#[]:Array Wr)++vs.toArray).toList _;rw[show((#[]:Array Wr)++vs.toArray).toList=vs by simp];exact h
def D2{l:Ws}{o:Xc}{n:Nat}(B:T= "list" ∨T= "tuple")(v:s.heap.get? l=b0 o)(g:o.cls=.type T)(z:o.data=.seq vs.toArray n)(hz:vs.length<=sizeLine)(k:vs.length<64)(x:2<=vs.length->∀(A:Bz) (E:Wr->Af->Prop) (h':Wz),(∀b o,s.heap.get? b=b0 o->h'.get? b=b0 o)->∀t:Ov->Af->Prop,t κ {s with heap:=h'}->Wt (Wu prog w) A (keyKind' vs.toArray) t E {s with heap:=h'})(hc:∀(A:Bz) (h':Wz),(∀b o,s.heap.get? b=b0 o->h'.get? b=b0 o)->∀i j,i<vs.length->j<vs.length->∀C:Bool->Af->Prop,C (ck i j) {s with heap:=h'}->Wt (Wu prog w) A (keyLt' κ (vs.getD i Value.none) (vs.getD j Value.none)) C (λ_ _=>False) {s with heap:=h'})(h:∀(r:Ws) (h':Wz) (e:Nat),s.heap.objs.size<=r->(∀b o,s.heap.get? b=b0 o->h'.get? b=b0 o)->h'.get? r=b0 (Gb "list" ((srt0 vs.length ck).map λi=>vs.getD i Value.none).toArray e)->Q (.ref r) {s with heap:=h'}):Wt (Wu prog w) A (call (.builtin "sorted") [.ref l]) Q E s:=by
 refine(Ng kind_sorted plain_sorted entry_sorted (args_sorted1 _) ?_);unfold Gy.«sorted»;refine(Aa (m:=checkCount "sorted" 1 1 _) (Ad (Aa (CZ B v g z hz (Aa (Ow ?_ (by exact hz)))))));have K2:s.heap.objs.size<(CY s.heap vs).objs.size:=by unfold CY;rw[Heap.size_update,size_push'];exact Iz _
 have p:∀b o,s.heap.get? b=b0 o->(CY s.heap vs).get? b=b0 o:=λb o q=>by have c:b<s.heap.objs.size:=As q;unfold CY;rw[Jh _ _ _ _ (Bd c),Ip _ _ _ (Bd c)];exact q
 dsimp only;generalize CY s.heap vs=f at K2 p⊢;have d:(f.push (Gb "list" vs.toArray 0)).get? f.objs.size=b0 (Gb "list" vs.toArray 0):=Ar _ rfl;have keep:∀b o,s.heap.get? b=b0 o->(f.push (Gb "list" vs.toArray 0)).get? b=b0 o/\b≠f.objs.size:=λb o q=>by have q:=p b o q;have c:b<f.objs.size:=As q;exact⟨by rw[Ip _ _ _ (Bd c)];exact q,Bd c⟩
 show(Wt _ _ _ _ _ {s with heap:=f.push (Gb "list" vs.toArray 0)});refine(Aa (Bu (Ck slot_list_sort ⟨_,d,rfl⟩ entry_list_sort (MM (κ:=κ) (ck:=ck) d hz k (λu h' k'=>x u _ _ h' λb o q=>k' b o (keep b o q).2 (keep b o q).1) (λh' k'=>hc _ h' λb o q=>k' b o (keep b o q).2 (keep b o q).1) ⟨_,rfl,?_⟩) (args_list_sort _))));obtain⟨e,y⟩:=sortedHeap_at (vs:=vs) (out:=((srt0 vs.length ck).map λi=>vs.getD i Value.none).toArray) d;refine(Ad ⟨_,rfl,h _ _ e ?_ (λb o q=>?_) y⟩);exact Mt K2;rw[sortedHeap_old (keep b o q).2 (As (keep b o q).1)];exact(keep b o q).1
noncomputable def lexL:List Int->List Int->Bool
 |[],[]=>bb
 |[],_::_=>ba
 |_::_,[]=>bb
 |a::c,b::bs=>if a=b then lexL c bs else decide (a<b)
def oQ{b:Bool}{x y:Int}{t u:Tok}(h:C (decide (x<y)) s):Wt (Wu prog w) A (oneLt' b (.int x t) (.int y u)) C E s:=by
 cases b with
 |true=>exact oneLt_int h
 |false=>exact kat_one _ _ (lt_int h)
def mn{b c:Bool}(j:Ie xs as):∀{ys:List Wr}{bs:List Int}{i:Nat},Ie ys bs->c=decide (xs.length<ys.length)->C (lexL as bs) s->KatLex prog w A b c C (xs.zip ys) i s:=by
 induction j with
 |nil=>
  intro ys bs i d a h;cases d with
  |nil=>exact kat_nil (by rw[a];exact h)
  |cons n t r=>exact kat_nil (by rw[a];simpa[lexL]using h)
 |cons n t r g=>
  intro ys bs i d a h;cases d with
  |nil=>exact kat_nil (by rw[a];simpa[lexL]using h)
  |cons m u f=>
   refine kat_cons (wpAny_eqBool_int (kat_go (λe=>kat_yes (g f (by rw[a];simp) ?_)) λe=>kat_no (oQ ?_)));have e : n = m := by simpa using e
   simpa[lexL,e]using h
   have e : ¬ n = m := by simpa using e
   simpa[lexL,e]using h
def dM{x y:Ws}{ys:List Wr}{bs:List Int}(b:IsTup s.heap x xs.toArray)(a:IsTup s.heap y ys.toArray)(d:Ie xs as)(c:Ie ys bs)(h:C (lexL as bs) s):Wt (Wu prog w) A (keyLt' (tuples' ba) (.ref x) (.ref y)) C E s:=by obtain⟨i,b,_,n,f⟩:=b;obtain⟨g,a,_,m,e⟩:=a;exact kat_lt b f a e (mn d c (by simp) h)
def PtI(h:Wz):List Wr->List (List Int)->Prop
 |[],[]=>True
 |v::c,p::d=>(∃a b,v=.ref a/\IsTup h a b.toArray/\Ie b p/\p≠[])/\PtI h c d
 |_,_=>False
theorem PtI.keep{h':Wz}(k:∀b o,h.get? b=b0 o->h'.get? b=b0 o):∀{vs:List Wr}{ps:List (List Int)},PtI h vs ps->PtI h' vs ps
 |[],[],_=>trivial
 |_::_,_::_,⟨⟨a,c,e,q,z⟩,r⟩=>⟨⟨a,c,e,q.keeps k,z⟩,PtI.keep k r⟩
 |[],_::_,r=>r.elim
 |_::_,[],r=>r.elim
theorem PtI.at{h:Wz}:∀{vs:List Wr}{ps:List (List Int)}{i:Nat},PtI h vs ps->i<vs.length->∃a xs,vs.getD i Value.none=.ref a/\IsTup h a xs.toArray/\Ie xs (ps.getD i [])
 |[],[],i,_,b=>by simp at b
 |_::_,_::_,0,r,_=>by obtain⟨⟨a,xs,e,q,z,_⟩,_⟩:=r;exact⟨a,xs,e,q,z⟩
 |v::vs,p::ps,i+1,r,b=>by
  have:=PtI.at (i:=i) r.2 (by simpa using b)
  simpa using this
 |[],_::_,i,r,_=>r.elim
 |_::_,[],i,r,_=>r.elim
theorem PtI.tups:∀{vs:List Wr}{ps:List (List Int)},PtI h vs ps->∃fs,KatTups h vs fs/\fs.length=vs.length/\∀v∈fs,∃i t,v=.int i t
 |[],[],_=>⟨[],trivial,rfl,λ_ h=>by cases h⟩
 | _ :: _,_ :: _,⟨⟨a,p,e,⟨o,d,c,n,g⟩,z,f⟩,r⟩ => by
  obtain⟨fs,l,k,j⟩:=PtI.tups r;subst e;cases z with
  |nil=>exact absurd rfl f
  |cons m t _=>
   refine⟨.int m t::fs,Wd d c g rfl l,by simp[k],λv b=>?_⟩;rcases Ak.mp b with rfl|b;exact⟨_,_,rfl⟩;exact j v b
 |[],_::_,r=>r.elim
 |_::_,[],r=>r.elim
def kyT(ps:List (List Int))(i j:Nat):Bool:=lexL (ps.getD i []) (ps.getD j [])
def F0{l:Ws}{o:Xc}{n:Nat}{ps:List (List Int)}(B:T= "list" ∨T= "tuple")(u:s.heap.get? l=b0 o)(f:o.cls=.type T)(z:o.data=.seq vs.toArray n)(hz:vs.length<=sizeLine)(g:vs.length<64)(d:PtI s.heap vs ps)(h:∀(r:Ws) (h':Wz) (e:Nat),s.heap.objs.size<=r->(∀b o,s.heap.get? b=b0 o->h'.get? b=b0 o)->h'.get? r=b0 (Gb "list" ((srt0 vs.length (kyT ps)).map λi=>vs.getD i Value.none).toArray e)->Q (.ref r) {s with heap:=h'}):Wt (Wu prog w) A (call (.builtin "sorted") [.ref l]) Q E s:=by
 refine D2 (κ:=tuples' ba) B u f z hz g (λM A E h' k' O q=>?_) (λA h' k' i j y x C q=>?_) h;obtain⟨fs,F,N,D⟩:=(d.keep k').tups;refine kat_kind (s:={s with heap:=h'}) (T:=.type "int") F (by lia) (λv p=>?_) (by decide) q;obtain⟨i,t,rfl⟩:=D v p;exact Looks.now;obtain⟨a,L,J,m,H⟩:=(d.keep k').at y;obtain⟨b,K,I,k,G⟩:=(d.keep k').at x;rw[J,I];exact dM (s:={s with heap:=h'}) m k H G q
end
end
end TS
namespace L2
open PySem PySem.Spec PyProof.Rows
variable{X:Cx}{K:Au}
def tpD:cY->Option (List Int)
 |.tup ds=>(Z3 ds).bind λa=>if a.isEmpty then b4 else b0 a
 |_=>b4
def TD:List cY->Option (List (List Int))
 |[]=>b0 []
 |d::b=>(tpD d).bind λp=>(TD b).map λa=>p::a
def EF(K:Au)(H:Hp):List V->List (List Int)->Prop
 |[],[]=>True
 |v::b,p::c=>(∃a,v=.ref a/\WT K H a (p.map V.int)/\p≠[])/\EF K H b c
 |_,_=>False
def eI{d:cY}{p:List Int}(h:tpD d=b0 p):∃ds,d=.tup ds/\Z3 ds=b0 p/\p≠[]:=by
 unfold tpD at h;split at h;rename_i ds;obtain⟨b,a,h⟩:=Ac.mp h;split at h;cases h;rename_i z;cases h;exact⟨ds,rfl,a,λe=>z (by rw[e];rfl)⟩;cases h
theorem P7{H:Hp}{N:Ws->Prop}:∀{xs:List V}{ds:List cY}{ps:List (List Int)},cA K N H xs ds->TD ds=b0 ps->EF K H xs ps
 |_,_,_,.nil,h=>by cases h;trivial
 | _,_,ps,@cA.cons _ _ _ v i d ds h t,e => by
  have e:(tpD d).bind (λp=>(TD ds).map λps=>p::ps)=b0 ps:=e;obtain⟨p,f,e⟩:=Ac.mp e;have e:(TD ds).map (λps=>p::ps)=b0 ps:=e;obtain⟨j,c,e⟩:=Am.mp e;cases e;obtain⟨k,rfl,b,a⟩:=eI f;refine⟨?_,P7 t c⟩;cases h with
  |tup sq r=>
   have g:=VU r b;subst g;exact⟨_,rfl,sq,a⟩
theorem EF.ptI{H:Hp}{i:List (Ws×Xc)}{d:St}{s:Af}(I:b9 X i d H s):∀{xs:List V}{c:List Wr}{ps:List (List Int)},EF X.K H xs ps->bT xs c->TS.PtI s.heap c ps
 |[],_,[],_,.nil=>trivial
 |_::_,_,_::_,⟨⟨a,e,q,n⟩,r⟩,.cons h t=>by subst e;cases h;obtain⟨b,f,g,_⟩:=I.tuple q;exact⟨⟨a,b,rfl,g,QV f,n⟩,EF.ptI I r t⟩
 |[],_,_::_,h,_=>h.elim
 |_::_,_,[],h,_=>h.elim
theorem EF.len{H:Hp}:∀{xs:List V}{ps:List (List Int)},EF K H xs ps->xs.length=ps.length
 |[],[],_=>rfl
 |_::_,_::_,r=>by simp[EF.len r.2]
 |[],_::_,r=>r.elim
 |_::_,[],r=>r.elim
theorem KD{xs:List V}{a:List Wr}(r:bT xs a):∀l:List Nat,(∀i∈l,i<xs.length)->bT (l.map λi=>xs.getD i .non) (l.map λi=>a.getD i Value.none)
 |[],_=>.nil
 |i::l,h=>by
  have b:=h i Ag;obtain⟨u,e,d⟩:=bT.get (i:=i) (x:=xs[i]) r (by simp[b]);refine .cons ?_ (KD r l λj c=>h j (Ai _ c));have g:xs.getD i .non=xs[i]:=by simp[b]
  have f:a.getD i Value.none=u:=by simp[e]
  show bP (xs.getD i .non) (a.getD i Value.none);rw[g,f];exact d
def KW(ps:List (List Int)):List Nat:=TS.srt0 ps.length (TS.kyT ps)
def UV(ps:List (List Int)):(KW ps).Perm (Ao ps.length):=TS.RX _ _
def fT(K:Au):RC:=λc H Q=>∃(p:Ws) (a:List V) (b:List (List Int)),c=[.ref p]/\(WZ K H p a∨WT K H p a)/\a.length<64/\EF K H a b/\∀l:Ws,H l=b4->Q (.ref l) (Z8 H l (.lst ((KW b).map λi=>a.getD i .non)))
def LU(h:X.K=K:=by rfl):aH X (.builtin "sorted") (fT K):=by
 subst h;intro M s F H G J Q I r h;obtain⟨p,l,g,rfl,j,E,v,q⟩:=h;obtain⟨u,rfl,y⟩:=VZ r;cases y;obtain⟨T,o,n,b,D,A,m,C,f,k⟩:∃(T:String) (o:Xc) (n:Nat) (b:List Wr),(T= "list" ∨T= "tuple")/\s.heap.get? p=b0 o/\o.cls=.type T/\o.data=.seq b.toArray n/\bT l b/\l.length<=sizeLine:=by
  rcases j with j|j;obtain⟨b,f,⟨o,n,e,c,_,d⟩,k⟩:=I.list j;exact⟨_,o,n,b,.inl rfl,e,c,d,f,k⟩;obtain⟨b,f,⟨o,e,c,n,d⟩,k⟩:=I.tuple j;exact⟨_,o,n,b,.inr rfl,e,c,d,f,k⟩
 have w:=f.length;have z:=v.len;refine TS.F0 D A m C (by lia) (by lia) (v.ptI I f) λr L e t k' x=>?_;rw[show b.length=g.length by lia]at x;refine⟨.ref r,_,I.laid (a:=r) (o:=.lst ((KW g).map λi=>l.getD i .non)) (t':=s.toks) k' t ?_,rfl,q _ (I.hok.fresh t)⟩;refine⟨by rw[Bf,(UV g).length_eq,Hd];lia,(KW g).map λi=>b.getD i Value.none,e,KD f _ λi B=>?_,x⟩;have:=Bj.mp ((UV g).mem_iff.mp B);lia
def VW(d:cY):Option cY:=(YH d).bind λa=>if a.length<64 then(TD a).bind λb=>b0 (.lst ((KW b).map λi=>a.getD i .non))else b4
theorem OO{H:Hp}{N:Ws->Prop}{xs:List V}{ds:List cY}(r:cA K N H xs ds):∀l:List Nat,cA K N H (l.map λi=>xs.getD i .non) (l.map λi=>ds.getD i .non)
 |[]=>.nil
 | i :: l => by
  have one:∀{xs:List V}{ds:List cY}(i:Nat),cA K N H xs ds->bE K N H N (xs.getD i .non) (ds.getD i .non):=by
   intro xs ds i r;induction r using cA.rec (motive_1:=λ_ _ _ _=>True) generalizing i with
   |nil=>simpa using bE.non
   |cons h t _ a=>cases i with
    |zero=>simpa using h
    |succ i=>simpa using a i
   |_=>trivial
  exact .cons (one i r) (OO r l)
def PP:CalN K (fT K) VW:=by
 intro H N M x d c Q i h k;obtain⟨n,m,h⟩:=Ac.mp (show(YH d).bind _=b0 c from h);split at h;rename_i e;obtain⟨g,j,h⟩:=Ac.mp h;cases h;obtain⟨a,f,rfl,sq,r⟩:=i.seq m;exact⟨a,f,g,rfl,sq,by rw[r.length];exact e,P7 r j,λl b=>k l _ _ b (OO r _) rfl⟩;cases h
def lW:typeLookup (.type "list") ("keys":Wy)=pure b4:=am_miss_of_fast (by decide+kernel)
section
variable{prog:Az}{w:Wv}{A:Bz}{E:Wr->Af->Prop}{s:Af}
def lA{a:Ws}{o:Xc}{xs:Array Wr}{k:Nat}{Q:Option Wr->Af->Prop}(m:s.heap.get? a=b0 o)(hc:o.cls=.type "list")(r:o.data=.seq xs k)(p:o.dict=b4)(u:A.handled=b4)(h:∀h' j,(∀b l,s.heap.get? b=b0 l->h'.get? b=b0 l)->Q b4 {s with heap:=h',toks:=j}):Wt (Wu prog w) A (getAttr? (.ref a) "keys") Q E s:=by
 obtain⟨c,dct,v,sl⟩:=o;simp only at hc r p;subst hc r p;obtain⟨t,g,d,j,os⟩:=s;have q:∀f,(⟨t,g,d,f,os⟩:Af).TypeIs (.ref a) "list":=λ_=>⟨_,m,rfl⟩;have f1:=sub_AttributeError;have f3:=F.slot_list_getattribute.lookup;have C:=F.slot_list_getattribute.bind (.ref a);have B:=am_list_getattr_none;unfold getAttr? getAttrBy? getAttrBy
 (repeat (any_goals (first|assumption|exact q _|((with_reducible show Wt _ _ (call (Vo "list.__getattribute__") _ _) _ _ _);refine Nk F.slot_list_getattribute (q _) am_entry_list_getattribute (F.args_list_getattribute_2 _ _) (meets_getattribute_miss_list a xs k sl "keys" _ lW (by decide) (by size_fits)) ⟨m,u,λh' f e i=>?_⟩)|wp_step)))
 obtain⟨y,x,z⟩:=i.there;show(Wt _ _ (Rw _ _ _ _ _ _ _) _ _ _);unfold Rw
 (repeat (any_goals (first|assumption|wp_step)))
 exact h _ _ i.keeps
end
def JJ:Vp table "dict.update.loop"=b0 Gy.«dict.update.loop» :=entryFor_of_tree (by kernel_rfl)
def RT:plainId "dict.update.loop"=ba:=by decide+kernel
def PrK(prog:Az)(w:Wv)(h:Wz):List Wr->List (bH×Wr)->Prop
 |[],[]=>True
 |v::b,p::c=>(∃a key,v=.ref a/\IsTup h a #[key,p.2]/\(a9 prog w).is p.1 key=ba)/\PrK prog w h b c
 |_,_=>False
section
variable{prog:Az}{w:Wv}{A:Bz}{E:Wr->Af->Prop}{s:Af}
theorem PrK.keep{h h':Wz}{C:Ws->Prop}(k:∀b o,C b->h.get? b=b0 o->h'.get? b=b0 o):∀{vs:List Wr}{ps:List (bH×Wr)},(∀a,Bb a∈vs->C a)->PrK prog w h vs ps->PrK prog w h' vs ps
 |[],[],_,_=>trivial
 |_::_,_::_,c,⟨⟨a,key,e,⟨o,f,r⟩,q⟩,d⟩=>⟨⟨a,key,e,⟨o,k a o (c a (by rw[e];exact Ag)) f,r⟩,q⟩,PrK.keep k (λa g=>c a (Ai _ g)) d⟩
 |[],_::_,_,r=>r.elim
 |_::_,[],_,r=>r.elim
def DH{a:Ws}{k v:Wr}{Q:List Wr->Af->Prop}(h:IsTup s.heap a #[k,v])(q:Q [k,v] s):Wt (Wu prog w) A (Pf (.ref a)) Q E s:=by obtain⟨o,b,hc,n,c⟩:=h;unfold Pf;refine(Aa (Fn (T:= "tuple") ⟨o,b,hc⟩ ?_));rw[if_pos (by decide)];exact(Aa (Cy b c (Ad q)))
theorem Zh{R:Vz->Af->Prop}{I D:Ws}{fp f:List Ws}{items:Array Wr}{St:Nat->Wz->Prop}(W:Walks prog w A.in1 I fp f items.size (λi v=>items[i]?=b0 v) St)(c:D∉fp):∀(vs:List Wr) (ps:List (bH×Wr)) (j:Nat) (i:Int) (s:Af) (kvs:List (bH×Wr)),items.toList.drop j=vs->j+vs.length=items.size->St j s.heap->s.heap.DictOf (a9 prog w) D kvs->kvs.length+vs.length<=sizeLine->PrK prog w s.heap vs ps->(∀a,Bb a∈vs->a∉f/\a≠D)->(∀g n,g.DictOf (a9 prog w) D (ps.foldl (λl p=>Wa l p.1 p.2) kvs)->(∀b o,b∉f->b≠D->s.heap.get? b=b0 o->g.get? b=b0 o)->R (.ok (.ret .none)) {s with heap:=g,toks:=n})->Jd (Wu prog w) A (.builtin "dict.update.loop" ⟨[.ref D,.ref I,rawInt i,.none],[]⟩) R s
 | [],ps,j,i,s,kvs,e,F,VC,J,N,q,x,K => by
  have k:D∉f:=λz=>c (W.sub _ z);cases ps with
  |cons p ps=>exact q.elim
  |nil=>
   refine Ee JJ (by rw[Dx RT _];show(Wt _ A.in1 (pyNext (.ref I)>>=_) _ _ s);refine(Aa (W.done s _ _ (by rw[show items.size=j by simpa using F.symm];exact VC) λg n kept=>?_));show(Wt _ A.in1 (Builtin.Dict.addKeywords D []>>=_) _ _ _);refine(Aa (Ad (Ad ?_)));obtain⟨o,L,M,E,r⟩:=J;exact K g n ⟨o,L,M,kept _ _ k E,r⟩ λb o m _ e=>kept b o m e)
 | v :: vs,ps,j,i,s,kvs,e,F,VC,J,N,q,x,K => by
  have k:D∉f:=λz=>c (W.sub _ z);cases ps with
  |nil=>exact q.elim
  |cons p ps=>
   obtain⟨⟨a,key,rfl,U,V⟩,q⟩:=q;obtain⟨S,nD⟩:=x a Ag;simp only[Ba]at F N;have ei:items[j]?=b0 (.ref a):=by
    have:=congrArg (λl=>l[0]?) e
    simpa using this
   have ed:items.toList.drop (j+1)=vs:=by
    have:=congrArg List.tail e
    simpa using this
   refine Ee JJ (by
    rw[Dx RT _];show(Wt _ A.in1 (pyNext (.ref I)>>=_) _ _ s);refine(Aa (W.item j s _ _ (by lia) VC λv g n pv T kept=>?_));obtain rfl:v=.ref a:=by rw[ei]at pv;cases pv;rfl
    obtain⟨o,E,r⟩:=U;obtain⟨Q,L,M,B,P⟩:=J;refine(Aa (Bu (Aa (wpAny_tryCatch (DH (s:={s with heap:=g,toks:=n}) ⟨o,kept _ _ S E,r⟩ ?_)))));refine(Bu (wpAny_dictSet_pairs (s:={s with heap:=g,toks:=n}) (kvs:=kvs) V ⟨Q,L,M,kept _ _ k B,P⟩ (λY H C2=>?_) (by lia)));have O:∀b o,b∉f->b≠D->s.heap.get? b=b0 o->Y.get? b=b0 o:=λb o m t e=>(C2.2 b t).trans (kept b o m e);refine(Ad ⟨Jx RT _,Zh W c vs ps (j+1) (i+1) _ (Wa kvs p.1 p.2) ed (by lia) (W.frame _ _ _ T λb u o e=>(C2.2 b (λz=>c (by rw[<-z];exact u))).trans e) H ?_ (PrK.keep (C:=λb=>b∉f/\b≠D) (λb o u e=>O b o u.1 u.2 e) (λa h=>x a (Ai _ h)) q) (λa h=>x a (Ai _ h)) ?_⟩);have:=stored_length_le kvs p.1 p.2
    lia;exact λX y G Z=>K X y G λb o m t e=>Z b o m t (O b o m t e))
end
section
variable{prog:Az}{w:Wv}{A:Bz}{E:Wr->Af->Prop}{s:Af}
def C0{l:Ws}{vs:List Wr}{ps:List (bH×Wr)}{Q:Wr->Af->Prop}(M:A.handled=b4)(pl:PlainL s.heap l vs.toArray)(hz:vs.length<=sizeLine)(x:PrK prog w s.heap vs ps)(h:∀g G,g.DictOf (a9 prog w) s.heap.objs.size (ps.foldl (λl p=>Wa l p.1 p.2) [])->(∀b o,s.heap.get? b=b0 o->g.get? b=b0 o)->Q (.ref s.heap.objs.size) {s with heap:=g,toks:=G}):Wt (Wu prog w) A (call (.type "dict") [.ref l]) Q E s:=by
 refine(callType_codes (Q₁:=λobj d=>obj=.ref s.heap.objs.size/\d={s with heap:=s.heap.push {cls:=.type "dict",data:=.dict #[]}}) F.kt_called_dict (F.kt_typeCall_dict_1 _) F.entry_dict_init (kt_code_dict_new _ ⟨rfl,rfl⟩) ?_);rintro obj d ⟨rfl,rfl⟩;have K:(s.heap.push {cls:=.type "dict",data:=.dict #[]}).DictOf (a9 prog w) s.heap.objs.size []:=Ue s.heap;obtain⟨o,n,L,hc,V,O⟩:=pl;have t:(s.heap.push {cls:=.type "dict",data:=.dict #[]}).get? l=b0 o:=Ae _ L;refine⟨K.typeIs,F.args_dict_init_2 _ _,?_⟩;unfold Gy.«dict.__init__»;refine(Aa ?_);unfold Builtin.Dict.selfAndRest;refine(Aa (wpAny_notOrdered_dict K.typeIs ?_));show(Wt _ _ (pure (s.heap.objs.size,[Bb l])) _ _ _);refine(Ad ?_);show(Wt _ _ (Ox "dict.__init__" s.heap.objs.size (.ref l) [] .none) _ _ _);unfold Ox;refine(Aa (Fn (T:= "list") ⟨o,t,hc⟩ ?_));rw[if_pos (by decide)];refine(Aa (lA t hc O V (by simp[M]) λi D B=>?_));simp only[Option.isNone_none,if_true];refine(Aa (Gh ?_));have S:i.get? l=b0 o:=B _ _ t;have od:i.get? s.heap.objs.size=b0 {cls:=.type "dict",data:=.dict #[]}:=B _ _ (Ar _ rfl);have k:s.heap.objs.size<i.objs.size:=As od;have m:l<s.heap.objs.size:=As L;have y:i.IsList l vs.toArray:=⟨o,S,hc,n,O⟩;have N:∀b c,s.heap.get? b=b0 c->i.get? b=b0 c:=λb c q=>B b c (Ae _ q);have j:∀b c,s.heap.get? b=b0 c->b∉[i.objs.size]/\b≠s.heap.objs.size:=λb c q=>by
  have:=As q
  exact⟨λz=>by rw[Aq.mp z]at this;exact absurd (La this k) (By _),λz=>by rw[z]at this;exact By _ this⟩
 have I:∀{vs:List Wr}{ps:List (bH×Wr)},PrK prog w s.heap vs ps->∀a,Bb a∈vs->∃c,s.heap.get? a=b0 c:=by
  intro vs;induction vs with
  |nil=>intro ps _ a u;cases u
  |cons v vs U=>
   intro ps x a u;cases ps with
   |nil=>exact x.elim
   |cons p ps=>
    rcases Ak.mp u with e|u;obtain⟨⟨b,key,Z,⟨c,r,_⟩,_⟩,_⟩:=x;rw[Z]at e;cases e;exact⟨c,r⟩;exact U x.2 a u
 refine(Aa (Fx (s:={s with heap:=i,toks:=D}) y ?_));have W:=Ss (prog:=prog) (w:=w) (A:=A.in1.in1) (by simp[M]) i.objs.size l (Bd (La m k)) vs.toArray;refine(Ad ⟨Jx RT _,Zh (A:=A.in1) W (λz=>?_) vs ps 0 0 _ [] (by simp) (by simp) ⟨⟨_,Ar _ rfl,rfl,rfl⟩,y.push _⟩ ?_ (by simpa using hz) (PrK.keep (C:=λ_=>True) (λb c _ q=>Ae _ (N b c q)) (λ_ _=>trivial) x) (λa u=>?_) λg G J kept=>⟨rfl,h g G J λb c q=>?_⟩⟩);rcases Ak.mp z with z|z;exact absurd k (by rw[<-z];exact By _);rw[<- Aq.mp z]at m;exact By _ m;obtain⟨R,X,Y,H,P⟩:=K;exact⟨R,X,Y,Ae _ (B _ _ H),P⟩;obtain⟨c,r⟩:=I x a u;exact j a c r;exact kept b c (j b c q).1 (j b c q).2 (Ae _ (N b c q))
end
variable{X:Cx}{K:Au}{H:Hp}{σ:St}{s:Af}{aa:List (Ws×Xc)}{ml:List Nat}{pa ta ia:Bool}{fa:VF}{a:Ww}{p' pos:Pos}
noncomputable def kprD:cY->Option (bH×cY)
 |.tup [k,v]=>(WM k).map λa=>(a,v)
 |_=>b4
def PH:List cY->Option (List (bH×cY))
 |[]=>b0 []
 |d::b=>(kprD d).bind λp=>(PH b).map λa=>p::a
def GR(K:Au)(H:Hp):List V->List (bH×V)->Prop
 |[],[]=>True
 |v::b,p::c=>(∃a,v=.ref a/\WT K H a [kV p.1,p.2])/\GR K H b c
 |_,_=>False
def jr{d:cY}{p:bH×cY}(h:kprD d=b0 p):∃k,d=.tup [k,p.2]/\WM k=b0 p.1:=by
 unfold kprD at h;split at h;rename_i k v;cases e:WM k with
 |none=>rw[e]at h;cases h
 |some a=>rw[e]at h;cases h;exact⟨k,rfl,e⟩
 cases h
theorem ET{N:Ws->Prop}:∀{xs:List V}{ds:List cY}{xg:List (bH×cY)},cA K N H xs ds->PH ds=b0 xg->∃kvs:List (bH×V),GR K H xs kvs/\kvs.map Dr=xg.map Dr/\cA K N H (kvs.map Ej) (xg.map Ej)
 |_,_,_,.nil,h=>by cases h;exact⟨[],trivial,rfl,.nil⟩
 | _,_,xg,@cA.cons _ _ _ v o d ds h t,e => by
  have e:(kprD d).bind (λp=>(PH ds).map λa=>p::a)=b0 xg:=e;obtain⟨p,m,e⟩:=Ac.mp e;have e:(PH ds).map (λa=>p::a)=b0 xg:=e;obtain⟨q,l,e⟩:=Am.mp e;cases e;obtain⟨kvs,i,g,f⟩:=ET t l;obtain⟨k,rfl,j⟩:=jr m;cases h.onT with
  |tup sq r=>
   cases r with
   |cons c r=>
    cases r with
    |cons b r=>
     cases r;have n:=c.key j;subst n;exact⟨(p.1,_)::kvs,⟨⟨_,rfl,sq⟩,i⟩,by simp[g],.cons b f⟩
theorem GR.prK(I:b9 X aa σ H s):∀{xs:List V}{c:List Wr}{kvs:List (bH×V)},GR X.K H xs kvs->bT xs c->∃ps:List (bH×Wr),KV kvs ps/\PrK X.prog X.w s.heap c ps
 |[],_,[],_,.nil=>⟨[],.nil,trivial⟩
 | _ :: _,_,p :: _,⟨⟨b,e,q⟩,r⟩,.cons h t => by
  subst e;cases h;obtain⟨ps,i,g⟩:=GR.prK I r t;obtain⟨j,a,k,_⟩:=I.tuple q;cases a with
  |cons f a=>
   cases a with
   |cons d a=>
    cases a;exact⟨(p.1,_)::ps,.cons ⟨rfl,d⟩ i,⟨b,_,rfl,k,NS f⟩,g⟩
 |[],_,_::_,h,_=>h.elim
 |_::_,_,[],h,_=>h.elim
theorem GR.len:∀{xs:List V}{ps:List (bH×V)},GR K H xs ps->xs.length=ps.length
 |[],[],_=>rfl
 |_::_,_::_,r=>by simp[GR.len r.2]
 |[],_::_,r=>r.elim
 |_::_,[],r=>r.elim
def Yy(K:Au):RC:=λc H Q=>∃(p:Ws) (b:List V) (a:List (bH×V)),c=[.ref p]/\WZ K H p b/\GR K H b a/\(a.map Dr).Nodup/\∀l:Ws,H l=b4->Q (.ref l) (Z8 H l (.dK a))
def sU(hc:X.calm=ba)(h:X.K=K:=by rfl):aH X (.type "dict") (Yy K):=by subst h;intro aa s σ H A B Q I r h;obtain⟨p,z,b,rfl,v,e,n,q⟩:=h;obtain⟨u,rfl,j⟩:=VZ r;cases j;obtain⟨t,d,m,D⟩:=I.list v;have f:=d.length;have w:=e.len;obtain⟨C,l,k⟩:=e.prK I d;refine C0 (I.ok.hd hc) m (by lia) k λg i y kept=>?_;have x:L1 [] b=b:=JW (xh:=[]) (by simpa using n);have c:=KV.merge l (kvs:=[]) (vs:=[]) .nil;rw[x]at c;exact⟨.ref s.heap.objs.size,_,I.laid (a:=s.heap.objs.size) (o:=.dK b) (t':=i) kept (Al _) (Zm (by lia) (beq_eq_false_iff_ne.mpr (Dg (Bd I.big))) c y),rfl,q _ (I.hok.fresh (Al _))⟩
def AX:cY->Option cY
 |.lst ds=>(PH ds).bind λa=>if(a.map Dr).Nodup then b0 (.dct (a.map Dr) (a.map Ej))else b4
 |_=>b4
def CalD(K:Au)(r:RC)(o:cY->Option cY):Prop:=∀(H:Hp) (N M:Ws->Prop) (x:V) (d c:cY) (Q:VK),bE K N H M x d->o d=b0 c->
 (∀p (a:List (bH×V)) ds,H p=b4->cA K N H (a.map Ej) ds->c=.dct (a.map Dr) ds->Q (.ref p) (Z8 H p (.dK a)))->r [x] H Q
def qZ:CalD K (Yy K) AX:=by
 intro H N M x d c Q o h k;cases d with
 |lst q=>
  have h:((PH q).bind λb=>if(b.map Dr).Nodup then b0 (cY.dct (b.map Dr) (b.map Ej))else b4)=b0 c:=h;obtain⟨b,p,h⟩:=Ac.mp h;have h:(if(b.map Dr).Nodup then b0 (cY.dct (b.map Dr) (b.map Ej))else b4)=b0 c:=h;split at h;rename_i n;cases h;obtain⟨a,i,rfl,sq,r⟩:=o.lstE;obtain⟨e,m,g,j⟩:=ET r p;exact⟨a,i,e,rfl,sq,m,by rw[g];exact n,λl f=>k l e _ f j (by rw[g])⟩;cases h
 |_=>cases h
def mkDK{B:Bs}{O:Nat->Option Ws}{b:Hp}{c:Ev}{p:Ws}{pu:Bool}{kvs:List (bH×V)}{ds:List cY}(S:aI K ml B O b σ c)(f:Fr (OA O) H b)(s:pu=ba->aS H b)(a:b p=b4)(r:cA K (Nn B O) b (kvs.map Ej) ds):ResN K ml B O H σ pu (Z8 b p (.dK kvs)) c p (.dct (kvs.map Dr) ds):=
 ⟨S.laid a,f.trans (cQ a).fr,λz=>(s z).trans (cQ a),.dct b6 ((r.away a _ _ WN).same (cQ a)),S.new a,S.fresh a⟩
def oR(u:X.K=K)(hc:X.calm=ba)(s:Gl X "dict")(r:X.mg "dict"=b4)(l:Bv "dict"=b0 (.type "dict"))(t:PE X a (TV K ml pa ta ba fa))(o:("dict":Wy)≠ "__name__":=by decide)(f:(("dict":Wy)==("__debug__":Wy))=bb:=by decide)(b:SE X a []:=by rfl):PE X (.Call (.Name "dict" p') [a] [] pos) (TN K ml pa (f1 AX fa)):=
 (XF (sU hc u) s r l (bV t Z1 b) o f b).imp λσ H Q h=>by obtain⟨B,O,g,d,e,S,q,k⟩:=h;obtain⟨x,w,v⟩:=QI q;refine⟨B,O,g,x,e,S,w,λi y c=>qZ y _ _ i x d Q c.rep v λp j z n m b=>?_⟩;subst b;exact k p _ (mkDK c.sta c.frm c.pur n m)
end L2
namespace SP
open PySem PySem.SetTable
section
variable{i:Nat}{t u:Bn}{xs:Array Nat}
theorem pig:∀{l m:List Nat},l.Nodup->(∀x∈l,x∈m)->l.length<=m.length
 |[],_,_,_=>Ch _
 |x::l,m,c,h=>by
  obtain⟨f,d⟩:=Ct.mp c;have b:=h x Ag;have:=pig (l:=l) (m:=m.erase x) d λy a=>(Qq (λe:y=x=>f (e▸a))).mpr (h y (Ai _ a));rw[Nr b]at this;have:0<m.length:=Ke b;simp only[Ba];omega
def hop(m i:Nat):Nat:=(i*5+1) % (m+1)
def KS(m:Nat):Nat->Nat->Nat
 |0,i=>i
 |n+1,i=>KS m n (hop m i)
theorem PD{m:Nat}:∀{a b i:Nat},KS m (a+b) i=KS m b (KS m a i)
 |0,b,i=>by rw[Gm];rfl
 |a+1,b,i=>by rw[Mw];exact PD (a:=a)
def orb(m:Nat):Nat->Nat->List Nat
 |0,_=>[]
 |n+1,i=>i::orb m n (hop m i)
theorem A2{m:Nat}:∀{n i j:Nat},j∈orb m n i->∃k,k<n/\KS m k i=j
 | n + 1,i,j,h => by
  rcases Ak.mp h with rfl|h;exact⟨0,Tq _,rfl⟩;obtain⟨k,b,a⟩:=A2 h;exact⟨k+1,Nat.succ_lt_succ b,a⟩
def QC(m:Nat):Prop:=KS m (m+1) 0=0/\∀j,j<=m->∃k,k<=m/\KS m k 0=j
def gT(m:Nat):Bool:=KS m (m+1) 0==0&&(let o:=orb m (m+1) 0;(Ao (m+1)).all λj=>o.contains j)
def MW{m:Nat}(h:gT m=ba):QC m:=by
 unfold gT at h;obtain⟨c,b⟩:=(Ah _ _).mp h;refine⟨by simpa using c,λj e=>?_⟩;have:=Eo.mp b j (Bj.mpr (by omega));obtain⟨k,d,a⟩:=A2 (Qa.mp this);exact⟨k,by omega,a⟩
def nY:QC 7:=MW (by decide+kernel)
def pj:QC 31:=MW (by decide+kernel)
def jQ:QC 127:=MW (by decide+kernel)
def rJ:QC 511:=MW (by decide+kernel)
def QC.any{m:Nat}(h:QC m){j:Nat}(f:i<=m)(e:j<=m):∃k,k<=m/\KS m k i=j:=by
 obtain⟨a,n,d⟩:=h.2 i f;obtain⟨b,l,c⟩:=h.2 j e;by_cases g:a<=b;refine ⟨b-a,by omega,?_⟩;rw[<-d,<-PD,show a+(b-a)=b by omega,c];refine ⟨m + 1-a + b,by omega,?_⟩;rw[<-d,<-PD,show a+(m+1-a+b)=m+1+b by omega,PD,h.1,c]
def C6(m:Nat):Nat->Nat×Nat->Nat×Nat
 |0,p=>p
 |n+1,p=>C6 m n (leap m p.1 p.2)
theorem AJ{m:Nat}:∀{a b:Nat}{p:Nat×Nat},C6 m (a+b) p=C6 m b (C6 m a p)
 |0,b,p=>by rw[Gm];rfl
 |a+1,b,p=>by rw[Mw];exact AJ (a:=a)
theorem AK{m:Nat}:∀{n:Nat}{p:Nat×Nat},(C6 m n p).2=p.2/32 ^ n
 |0,p=>by simp[C6]
 |n+1,p=>by show(C6 m n (leap m p.1 p.2)).2=_;rw[AK];show p.2/32/32 ^ n=_;rw[Nat.div_div_eq_div_mul,Nat.pow_succ,Nat.mul_comm]
theorem EZ{m:Nat}:∀{n i:Nat},C6 m n (i,0)=(KS m n i,0)
 |0,i=>rfl
 |n+1,i=>by
  show C6 m n (leap m i 0)=_;have:leap m i 0=(hop m i,0):=by simp[leap,hop]
  rw[this,EZ];rfl
def nw{m:Nat}{n:Nat}{p:Nat×Nat}(h:p.1<=m):(C6 m n p).1<=m:=by
 induction n generalizing p with
 |zero=>exact h
 |succ n a=>exact a (Ex (Lv _ (Jk m)))
def met{m:Nat}(h:QC m){p:Nat×Nat}(b:p.1<=m)(d:p.2<2 ^ 64){j:Nat}(c:j<=m):∃n,n<=m+13/\(C6 m n p).1=j:=by
 have e:C6 m 13 p=((C6 m 13 p).1,0):=by refine Vg rfl ?_;rw[AK];exact Nat.div_eq_of_lt (by omega)
 obtain⟨k,f,a⟩:=h.any (nw (n:=13) b) c;refine⟨13+k,by omega,?_⟩;rw[AJ,e,EZ];exact a
def eG(h:Int):bits h<2 ^ 64:=by
 unfold bits;have:=Cf h (show(0:Int)<2 ^ 64 by decide);have:=Ii h (show(2 ^ 64:Int)≠0 by decide)
 omega
structure Ok(t:Bn):Prop where
 full:QC t.mask
 dum:t.dummies= #[]
 room:t.place.size<=t.mask
def fF{j:Nat}:has #[] j=bb:=by simp[has]
def YI(h:t.dummies= #[])(j:Nat):t.slot j=.empty∨∃i,t.slot j=.live i/\t.place[i]?=b0 j:=by
 unfold slot;rw[h,fF];dsimp only;by_cases e:(t.place[below t.place j]? ==b0 j)=ba;exact .inr ⟨_,by rw[if_pos e],by simpa using e⟩;exact .inl (by rw[if_neg e];rfl)
def Ok.hole(h:Ok t):∃j,j<=t.mask/\t.slot j=.empty:=by
 by_cases z:∃j,j<=t.mask/\t.slot j=.empty;exact z;refine absurd (pig (l := Ao (t.mask + 1)) (m := t.place.toList) Jb λj a => ?_) ?_;rcases YI h.dum j with e|⟨i,_,e⟩;exact absurd ⟨j,Ex (Bj.mp a),e⟩ z;obtain⟨b,e⟩:=Bh.mp e;rw[<-e];exact Ir.mpr (Nt b);rw[Hd,Dm];have:=h.room
 omega
def P6(m i q:Nat):Probe:={j:=i,more:=runEnd m i-i,i:=i,perturb:=q,dummy:=b4}
def HV{m:Nat}:runEnd m i-i<=9:=by unfold runEnd;split<;>omega
theorem MY{t:Bn}{hs:Nat->Int}{h:Int}(b:t.dummies= #[]):∀{more xi j i q:Nat},probe.go t hs h xi {j:=j,more:=more,i:=i,perturb:=q,dummy:=b4}=b4->more<xi->t.slot j≠ .empty/\probe.go t hs h (xi-(more+1)) (P6 t.mask (leap t.mask i q).1 (leap t.mask i q).2)=b4
 |more,0,j,i,q,_,a=>absurd a (Co _)
 | more,xi + 1,j,i,q,e,a => by
  unfold probe.go at e;rcases YI b j with z|⟨k,z,_⟩;simp[z]at e;simp only[z]at e;refine⟨by rw[z];exact λy=>(nomatch y),?_⟩;split at e;cases e;cases more with
  |zero=>
   unfold advance at e;simpa[P6]using e
  |succ more=>
   unfold advance at e;simp only[Tq,gt_iff_lt,if_true,Nat.add_sub_cancel]at e;have:=(MY b (more:=more) (xi:=xi) e (by omega)).2;rwa[show xi+1-(more+1+1)=xi-(more+1) by omega]
theorem gL{t:Bn}{hs:Nat->Int}{h:Int}(a:t.dummies= #[]):∀{n xi i q:Nat},probe.go t hs h xi (P6 t.mask i q)=b4->10*(n+1)<=xi->t.slot (C6 t.mask n (i,q)).1≠ .empty
 |0,xi,i,q,e,b=>(MY a e (by have:=HV (m:=t.mask) (i:=i);omega)).1
 |n+1,xi,i,q,e,b=>by
  have c:=HV (m:=t.mask) (i:=i);have:=(MY a e (by omega)).2;exact gL a (n:=n) this (by omega)
theorem Ok.probe{t:Bn}(ok:Ok t)(hs:Nat->Int)(h:Int){j more i q:Nat}(l:more<=9)(m:i<=t.mask)(d:q<2 ^ 64):∃x,t.probe hs h {j:=j,more:=more,i:=i,perturb:=q,dummy:=b4}=b0 x:=by
 cases e:t.probe hs h {j:=j,more:=more,i:=i,perturb:=q,dummy:=b4}with
 |some x=>exact⟨x,rfl⟩
 |none=>
  obtain⟨k,f,a⟩:=ok.hole;have e:probe.go t hs h (10*turns t.mask) {j:=j,more:=more,i:=i,perturb:=q,dummy:=b4}=b4:=e;unfold turns at e;have b:=(MY ok.dum e (by omega)).2;have hl:(leap t.mask i q).1<=t.mask:=Ex (Lv _ (Jk _));have JO:(leap t.mask i q).2<2 ^ 64:=Hz (Ul _ _) d;obtain⟨n,g,c⟩:=met ok.full (p:=leap t.mask i q) hl JO f;exact absurd (by rw[<-c]at a;exact a) (gL ok.dum (n:=n) b (by omega))
def advs(t:Bn):Nat->Probe->Probe
 |0,p=>p
 |n+1,p=>advs t n (t.advance p)
theorem UH{t:Bn}:∀{a b:Nat}{p:Probe},advs t (a+b) p=advs t b (advs t a p)
 |0,b,p=>by rw[Gm];rfl
 |a+1,b,p=>by rw[Mw];exact UH (a:=a)
def GS(h:t.mask=u.mask)(p:Probe):t.advance p=u.advance p:=by unfold advance;rw[h]
theorem IS{t u:Bn}(h:t.mask=u.mask):∀{n:Nat}{p:Probe},advs t n p=advs u n p
 |0,p=>rfl
 |n+1,p=>by show advs t n (t.advance p)=advs u n (u.advance p);rw[GS h,IS h]
structure Wf(m:Nat)(p:Probe):Prop where
 more:p.more<=9
 i:p.i<=m
 q:p.perturb<2 ^ 64
 j:p.j+p.more<=m
 d:p.dummy=b4
def DT{m:Nat}(h:i<=m):i+(runEnd m i-i)<=m:=by unfold runEnd;split<;>omega
def V6{h:Int}:Wf t.mask (t.probeStart h):=by have a:bits h % (t.mask+1)<=t.mask:=Ex (Lv _ (Jk _));exact⟨HV,a,eG h,DT a,rfl⟩
def Wf.adv{p:Probe}(h:Wf t.mask p):Wf t.mask (t.advance p):=by
 unfold advance;split;rename_i b;have e:=h.more;have c:=h.j;exact⟨by show p.more-1<=9;omega,h.i,h.q,by show p.j+1+(p.more-1)<=t.mask;omega,h.d⟩;have a:(leap t.mask p.i p.perturb).1<=t.mask:=Ex (Lv _ (Jk _));exact⟨HV,a,Hz (Ul _ _) h.q,DT a,h.d⟩
theorem Wf.advs{t:Bn}:∀{n:Nat}{p:Probe},Wf t.mask p->Wf t.mask (advs t n p)
 |0,_,h=>h
 |n+1,_,h=>Wf.advs (n:=n) h.adv
def Ok.probeW(ok:Ok t)(hs:Nat->Int)(h:Int){p:Probe}(w:Wf t.mask p):∃x,t.probe hs h p=b0 x:=by
 obtain⟨j,more,i,q,d⟩:=p;have:=w.d;subst this;exact ok.probe hs h w.more w.i w.q
inductive Says(t:Bn)(hs:Nat->Int)(h:Int)(p:Probe):Met->Prop
 |empty (n:Nat) (b:∀k,k<n->∃i,t.slot (advs t k p).j=.live i/\hs i≠h) (e:t.slot (advs t n p).j=.empty):Says t hs h p (.empty (advs t n p).j b4)
 |cand (n i:Nat) (b:∀k,k<n->∃i,t.slot (advs t k p).j=.live i/\hs i≠h) (e:t.slot (advs t n p).j=.live i) (g:hs i=h):Says t hs h p (.candidate (advs t n p).j i (advs t (n+1) p))
theorem dW{t:Bn}{hs:Nat->Int}{h:Int}(c:t.dummies= #[]):∀{xi:Nat}{p:Probe}{x:Met},p.dummy=b4->probe.go t hs h xi p=b0 x->Says t hs h p x
 |0,_,_,_,e=>nomatch e
 | xi + 1,p,x,d,e => by
  unfold probe.go at e;rcases YI c p.j with z|⟨i,z,_⟩;simp only[z,d]at e;cases e;exact .empty 0 (λ_ h=>absurd h (Co _)) z
  ·simp only[z]at e
   split at e;rename_i g;cases e;exact .cand 0 i (λ_ h=>absurd h (Co _)) z (by simpa using g)
   ·rename_i g
    have m:(t.advance p).dummy=b4:=by unfold advance;split<;>exact d
    have f:∀{n:Nat},(∀k,k<n->∃i,t.slot (advs t k (t.advance p)).j=.live i/\hs i≠h)->∀k,k<n+1->∃i,t.slot (advs t k p).j=.live i/\hs i≠h:=λb k o=>by
     cases k with
     |zero=>exact⟨i,z,by simpa using g⟩
     |succ k=>exact b k (by omega)
    cases dW c m e with
    |empty n b a=>exact .empty (n+1) (f b) a
    |cand n i b a l=>exact .cand (n+1) i (f b) a l
def DN{hs:Nat->Int}{h:Int}{p:Probe}{x:Met}(a:t.dummies= #[])(w:p.dummy=b4)(e:t.probe hs h p=b0 x):Says t hs h p x:=dW a w e
def Srt(xs:Array Nat):Prop:=xs.toList.Pairwise (· < ·)
def Srt.lt(h:Srt xs){a b x y:Nat}(c:a<b)(e:xs[a]?=b0 x)(d:xs[b]?=b0 y):x<y:=by
 obtain⟨g,j⟩:=Bh.mp e;obtain⟨f,i⟩:=Bh.mp d;have:=Du.mp h a b (by simpa using g) (by simpa using f) c;simpa[j,i]using this
theorem K9{xs:Array Nat}{j:Nat}(h:Srt xs):∀{xi lo a:Nat},a-lo<=xi->lo<=a->a<=xs.size->(∀i x,i<lo->xs[i]?=b0 x->x<j)->(∀i x,a<=i->xs[i]?=b0 x->¬x<j)->below.go xs j xi lo a<=xs.size/\(∀i x,i<below.go xs j xi lo a->xs[i]?=b0 x->x<j)/\(∀i x,below.go xs j xi lo a<=i->xs[i]?=b0 x->¬x<j)
 |0,lo,a,n,hl,g,l,k=>by
  have:lo=a:=by omega
  subst this;exact⟨g,l,k⟩
 | xi + 1,lo,a,n,hl,g,l,k => by
  unfold below.go;by_cases f:lo<a;rw[if_pos f];have m1:(lo+a)/2<a:=by omega
  have m0:lo<=(lo+a)/2:=by omega
  obtain⟨x,e⟩:∃x,xs[(lo+a)/2]?=b0 x:=⟨_,Bx (by omega)⟩;have m:xs.getD ((lo+a)/2) j=x:=by simp[Cc,e]
  dsimp only;rw[m];by_cases b:x<j;rw[if_pos b];refine K9 h (by omega) (by omega) g (λi y d c=>?_) k;rcases Rx (Ex d)with z|z;exact La (h.lt z c e) b;rw[z,e]at c;cases c;exact b;rw[if_neg b];refine K9 h (by omega) (by omega) (by omega) l (λi y d c hc=>?_);rcases Rx d with z|z;exact b (La (h.lt z e c) hc);rw[<-z,e]at c;cases c;exact b hc;rw[if_neg f];have:lo=a:=by omega
  subst this;exact⟨g,l,k⟩
def QE(h:Srt xs)(j:Nat):below xs j<=xs.size/\(∀i x,i<below xs j->xs[i]?=b0 x->x<j)/\(∀i x,below xs j<=i->xs[i]?=b0 x->¬x<j):=
 K9 h (by omega) (Ch _) (Al _) (λ_ _ z=>absurd z (Co _)) λi x a e=>by
  have:=(Bh.mp e).1
  omega
def mm(h:Srt xs){k j:Nat}(e:xs[k]?=b0 j):below xs j=k:=by
 obtain⟨d,c,b⟩:=QE h j;rcases Fy (below xs j) k with z|z|z;obtain⟨y,a⟩: ∃y,xs[below xs j]? =b0 y:=⟨_,Bx (La z (Bh.mp e).1)⟩;exact absurd (h.lt z a e) (b _ _ (Al _) a);exact z;exact absurd (c _ _ z e) (By _)
def HZ(h:Srt t.place){k j:Nat}(e:t.place[k]?=b0 j):t.slot j=.live k:=by unfold slot;dsimp only;rw[mm h e,e];simp
def mK(b:t.dummies= #[]){j:Nat}(e:t.slot j=.live i):t.place[i]?=b0 j:=by
 rcases YI b j with z|⟨k,z,a⟩;rw[z]at e;cases e;rw[z]at e;cases e;exact a
def L0(h:Srt t.place)(b:t.dummies= #[]){j:Nat}:t.slot j≠ .empty↔j∈t.place.toList:=by
 constructor;intro z;rcases YI b j with e|⟨i,_,e⟩;exact absurd e z;obtain⟨a,e⟩:=Bh.mp e;rw[<-e];exact Ir.mpr (Nt a);intro z;obtain⟨i,a,e⟩:=Hj z;rw[HZ h (k:=i) (by rw[Bx (by simpa using a)];simpa using e)];exact λy=>(nomatch y)
def nN(h:Srt xs){j:Nat}(q:j∉xs.toList):Srt (insertAt xs (below xs j) j):=by
 obtain⟨u,t,s⟩:=QE h j;unfold Srt;rw[toList_insertAt];have g:∀x∈xs.toList.take (below xs j),x<j:=λx d=>by
  obtain⟨i,k,e⟩:=Hj d;rw[List.getElem_take]at e;have c:i<below xs j/\i<xs.size:=by simp at k;omega
  exact t i x c.1 (by rw[Bx c.2];simpa using e)
 have f:∀x∈xs.toList.drop (below xs j),j<x:=λx d=>by
  obtain⟨i,k,e⟩:=Hj d;rw[List.getElem_drop]at e;have c:below xs j+i<xs.size:=by simp at k;omega
  have a:=s (below xs j+i) x (by omega) (by rw[Bx c];simpa using e);have:x≠j:=λz=>q (z▸Iv d);omega
 have p:(xs.toList.take (below xs j)++xs.toList.drop (below xs j)).Pairwise (· < ·):=by rw[Ij];exact h
 obtain⟨o,n,m⟩:=Gx.mp p;refine Gx.mpr ⟨o,De.mpr ⟨f,n⟩,λa l b r=>?_⟩;rcases Ak.mp r with z|z;rw[z];exact g a l;exact m a l b z
def way(t:Bn)(h:Int)(n:Nat):Nat:=(advs t n (t.probeStart h)).j
structure Tb{α:Type}(t:Bn)(es:Array (Int×α)):Prop where
 ok:Ok t
 srt:Srt t.place
 size:t.place.size=es.size
 le:∀j∈t.place.toList,j<=t.mask
 way:∀p∈t.place.toList.zip es.toList,∃n,way t p.2.1 n=p.1/\∀m,m<n->way t p.2.1 m∈t.place.toList
def P9(e:t.mask=u.mask){h:Int}{n:Nat}:way t h n=way u h n:=by unfold way probeStart;rw[IS e,e]
def Tb.get{b:Type}{es:Array (Int×b)}(T:Tb t es){k:Nat}{x:Int×b}(e:es[k]?=b0 x):∃j n,t.place[k]?=b0 j/\SP.way t x.1 n=j/\∀m,m<n->SP.way t x.1 m∈t.place.toList:=by
 obtain⟨c,e⟩:=Bh.mp e;have a:k<t.place.size:=by rw[T.size];exact c
 obtain⟨n,f,d⟩:=T.way (t.place[k],x) (by
  have:(t.place.toList.zip es.toList)[k]?=b0 (t.place[k],x):=by rw[List.getElem?_zip_eq_some];exact⟨by simp[a],by simp[c,e]⟩
  exact Fg this)
 exact⟨t.place[k],n,Bx a,f,d⟩
def Tb.ahead{b:Type}{es:Array (Int×b)}(T:Tb t es){k n:Nat}{x:Int×b}(e:es[k]?=b0 x)(a:t.slot (SP.way t x.1 n)=.empty):∃m,m<n/\t.slot (SP.way t x.1 m)=.live k:=by
 obtain⟨j,m,d,c,f⟩:=T.get e;refine⟨m,?_,by rw[c];exact HZ T.srt d⟩;rcases Fy m n with z|z|z;exact z;rw[<-z,c,HZ T.srt d]at a;cases a;exact absurd a ((L0 T.srt T.ok.dum).mpr (f n z))
def BF(a:t.dummies= #[])(j:Nat):(t.put j).1.mask=t.mask/\(t.put j).1.place=insertAt t.place (below t.place j) j/\(t.put j).1.dummies= #[]/\(t.put j).2=below t.place j:=by unfold put;rw[a,fF];exact⟨rfl,rfl,rfl,rfl⟩
def AM{a:Type}{xs:Array a}{p:Nat}{x y:a}:y∈(insertAt xs p x).toList↔y=x∨y∈xs.toList:=by rw[(insertAt_perm xs p x).mem_iff];simp[or_comm]
def P5{a:Type}{xs:Array a}{p:Nat}{x:a}:(insertAt xs p x).size=xs.size+1:=by
 have:=(insertAt_perm xs p x).length_eq
 simpa using this
def rp{b a:Type}{xs:Array b}{ys:Array a}{p:Nat}{x:b}{y:a}(h:xs.size=ys.size){z:b×a}(hz:z∈(insertAt xs p x).toList.zip (insertAt ys p y).toList):z=(x,y)∨z∈xs.toList.zip ys.toList:=by
 rw[toList_insertAt,toList_insertAt,Me (by simp[h])]at hz;rw[<-Ij p xs.toList,<-Ij p ys.toList,Me (by simp[h])];rcases Bq.mp hz with z|z;exact .inr (Bw _ z);rw[Mx]at z;rcases Ak.mp z with z|z;exact .inl z;exact .inr (Be _ z)
def Tb.put{e:Type}{t:Bn}{es:Array (Int×e)}(T:Tb t es){h:Int}{x:e}{n:Nat}(i:∀m,m<n->SP.way t h m∈t.place.toList)(o:t.slot (SP.way t h n)=.empty)(room:es.size+1<=t.mask):Tb (t.put (SP.way t h n)).1 (insertAt es (t.put (SP.way t h n)).2 (h,x)):=by
 obtain⟨c,a,u,s⟩:=BF T.ok.dum (SP.way t h n);have l:SP.way t h n∉t.place.toList:=λz=>((L0 T.srt T.ok.dum).mpr z) o;have d:SP.way t h n<=t.mask:=by
  have:=(V6 (t:=t) (h:=h)).advs (n:=n)
  have:=this.j
  unfold SP.way;omega
 refine⟨⟨c▸T.ok.full,u,by rw[c,a,P5,T.size];exact room⟩,by rw[a];exact nN T.srt l,by rw[a,P5,P5,T.size],λj z=>?_,λp f=>?_⟩;rw[a]at z;rw[c];rcases AM.mp z with z|z;rw[z];exact d;exact T.le j z;rw[a,s]at f;have key:∀{g:Int}{k:Nat},(∀m,m<k->SP.way t g m∈t.place.toList)->∀m,m<k->SP.way (t.put (SP.way t h n)).1 g m∈(t.put (SP.way t h n)).1.place.toList:=λb m d=>by rw[a,P9 c];exact AM.mpr (.inr (b m d))
 rcases rp T.size f with z|z;subst z;exact⟨n,P9 c,key i⟩;obtain⟨k,r,q⟩:=T.way p z;exact⟨k,by rw[P9 c];exact r,key q⟩
theorem K8{t:Bn}{i q:Nat}:∀{r j more:Nat},r<=more->advs t r {j:=j,more:=more,i:=i,perturb:=q,dummy:=b4}={j:=j+r,more:=more-r,i:=i,perturb:=q,dummy:=b4}
 |0,j,more,_=>rfl
 |r+1,j,more,h=>by
  show advs t r (t.advance _)=_;have:t.advance {j:=j,more:=more,i:=i,perturb:=q,dummy:=b4}={j:=j+1,more:=more-1,i:=i,perturb:=q,dummy:=b4}:=by unfold advance;simp only[gt_iff_lt,show 0<more by omega,if_true]
  rw[this,K8 (by omega)];congr 1<;>omega
def qX{q more j:Nat}:advs t (more+1) {j:=j,more:=more,i:=i,perturb:=q,dummy:=b4}=P6 t.mask (leap t.mask i q).1 (leap t.mask i q).2:=by rw[UH,K8 (Al _),Nat.sub_self];rfl
def Tk(o:Array (Option Nat))(j:Nat):Prop:=∃i,o[j]?=b0 (b0 i)
def JR{o:Array (Option Nat)}{j:Nat}(a:j<o.size)(h:¬(o.getD j (b0 0)).isNone=ba):Tk o j:=by
 have e:o[j]?=b0 o[j]:=Bx a;rw[Cc,e]at h;cases z:o[j]with
 |none=>rw[z]at h;exact absurd rfl h
 |some i=>exact⟨i,by rw[e,z]⟩
theorem JL{t:Bn}{o:Array (Option Nat)}(u:o.size=t.mask+1):∀{xi i q j:Nat},i<=t.mask->layClean.free t.mask o xi i q=b0 j->∃n,(advs t n (P6 t.mask i q)).j=j/\o[j]?=b0 b4/\∀m,m<n->Tk o (advs t m (P6 t.mask i q)).j
 |0,_,_,_,_,e=>nomatch e
 | xi + 1,i,q,j,v,e => by
  unfold layClean.free at e;have w:i+(runEnd t.mask i-i)<=t.mask:=DT v;have s:i<=runEnd t.mask i:=by unfold runEnd;split<;>omega
  have at_:∀r,r<runEnd t.mask i+1-i->(advs t r (P6 t.mask i q)).j=i+r:=λr h=>by unfold P6;rw[K8 (by omega)]
  split at e;rename_i k c;cases e;obtain⟨a,f,d⟩:=List.find?_range_eq_some.mp c;have b:=Bj.mp f;have p:o[i+k]?=b0 o[i+k]:=Bx (by omega);refine⟨k,at_ k b,?_,λm g=>?_⟩;rw[Cc,p]at a;rw[p];simpa using a
  rw [at_ m (by omega)];have q:(!(o.getD (i+m) (b0 0)).isNone)=ba:=d m g;exact JR (by omega) (λz=>by rw[z]at q;cases q);rename_i c;have hl:(leap t.mask i q).1<=t.mask:=Ex (Lv _ (Jk _));have e:layClean.free t.mask o xi (leap t.mask i q).1 (leap t.mask i q).2=b0 j:=e;obtain⟨n,a,f,d⟩:=JL u hl e;have l:=qX (t:=t) (i:=i) (q:=q) (more:=runEnd t.mask i-i) (j:=i);refine⟨runEnd t.mask i-i+1+n,?_,f,λm g=>?_⟩;unfold P6;rw[UH,l];exact a;by_cases z:m<runEnd t.mask i+1-i;rw[at_ m z];have q:(!(o.getD (i+m) (b0 0)).isNone)=ba:=Nu.mp c m z;exact JR (by omega) (λz=>by rw[z]at q;cases q);have := d (m-(runEnd t.mask i-i + 1)) (by omega);rw[<-l,<-UH,show runEnd t.mask i-i+1+(m-(runEnd t.mask i-i+1))=m by omega]at this;exact this
theorem JM{m:Nat}{o:Array (Option Nat)}:∀{n xi i q:Nat},n<xi->o[(C6 m n (i,q)).1]?=b0 b4->∃j,layClean.free m o xi i q=b0 j
 |n,0,_,_,h,_=>absurd h (Co _)
 | n,xi + 1,i,q,h,e => by
  unfold layClean.free;split;exact⟨_,rfl⟩
  ·rename_i b
   cases n with
   |zero=>
    have a:i<=runEnd m i:=by unfold runEnd;split<;>omega
    have:=Nu.mp b 0 (by omega)
    have e:o[i]?=b0 b4:=e;simp[Cc,e]at this
   |succ n=>exact JM (n:=n) (by omega) e
noncomputable def C5(m:Nat):List Int->Array (Option Nat)×Nat->Option (Array (Option Nat)×Nat)
 |[],s=>b0 s
 |h::a,s=>(layClean.free m s.1 (turns m) (bits h % (m+1)) (bits h)).bind λj=>C5 m a (s.1.setIfInBounds j (b0 s.2),s.2+1)
theorem JU{m:Nat}:∀{hs:List Int},hs.foldl (λ(xh:Option (Array (Option Nat)×Nat)) h=>do
  let (owner,k)<-xh
  let j<-layClean.free m owner (turns m) (bits h % (m+1)) (bits h)
  pure (owner.setIfInBounds j (b0 k),k+1)) b4=b4
 |[]=>rfl
 |h::hs=>JU (hs:=hs)
theorem AF{m:Nat}:∀{hs:List Int}{s:Array (Option Nat)×Nat},hs.foldl (λ(xh:Option (Array (Option Nat)×Nat)) h=>do
  let (owner,k)<-xh
  let j<-layClean.free m owner (turns m) (bits h % (m+1)) (bits h)
  pure (owner.setIfInBounds j (b0 k),k+1)) (b0 s)=C5 m hs s
 |[],s=>rfl
 |h::hs,s=>by
  obtain⟨o,k⟩:=s;unfold C5;rw[Ge];cases e:layClean.free m o (turns m) (bits h % (m+1)) (bits h)with
  |none=>simp only[bind,Um,e];exact JU
  |some j=>simp only[bind,Um,e,pure];exact AF
def EX{m:Nat}{hs:Array Int}:layClean m hs=(C5 m hs.toList (Jy (m+1) b4,0)).map (·.1):=by unfold layClean;rw[<-Array.foldl_toList,AF]
structure TY(t:Bn)(o:Array (Option Nat))(gs:List Int):Prop where
 size:o.size=t.mask+1
 lt:∀(j i:Nat),o[j]?=b0 (b0 i)->i<gs.length
 one:∀(j j' i:Nat),o[j]?=b0 (b0 i)->o[j']?=b0 (b0 i)->j=j'
 all:∀i:Nat,i<gs.length->∃j:Nat,o[j]?=b0 (b0 i)
 way:∀(j i:Nat) (h:Int),o[j]?=b0 (b0 i)->gs[i]?=b0 h->∃n,way t h n=j/\∀m,m<n->Tk o (way t h m)
def TY.hole{o:Array (Option Nat)}{b:List Int}(W:TY t o b)(hl:b.length<=t.mask):∃j:Nat,j<=t.mask/\o[j]?=b0 b4:=by
 by_cases z:∃j:Nat,j<=t.mask/\o[j]?=b0 b4;exact z;have := pig (l := Ao (t.mask + 1)) (m := (Ao b.length).map λi => if h : i < b.length then Tj (W.all i h)else 0) Jb λj a => by
  have a:=Bj.mp a;have c:j<o.size:=by rw[W.size];exact a
  have e:o[j]?=b0 o[j]:=Bx c;cases y:o[j]with
  |none=>exact absurd ⟨j,Ex a,by rw[e,y]⟩ z
  |some i=>
   rw[y]at e;have d:=W.lt j i e;refine Aw.mpr ⟨i,Bj.mpr d,?_⟩;rw[dif_pos d];exact W.one _ _ i (Lc (W.all i d)) e
 simp only[Hd,Bf]at this;omega
def TY.step{o:Array (Option Nat)}{d:List Int}(W:TY t o d)(r:QC t.mask)(hl:d.length<=t.mask)(h:Int):∃j,layClean.free t.mask o (turns t.mask) (bits h % (t.mask+1)) (bits h)=b0 j/\TY t (o.setIfInBounds j (b0 d.length)) (d++[h]):=by
 obtain⟨L,C,B⟩:=W.hole hl;have z:bits h % (t.mask+1)<=t.mask:=Ex (Lv _ (Jk _));obtain⟨n,K,D⟩:=met r (p:=(bits h % (t.mask+1),bits h)) z (eG h) C;obtain⟨j,A⟩:=JM (m:=t.mask) (o:=o) (n:=n) (xi:=turns t.mask) (i:=bits h % (t.mask+1)) (q:=bits h) (by unfold turns;omega) (by rw[D];exact B);refine⟨j,A,?_⟩;obtain⟨k,F,u,E⟩:=JL W.size z A;have G:j<o.size:=(Bh.mp u).1;have l:(o.setIfInBounds j (b0 d.length))[j]?=b0 (b0 d.length):=by rw[Lr,if_pos rfl,if_pos G]
 have f:∀a,a≠j->(o.setIfInBounds j (b0 d.length))[a]?=o[a]? :=λa H=>by rw[Lr,if_neg (Dg H)]
 have x:∀a,Tk o a->Tk (o.setIfInBounds j (b0 d.length)) a:=λa q0=>by
  obtain⟨i,e⟩:=q0;by_cases y:a=j;rw[y,u]at e;cases e;exact⟨i,by rw[f a y];exact e⟩
 refine⟨by rw[Array.size_setIfInBounds,W.size],λa i e=>?_,λa b i e c=>?_,λi w=>?_,λa i g e c=>?_⟩;rw[Bm,Ea];by_cases y:a=j;rw[y,l]at e;cases e;omega;rw[f a y]at e;have:=W.lt a i e;omega
 ·by_cases y:a=j<;>by_cases s:b=j
  rw[y,s];rw[y,l]at e;cases e;rw[f b s]at c;exact absurd (W.lt b _ c) (By _);rw[s,l]at c;cases c;rw[f a y]at e;exact absurd (W.lt a _ e) (By _);rw[f a y]at e;rw[f b s]at c;exact W.one a b i e c
 rw[Bm,Ea]at w;by_cases y:i=d.length;exact⟨j,by rw[l,y]⟩;obtain ⟨a,e⟩ := W.all i (by omega);refine⟨a,?_⟩;rw[f a λy=>by rw[y,u]at e;cases e];exact e;by_cases y:a=j;rw[y,l]at e;cases e;rw[Dk (Al _),Nat.sub_self]at c;cases c;exact⟨k,by rw[y];exact F,λm v=>x _ (E m v)⟩;rw[f a y]at e;rw[Ax (W.lt a i e)]at c;obtain⟨n,J,I⟩:=W.way a i g e c;exact⟨n,J,λm v=>x _ (I m v)⟩
theorem TY.lay(a:QC t.mask):∀{hs:List Int}{o:Array (Option Nat)}{b:List Int},TY t o b->b.length+hs.length<=t.mask->∃c,C5 t.mask hs (o,b.length)=b0 (c,(b++hs).length)/\TY t c (b++hs)
 |[],o,b,W,_=>⟨o,by rw[Fm];rfl,by rw[Fm];exact W⟩
 |h::hs,o,b,W,hl=>by rw[Ba]at hl;obtain⟨j,e,g⟩:=W.step a (by omega) h;obtain⟨c,d,f⟩:=TY.lay a (hs:=hs) g (by rw[Bm,Ea];omega);rw[Cr]at d f;refine⟨c,?_,f⟩;unfold C5;rw[e,An];rw[Bm,Ea]at d;exact d
def kK:TY t (Jy (t.mask+1) b4) []:=by
 have no:∀j i,(Jy (t.mask+1) (b4:Option Nat))[j]?=b0 (b0 i)->False:=λj i e=>by rw[Array.getElem?_replicate]at e;split at e<;>cases e
 exact⟨Array.size_replicate,λj i e=>(no j i e).elim,λj _ i e=>(no j i e).elim,λi h=>absurd h (Co _),λj i _ e=>(no j i e).elim⟩
theorem AS:∀{l m:List Nat},l.Nodup->m.Nodup->(∀x,x∈l↔x∈m)->l.Perm m
 |[],m,_,_,h=>by
  cases m with
  |nil=>exact .nil
  |cons a m=>exact absurd ((h a).mpr Ag) (by simp)
 | x :: l,m,hl,c,h => by
  obtain⟨g,f⟩:=Ct.mp hl;have d:=(h x).mp Ag;refine .trans (.cons x (AS f (c.erase x) λy=>?_)) (Qr d).symm;rw[c.mem_erase_iff];constructor;intro b;exact⟨λe=>g (e▸b),(h y).mp (Ai _ b)⟩;intro ⟨n,b⟩;rcases Ak.mp ((h y).mpr b)with e|e;exact absurd e n;exact e
def live(m:Nat)(o:Array (Option Nat)):List (Nat×Nat):=(Ao (m+1)).filterMap λj=>(o.getD j b4).map (j,·)
def VV{m:Nat}{o:Array (Option Nat)}(h:o.size=m+1){j:Nat}:(j,i)∈live m o↔o[j]?=b0 (b0 i):=by
 unfold live;rw[Mu];constructor;rintro ⟨a,_,e⟩;obtain⟨b,c,d⟩:=Am.mp e;cases d;rw[Cc]at c;cases z:o[j]? with
 |none=>rw[z]at c;cases c
 |some w=>rw[z]at c;rw[show w=b0 i from c]
 intro e;refine⟨j,Bj.mpr (by rw[<-h];exact(Bh.mp e).1),?_⟩;rw[Cc,e];rfl
def AH{m:Nat}{o:Array (Option Nat)}:(live m o).Pairwise (λa b=>a.1<b.1):=by unfold live;rw[List.pairwise_filterMap];refine List.pairwise_lt_range.imp ?_;intro a b c x e y d;obtain⟨_,_,rfl⟩:=Am.mp e;obtain⟨_,_,rfl⟩:=Am.mp d;exact c
def TY.perm{o:Array (Option Nat)}{d:List Int}(W:TY t o d):((live t.mask o).map (·.2)).Perm (Ao d.length):=by
 refine AS ?_ Jb λi=>?_;refine Fj.mpr (AH.imp_of_mem ?_);intro a b l h k e;have m:=(VV W.size).mp l;have c:=(VV W.size).mp h;rw[<-e]at c;have:=W.one _ _ _ m c;omega;rw[Bj,Aw];constructor;rintro ⟨p,f,rfl⟩;exact W.lt _ _ ((VV W.size).mp f);intro g;obtain⟨j,e⟩:=W.all i g;exact⟨(j,i),(VV W.size).mpr e,rfl⟩
def FQ{b:Type}(es:Array b):(Ao es.size).filterMap (λi=>es[i]?)=es.toList:=by
 have:(Ao es.size).filterMap (λi=>es[i]?)=(Ao es.size).filterMap (λi=>es.toList[i]?):=by simp
 rw[this];have c:∀(l:List b),(Ao l.length).filterMap (λi=>l[i]?)=l:=λl=>by
  induction l with
  |nil=>rfl
  |cons a l d=>
   rw[Ba,Fh,Hh,Rq];show a::_=_;congr 1
 simpa using c es.toList
def tm(m:Nat):Bn:=⟨m,#[],#[],0,ba,0,ba⟩
def zCT{h:Int}{n:Nat}:way u h n=way (tm u.mask) h n:=P9 (t:=u) (u:=tm u.mask) (by rfl)
def AE{A:Type}{es:Array (Int×A)}{m f mv:Nat}{led pl:Bool}(c:QC m)(room:es.size<=m):∃(u:Bn) (ord:Array Nat),laid m f mv led pl (es.map (·.1))=b0 (u,ord)/\u.mask=m/\u.led=led/\u.plain=pl/\Tb u (ord.filterMap λi=>es[i]?)/\(ord.filterMap λi=>es[i]?).toList.Perm es.toList/\ord.toList.Perm (Ao es.size):=by
 have K:TY (tm m) (Jy (m+1) b4) []:=kK;obtain⟨o,e,W⟩:=K.lay c (hs:=(es.map (·.1)).toList) (show[].length+((es.map (·.1)).toList).length<=m by simpa using room);rw[Bg]at e W;have len:((es.map (·.1)).toList).length=es.size:=by simp
 refine⟨{mask:=m,place:=((live m o).map (·.1)).toArray,dummies:= #[],finger:=f,led:=led,moves:=mv,plain:=pl},((live m o).map (·.2)).toArray,?_,rfl,rfl,rfl,?_,?_⟩;unfold laid;rw[EX];have e:C5 m (es.map (·.1)).toList (Jy (m+1) b4,0)=_:=e;rw[e];rfl;have b:=W.perm;rw[len]at b;have b:((live m o).map (·.2)).Perm (Ao es.size):=b;have I:∀l:List (Nat×Nat),(∀p∈l,p.2<es.size)->∀q∈(l.map (·.1)).zip ((l.map (·.2)).filterMap λi=>es[i]?),∃i x,(q.1,i)∈l/\es[i]?=b0 x/\q.2=x:=λl=>by
  induction l with
  |nil=>intro _ q g;cases g
  |cons a l D=>
   intro h q g;have H:=h a Ag;have y:es[a.2]?=b0 es[a.2]:=Bx H;rw[Av,Av,Hh,y,Mx]at g;rcases Ak.mp g with z|z;exact⟨a.2,_,by rw[z];exact Ag,y,by rw[z]⟩;obtain ⟨i,x,d,w,v⟩ := D (λp b => h p (Ai _ b)) q z;exact⟨i,x,Ai _ d,w,v⟩
 have t:∀p∈live m o,p.2<es.size:=λp s=>Bj.mp (b.mem_iff.mp (Jg s));have sz:(live m o).length=es.size:=by simpa using b.length_eq
 have r:(((live m o).map (·.2)).filterMap λi=>es[i]?).length=es.size:=by
  have:=(b.filterMap λi=>es[i]?).length_eq
  rw[FQ]at this;simpa using this
 refine⟨⟨c,rfl,by simpa[sz]using room⟩,?_,?_,λj G=>?_,λp b=>?_⟩;unfold Srt;simpa[Fj]using(AH (m:=m) (o:=o))
 simpa[sz]using r.symm
 obtain ⟨p,b,rfl⟩ := Aw.mp (show j ∈ (live m o).map (·.1) by simpa using G);have:=(Bh.mp ((VV (j:=p.1) (i:=p.2) W.size).mp b)).1
 have:o.size=m+1:=W.size
 show p.1<=m;omega;obtain ⟨i,x,d,w,v⟩ := I _ t p (by simpa using b);have d:=(VV W.size).mp d;obtain⟨n,C,B⟩:=W.way p.1 i x.1 d (by simp[w]);rw[v];refine⟨n,zCT.trans C,λk F=>?_⟩;obtain⟨E,J⟩:=B k F;have:(way (tm m) x.1 k,E)∈live m o:=(VV W.size).mpr J;refine Aw.mpr ⟨_,this,?_⟩;exact Eq.symm (show way _ x.1 k=way (tm m) x.1 k from zCT);have b:=W.perm;rw[len]at b;have:=(show((live m o).map (·.2)).Perm (Ao es.size) from b).filterMap λi=>es[i]?;rw[FQ]at this;exact⟨by simpa using this,b⟩
theorem eM{t:Bn}{hs:Nat->Int}{h:Int}(c:t.dummies= #[])(b:∀i,hs i≠h):∀{xi:Nat}{p:Probe}{x:Met},p.dummy=b4->probe.go t hs h xi p=b0 x->∃n,n<xi/\t.slot (advs t n p).j=.empty/\∀k,k<n->∃i,t.slot (advs t k p).j=.live i
 |0,_,_,_,e=>nomatch e
 | xi + 1,p,x,d,e => by
  unfold probe.go at e;rcases YI c p.j with z|⟨i,z,_⟩;exact⟨0,Jk _,z,λk a=>absurd a (Co _)⟩
  ·simp only[z]at e
   rw[if_neg (by simpa using b i)]at e;have l:(t.advance p).dummy=b4:=by unfold advance;split<;>exact d
   obtain⟨n,m,g,f⟩:=eM c b l e;refine⟨n+1,by omega,g,λk a=>?_⟩;cases k with
   |zero=>exact⟨i,z⟩
   |succ k=>exact f k (by omega)
def Ok.first(ok:Ok t)(h:Int):∃n,n<10*(t.mask+15)/\t.slot (way t h n)=.empty/\∀k,k<n->∃i,t.slot (way t h k)=.live i:=by obtain⟨x,e⟩:=ok.probeW (λ_=>h+1) h (V6 (t:=t) (h:=h));exact eM ok.dum (λ_=>by omega) V6.d e
end
section
variable{prog:Az}{w:Wv}{A:Bz}{E:Wr->Af->Prop}{s:Af}
theorem NZ{a:Ws}{o:Xc}{es:Array (Int×Wr)}{ep:Nat}{t:Bn}{x:Wr}{h:Int}{N:Nat}{eqv:Wr->Bool}{Q:SetFound->Af->Prop}(K:s.heap.get? a=b0 o)(L:o.data=.set es ep t)(T:Tb t es)(Y:t.gaveWay=bb)(I:∀e∈es.toList,e.1=h->(∃r,e.2=.ref r)/\∀R:Bool->Af->Prop,R (eqv e.2) s->Wt (Wu prog w) A (eqBool e.2 x) R E s)(W:t.led=bb->∀R:Bool->Af->Prop,R bb s->Wt (Wu prog w) A (Kn x ((es.filter (·.1==h)).toList.map (·.2))) R E s)(S:(∃e∈es.toList,e.1=h/\eqv e.2=ba)->Q (.there b4) s)(h2:(∀e∈es.toList,e.1=h->eqv e.2=bb)->Q (.free (way t h N) bb) s)(G:t.slot (way t h N)=.empty)(U:∀k,k<N->∃i,t.slot (way t h k)=.live i):∀{xi n:Nat}{st:Option Probe},N-n<xi->n<=N->st.getD (t.probeStart h)=advs t n (t.probeStart h)->(∀k i e,k<n->t.slot (way t h k)=.live i->es[i]?=b0 e->e.1=h->eqv e.2=bb)->Wt (Wu prog w) A (Ry a x h ba xi st) Q E s
 |0,n,st,Z,_,_,_=>absurd Z (Co _)
 | xi + 1,n,st,Z,hn,VC,l => by
  have fits:t.fits es.size=ba:=by
   unfold Vq Rz;rw[T.ok.dum];have:=T.ok.room;simp[T.size];rw[<-T.size];exact this
  unfold Ry;refine Aa (Cs K L fits ?_);dsimp only;rw[Y];simp only[Aj,↓reduceIte];obtain⟨y,ey⟩:=T.ok.probeW (λi=>(es[i]?.map (·.1)).getD 0) h ((V6 (t:=t) (h:=h)).advs (n:=n));rw[VC];erw[ey];have D:∀k,(advs t k (advs t n (t.probeStart h))).j=way t h (n+k):=λk=>by rw[<-UH];rfl
  have dh:∀{i j:Nat},t.slot j=.live i->∃e,es[i]?=b0 e:=λ{i j} e=>by
   have:=(Bh.mp (mK T.ok.dum e)).1
   exact⟨_,Bx (by rw[<-T.size];exact this)⟩
  cases DN T.ok.dum (V6.advs (n:=n)).d ey with
  |empty B b e=>
   dsimp only;rw[D]at e⊢;have hN:n+B=N:=by
    rcases Fy (n+B) N with z|z|z;obtain⟨i,y⟩:=U _ z;rw[e]at y;cases y;exact z;obtain ⟨i,y,_⟩ := b (N-n) (by omega);rw[D,show n+(N-n)=N by omega,G]at y;cases y
   rw[hN];refine Ad (h2 λO f F=>?_);obtain⟨k,X,J⟩:=Hj f;have J:es[k]?=b0 O:=by rw[Bx (by simpa using X)];simpa using J
   obtain⟨m,m1,m2⟩:=T.ahead (n:=N) J (by rw[F];exact G);rw[F]at m2;by_cases z:m<n;exact l m k O z m2 J F;obtain ⟨i,y,g⟩ := b (m-n) (by omega);rw[D,show n+(m-n)=m by omega,m2]at y;cases y;rw[J]at g;exact absurd F g
  |cand B i b e g=>
   have e0:=e;rw[D]at e;obtain⟨⟨M,v⟩,q⟩:=dh e;have F:M=h:=by rw[q]at g;exact g
   subst F;have C:(M,v)∈es.toList:=by obtain⟨hi,q⟩:=Bh.mp q;rw[<-q];exact Ir.mpr (Nt hi)
   have hN:n+B<N:=by
    rcases Fy (n+B) N with z|z|z;exact z;rw[z,G]at e;cases e;obtain ⟨i,y,_⟩ := b (N-n) (by omega);rw[D,show n+(N-n)=N by omega,G]at y;cases y
   obtain⟨⟨r,V⟩,P⟩:=I _ C rfl;dsimp only at V P⊢;subst V;have u:eqv (.ref r)=bb->Wt (Wu prog w) A (Ry a x M ba xi (b0 (advs t (B+1) (advs t n (t.probeStart M))))) Q E s:=λc=>
    NZ K L T Y I W S h2 G U (n := n + B + 1) (by omega) (by omega) (by rw [<- UH];rfl) λk i' O X p f H => by
     by_cases z:k<n;exact l k i' O z p f H;by_cases z2:k=n+B;rw[z2,e]at p;cases p;rw[q]at f;cases f;exact c;obtain ⟨i2,y,g2⟩ := b (k-n) (by omega);rw[D,show n+(k-n)=k by omega,p]at y;cases y;rw[f]at g2;exact absurd H g2
   cases hl:t.led;all_goals simp only[Fv,Cn,Aj,↓reduceIte]
   refine Aa (W hl _ ?_);simp only[Aj,↓reduceIte];rw[q];dsimp only;refine Aa (Bu (P _ ?_));refine Aa (Cs K L fits ?_);dsimp only;cases c:eqv (.ref r);simp only[Hr,Aj,↓reduceIte];rw[show t.sameMemory t.moves t.mask=b0 ba by simp[sameMemory]];simp only[↓reduceIte];rw[e0];dsimp only;rw[q];dsimp only;refine Aa (Qb (Aa (Ad ?_)));exact u c;exact Ad (S ⟨_,C,rfl,c⟩);rw[q];dsimp only;refine Aa (Bu (P _ ?_));refine Aa (Cs K L fits ?_);dsimp only;cases c:eqv (.ref r);simp only[Hr,Aj,↓reduceIte];rw[show t.sameMemory t.moves t.mask=b0 ba by simp[sameMemory]];simp only[↓reduceIte];rw[e0];dsimp only;rw[q];dsimp only;refine Aa (Qb (Aa (Ad ?_)));exact u c;exact Ad (S ⟨_,C,rfl,c⟩)
end
inductive Msk(n:Nat):Nat->Prop
 |a:n<=4->Msk n 7
 |b:n<=18->Msk n 31
 |c:n<=76->Msk n 127
 |d:n<=306->Msk n 511
def Msk.odd{n m:Nat}(h:Msk n m):m % 2=1:=by cases h<;>rfl
def Msk.le{n m:Nat}(h:Msk n m):n+1<=m/\m<=511:=by cases h<;>omega
def Msk.next{n m:Nat}(h:Msk n m)(f:n<300):(¬(n+1)*5≥m*3/\Msk (n+1) m)∨((n+1)*5≥m*3/\∃e,sizeAbove (grown (n+1))=e+1/\QC e/\Msk (n+1) e/\e<=511):=by
 cases h with
 |a h=>
  by_cases z:n=4;subst z;exact .inr ⟨by decide,31,by decide,pj,.b (by decide),by decide⟩;exact .inl ⟨by omega,.a (by omega)⟩
 |b h=>
  by_cases z:n=18;subst z;exact .inr ⟨by decide,127,by decide,jQ,.c (by decide),by decide⟩;exact .inl ⟨by omega,.b (by omega)⟩
 |c h=>
  by_cases z:n=76;subst z;exact .inr ⟨by decide,511,by decide,rJ,.d (by decide),by decide⟩;exact .inl ⟨by omega,.c (by omega)⟩
 |d h=>exact .inl ⟨by omega,.d (by omega)⟩
structure Gd{α:Type}(t:Bn)(es:Array (Int×α)):Prop where
 tb:Tb t es
 msk:Msk es.size t.mask
def WK{a:Type}{t:Bn}{es:Array (Int×a)}(T:Tb t es):t.fits es.size=ba:=by
 unfold Vq Rz;rw[T.ok.dum];have:=T.ok.room;simp[T.size];rw[<-T.size];exact this
section
variable{prog:Az}{w:Wv}{A:Bz}{E:Wr->Af->Prop}{s:Af}
def FW(a:Ws)(c:Nat):setRelay a c=(do
  let (es,_,t)<-setState a
  if Sa c>sizeLine then Ko "set:memory"
  let (es,t)<-(do
   let b0 (t,order):=t.relaid (es.map (·.1)) c|Ko "internal:set-table-without-room"
   let b:=order.filterMap (es[·]?)
   if b.size !=es.size then Ko "internal:set-table-lost-an-element"
   pure (b,t):Xi (Array (Int×Wr)×Bn))
  storeSet a es t):=rfl
def kJ{a:Ws}{o:Xc}{es:Array (Int×Wr)}{ep:Nat}{t:Bn}{m d:Nat}{Q:Unit->Af->Prop}(g:s.heap.get? a=b0 o)(k:o.data=.set es ep t)(T:Tb t es)(hw:Sa d=m+1)(c:QC m)(l:m+1<=sizeLine)(room:es.size<=m)(h:∀b t',b.toList.Perm es.toList->Tb t' b->t'.mask=m->t'.led=t.led->t'.plain=t.plain->Q () {s with heap:=s.heap.update a (Qm b t')}):Wt (Wu prog w) A (setRelay a d) Q E s:=by
 rw[FW];refine Aa (Cs g k (WK T) ?_);dsimp only;rw[hw,if_neg (Nat.not_lt.mpr l)];obtain⟨u,ord,e,q,p,n,v,P,_⟩:=AE (es:=es) (m:=m) (f:=t.finger) (mv:=t.movedTo m) (led:=t.led) (pl:=t.plain) c room;have r:t.relaid (es.map (·.1)) d=b0 (u,ord):=by unfold relaid;rw[hw];exact e
 rw[r];have sz:(ord.filterMap λi=>es[i]?).size=es.size:=by
  have:=P.length_eq
  rwa[Dm,Dm]at this
 dsimp only;refine Aa ?_;rw[if_neg (by rw[sz];simp)];refine Ad (Kp g k (h _ u P v q p n) ?_);show(ord.filterMap λi=>es[i]?).size<=sizeLine;omega
def VL{a:Ws}{e:Wz}{o0:Xc}{d b:Array (Int×Wr)}{f:Nat}{g c:Bn}(q1:e.get? a=b0 o0)(q2:o0.data=.set d f g):(e.update a (Qm b c)).get? a=b0 {o0 with data:=.set b (f+1) c}:=by
 have:=Et (Qm b c) q1 (by rw[putSet_of b c q2];rfl)
 rw[putSet_of b c q2]at this;exact this
def BE{t:Bn}{es:Array (Int×Wr)}{h:Int}{v:Wr}{N:Nat}(G:Gd t es)(j:t.slot (way t h N)=.empty)(g:∀k,k<N->∃i,t.slot (way t h k)=.live i):∃b a,(t.put (way t h N)).1=b/\insertAt es (t.put (way t h N)).2 (h,v)=a/\Tb b a/\a.size=es.size+1/\a.toList.Perm (es.toList++[(h,v)])/\b.led=t.led/\b.plain=t.plain/\b.mask=t.mask/\b.tooFull=decide ((es.size+1)*5≥t.mask*3):=by have T:=G.tb;obtain⟨c,n,e,l⟩:=BF T.ok.dum (way t h N);have d:Tb (t.put (way t h N)).1 (insertAt es (t.put (way t h N)).2 (h,v)):=T.put (λm f=>(L0 T.srt T.ok.dum).mp λy=>by obtain⟨i,q⟩:=g m f;rw[y]at q;cases q) j G.msk.le.1;have sz:(insertAt es (t.put (way t h N)).2 (h,v)).size=es.size+1:=P5;refine⟨_,_,rfl,rfl,d,sz,by simpa using insertAt_perm es (t.put (way t h N)).2 (h,v),rfl,rfl,c,?_⟩;unfold SetTable.tooFull Rz;rw[e,c,d.size,sz];rfl
def jx{a:Ws}{o:Xc}{es:Array (Int×Wr)}{ep:Nat}{t:Bn}{r:Ws}{h:Int}{eqv:Wr->Bool}{Q:Bool->Af->Prop}(c:s.heap.get? a=b0 o)(d:o.data=.set es ep t)(G:Gd t es)(l:es.size<300)(m:∀e∈es.toList,e.1=h->(∃r,e.2=.ref r)/\∀R:Bool->Af->Prop,R (eqv e.2) s->Wt (Wu prog w) A (eqBool e.2 (.ref r)) R E s)(S:t.led=bb->∀R:Bool->Af->Prop,R bb s->Wt (Wu prog w) A (Kn (.ref r) ((es.filter (·.1==h)).toList.map (·.2))) R E s)(O:∀R:Bool->Af->Prop,R ba s->Wt (Wu prog w) A (Ff 8 (.ref r)) R E s)(V:(∃e∈es.toList,e.1=h/\eqv e.2=ba)->Q bb s)(B:(∀e∈es.toList,e.1=h->eqv e.2=bb)->∀h' b p t',Dw a s.heap h'->h'.get? a=b0 {o with data:=.set b p t'}->Gd t' b->b.toList.Perm (es.toList++[(h,.ref r)])->t'.led=t.led->t'.plain=t.plain->Q ba {s with heap:=h'}):Wt (Wu prog w) A (Jl a (.ref r) h) Q E s:=by
 have T:=G.tb;have fits:=WK T;obtain⟨N,b1,F,D⟩:=T.ok.first h;have M:=G.msk.le;have W:t.gaveWay=bb:=by unfold SetTable.gaveWay;rw[G.msk.odd];rfl
 unfold Jl;refine Bu ?_;unfold setAddHashedIn;refine Aa (Cs c d fits ?_);dsimp only;rw[show byScan (.ref r) es=bb from rfl];simp only[Aj,↓reduceIte];refine Aa (NZ c d T W m S (N:=N) (n:=0) (λz=>Ad (V z)) (λz=>?_) F D (by omega) (Ch _) rfl λk i e U=>absurd U (Co _));dsimp only;refine Aa (Cs c d fits ?_);dsimp only;have body:Wt (Wu prog w) A (do
   storeSet a (insertAt es (t.put (way t h N)).2 (h,Bb r)) (t.put (way t h N)).1
   if(!false&&(t.put (way t h N)).1.tooFull)=ba then do
    setRelay a (grown (es.size+1))
    pure ba
   else pure ba) Q E s:=by
  obtain⟨g,f,J,I,H,sz,u,y,x,L,K⟩:=BE (v:=.ref r) G F D;rw[J,I];have z0:(1000:Nat)<=sizeLine:=by decide
  refine Aa (Kp c d ?_ (by rw[sz];omega));have C:=Ec s.heap a (Qm f g);rw[K];rcases G.msk.next l with⟨q1,q2⟩|⟨q1,m',q2,q3,q,q5⟩;rw[decide_eq_false q1];simp only[Fv,Hr,Aj,↓reduceIte];exact Ad (B z _ f _ g C (VL c d) ⟨H,by rw[sz,L];exact q2⟩ u y x);rw[decide_eq_true q1];simp only[Fv,Vr,↓reduceIte];refine Aa (kJ (VL c d) rfl H q2 q3 (by omega) (by rw[sz];have:=q.le;omega) λb t' P T' Z Y X=>Ad ?_);have j:b.size=es.size+1:=by rw[<-sz];simpa using P.length_eq
  exact B z _ b _ t' (C.trans (Ec _ a _)) (VL (o0:={o with data:=.set f (ep+1) g}) (VL c d) rfl) ⟨T',by rw[j,Z];exact q⟩ (P.trans u) (Y.trans y) (X.trans x)
 split;exact Aa (O _ (by simp only[↓reduceIte];exact body));exact Aa (Ad (by simp only[↓reduceIte];exact body))
end
section
variable{prog:Az}{w:Wv}{A:Bz}{E:Wr->Af->Prop}{s:Af}
abbrev IT(prog:Az)(w:Wv)(h:Wz)(ks:List Int)(a:Ws):Prop:=IsTupleKey (intKind prog w) h ks a
section
variable{ks:List Int}{vs:List Wr}{a:Ws}{Q:Bool->Af->Prop}
def M3(h:ItemsAre (intKind prog w) ks vs):∀v∈vs,∃n t,v=.int n t:=by
 induction h with
 |nil=>intro v b;cases b
 | @cons k v ks vs d _ a=>
  intro u c;rcases Ak.mp c with z|z;subst z;obtain⟨t,e⟩:=Eg d;exact⟨_,t,e⟩;exact a u z
def k9(f:IT prog w s.heap ks a)(h:Q ba s):Wt (Wu prog w) A (Ff 8 (.ref a)) Q E s:=by
 have p:=f.typeIs;obtain⟨o,c,n,j,_,l,k⟩:=f;unfold Ff;refine Aa (Fd p F.slot_tuple_hash.lookup ?_);dsimp only;refine Aa (Cy j l ?_);refine Aa ?_;show Wt _ _ (forIn c _ _) _ _ s;rw[<-Ek];refine Gj _ (λb r d=>r.1=b4/\d=s/\∀v∈b,∃n t,v=Kx n t) _ ?_ ?_ _ _ ⟨rfl,rfl,M3 k⟩;rintro v b r d ⟨e,rfl,g⟩;obtain⟨m,t,rfl⟩:=g v Ag;rw[show Ff 7 (.int m t)=pure ba by unfold Ff;rfl];refine Aa (Ad ?_);simp only[Cn,Aj,↓reduceIte];exact Ad ⟨rfl,rfl,λu i=>g u (Ai _ i)⟩;rintro ⟨x,q⟩ d ⟨e,rfl,_⟩;simp only at e;subst e;exact Ad h
def rk(f:IT prog w s.heap ks a)(h:Q bb s):Wt (Wu prog w) A (Dv 8 (.ref a)) Q E s:=by
 have p:=f.typeIs;obtain⟨o,d,n,j,_,l,k⟩:=f;unfold Dv;refine Aa (Fn p ?_);dsimp only;simp only[beq_self_eq_true,↓reduceIte,pure_bind,Cn,Aj];refine Aa (Cy j l ?_);dsimp only;refine Aa ?_;rw[<-Ek];refine Gj _ (λb r c=>r.1=b4/\c=s/\∀v∈b,∃n t,v=Kx n t) _ ?_ ?_ _ _ ⟨rfl,rfl,M3 k⟩;rintro v b r c ⟨e,rfl,g⟩;obtain⟨m,t,rfl⟩:=g v Ag;rw[show Dv 7 (.int m t)=pure bb by unfold Dv;rfl];refine Aa (Ad ?_);simp only[Aj,↓reduceIte];exact Ad ⟨rfl,rfl,λu i=>g u (Ai _ i)⟩;rintro ⟨x,q⟩ c ⟨e,rfl,_⟩;simp only at e;subst e;exact Ad h
structure Shy(prog:Az)(w:Wv)(s:Af)(a:Ws):Prop where
 quiet:∀{A:Bz}{E:Wr->Af->Prop}{Q:Bool->Af->Prop},Q ba s->Wt (Wu prog w) A (Sb 8 (.ref a)) Q E s
 cls:∀{A:Bz}{E:Wr->Af->Prop}{Q:Bool->Af->Prop},Q bb s->Wt (Wu prog w) A (Dv 8 (.ref a)) Q E s
def nH(b:IT prog w s.heap ks a):Shy prog w s a:=⟨λh=>wpAny_eqIsQuiet_tuple b h,λh=>rk b h⟩
def kc(g:Shy prog w s a)(j:∀v∈vs,∃b,v=.ref b/\Shy prog w s b)(h:Q bb s):Wt (Wu prog w) A (Kn (.ref a) vs) Q E s:=by
 unfold Kn;refine Aa ?_;refine Gj _ (λc r d=>r.1=b4/\d=s/\∀v∈c,∃b,v=.ref b/\Shy prog w s b) _ ?_ ?_ _ _ ⟨rfl,rfl,j⟩;rintro v c r d ⟨e,rfl,i⟩;obtain⟨b,rfl,f⟩:=i v Ag;have nx:r.1=b4/\d=d/\∀v∈c,∃b,v=Bb b/\Shy prog w d b:=⟨e,rfl,λu k=>i u (Ai _ k)⟩;dsimp only;split;exact Ad ⟨rfl,rfl,nx.2.2⟩;refine Aa (g.quiet ?_);simp only[Cn,Aj,↓reduceIte];refine Aa (f.quiet ?_);simp only[Cn,Aj,↓reduceIte];refine Aa (g.cls ?_);simp only[Aj,↓reduceIte];refine Aa (f.cls ?_);simp only[Aj,↓reduceIte];exact Ad ⟨rfl,rfl,nx.2.2⟩;rintro ⟨m,l⟩ d ⟨e,rfl,_⟩;simp only at e;subst e;exact Ad h
end
end
structure SK(prog:Az)(w:Wv)(K:Type)[DecidableEq K] extends HeapKind prog w K where
 byVal:∀{A:Bz}{E:Wr->Af->Prop}{s:Af}{k:K}{a:Ws}{Q:Bool->Af->Prop},is s.heap k a->Q ba s->Wt (Wu prog w) A (Ff 8 (.ref a)) Q E s
 shy:∀{s:Af}{k:K}{a:Ws},is s.heap k a->Shy prog w s a
 keep:∀{h h':Wz}{k:K}{a:Ws},is h k a->(∀b o,h.get? b=b0 o->o.cls=.type "tuple" ->h'.get? b=b0 o)->is h' k a
def tupS(prog:Az)(w:Wv):SK prog w (List Int) where
 toHeapKind:=tupleKind (intKind prog w)
 byVal:=λb h=>k9 b h
 shy:=λb=>nH b
 keep:=λ⟨o,a,n,d,hc,f,e⟩ c=>⟨o,a,n,c _ o d hc,hc,f,e⟩
def SetV{K:Type}(is:Wz->K->Wr->Prop)(hash:K->Int)(h:Wz)(a:Ws)(led:Bool)(l:List (K×Wr)):Prop:=
 ∃o b c t,h.get? a=b0 o/\o.ExactSet/\o.data=.set b c t/\Gd t b/\t.led=led/\t.plain=ba/\b.toList.Perm (l.map λp=>(hash p.1,p.2))/\∀p∈l,is h p.1 p.2
def addK{K a:Type}[DecidableEq K](l:List (K×a))(p:K×a):List (K×a):=if l.any (λq=>decide (q.1=p.1))then l else l++[p]
structure SL(prog:Az)(w:Wv)(K:Type)[DecidableEq K] where
 isAt:Wz->K->Wr->Prop
 hsh:K->Int
 draws:K->Nat
 roomy:Bz->Prop
 stays:∀{h h':Wz}{k:K}{v:Wr},isAt h k v->(∀b o,h.get? b=b0 o->o.cls=.type "tuple" ->h'.get? b=b0 o)->isAt h' k v
 hashed:∀{A:Bz}{E:Wr->Af->Prop}{s:Af}{k:K}{v:Wr}{Q:Int->Af->Prop},roomy A->isAt s.heap k v->Q (hsh k) {s with toks:=s.toks+draws k}->Wt (Wu prog w) A (We v) Q E s
 st:Wz->Ws->Bool->List (K×Wr)->Prop
 st_at:∀{h:Wz}{a:Ws}{led:Bool}{l:List (K×Wr)},st h a led l->∃o,h.get? a=b0 o/\o.ExactSet
 st_keep:∀{h h':Wz}{a:Ws}{led:Bool}{l:List (K×Wr)},st h a led l->h'.get? a=h.get? a->(∀b o,h.get? b=b0 o->o.cls=.type "tuple" ->h'.get? b=b0 o)->st h' a led l
 st_0:∀{h:Wz}{a:Ws}{led:Bool}{o:Xc},h.get? a=b0 o->o.ExactSet->o.data=.set #[] 0 (Qx 0 0 led)->st h a led []
 adds:∀{A:Bz}{E:Wr->Af->Prop}{s:Af}{a:Ws}{led:Bool}{l:List (K×Wr)}{k:K}{v:Wr}{Q:Bool->Af->Prop},roomy A->st s.heap a led l->isAt s.heap k v->l.length<300->
  (∀b h',Dw a s.heap h'->st h' a led (addK l (k,v))->Q b {s with heap:=h'})->Wt (Wu prog w) A (Jl a v (hsh k)) Q E s
def jl{b:Type}{led:Bool}:Gd (Qx 0 0 led) (#[]:Array (Int×b)):=by refine⟨⟨⟨nY,rfl,Ch _⟩,Nl,rfl,λj d=>(nomatch d),λp c=>(nomatch c)⟩,.a (Ch _)⟩
def mkSL{prog:Az}{w:Wv}{K:Type}[DecidableEq K](c:Wz->K->Wr->Prop)(d:K->Int)(r:K->Nat)(f:Bz->Prop)(n:∀{h h':Wz}{k:K}{v:Wr},c h k v->(∀b o,h.get? b=b0 o->o.cls=.type "tuple" ->h'.get? b=b0 o)->c h' k v)(u:∀{A:Bz}{E:Wr->Af->Prop}{s:Af}{k:K}{v:Wr}{Q:Int->Af->Prop},f A->c s.heap k v->Q (d k) {s with toks:=s.toks+r k}->Wt (Wu prog w) A (We v) Q E s)(M:∀{A:Bz}{E:Wr->Af->Prop}{s:Af}{a:Ws}{led:Bool}{l:List (K×Wr)}{k:K}{v:Wr}{Q:Bool->Af->Prop},f A->SetV c d s.heap a led l->c s.heap k v->l.length<300->
   (∀b h',Dw a s.heap h'->SetV c d h' a led (addK l (k,v))->Q b {s with heap:=h'})->Wt (Wu prog w) A (Jl a v (d k)) Q E s):SL prog w K where
 isAt:=c
 hsh:=d
 draws:=r
 roomy:=f
 stays:=n
 hashed:=u
 st:=SetV c d
 st_at:=λ⟨o,_,_,_,j,i,_⟩=>⟨o,j,i⟩
 st_keep:=λ⟨o,J,L,t,j,i,I,H,G,F,D,C⟩ e x=>⟨o,J,L,t,e.trans j,i,I,H,G,F,D,λp g=>n (C p g) x⟩
 st_0:=λz y B=>⟨_,#[],0,_,z,y,B,jl,rfl,rfl,.nil,λ_ g=>by cases g⟩
 adds:=M
section
variable{prog:Az}{w:Wv}{A:Bz}{E:Wr->Af->Prop}{s:Af}{K:Type}[DecidableEq K]
def mO{S:SL prog w K}{a:Ws}{v:Wr}{k:K}{led:Bool}{l:List (K×Wr)}{Q:Bool->Af->Prop}(e:S.roomy A)(X:S.st s.heap a led l)(f:S.isAt s.heap k v)(d:l.length<300)(h:∀b h',Dw a s.heap h'->S.st h' a led (addK l (k,v))->Q b {s with heap:=h',toks:=s.toks+S.draws k}):Wt (Wu prog w) A (setAdd a v) Q E s:=by unfold setAdd;refine Bu (Aa (S.hashed e f ?_));exact S.adds (s:={s with toks:=s.toks+S.draws k}) e X f d h
def SK.isV(S:SK prog w K)(h:Wz)(k:K)(v:Wr):Prop:=∃a,v=.ref a/\S.is h k a
def SK.isV_keep{S:SK prog w K}{h h':Wz}{k:K}{v:Wr}(X:S.isV h k v)(kp:∀b o,h.get? b=b0 o->o.cls=.type "tuple" ->h'.get? b=b0 o):S.isV h' k v:=
 let ⟨a,e,q⟩:=X;⟨a,e,S.keep q kp⟩
def SK.add_v{S:SK prog w K}{a:Ws}{v:Wr}{k:K}{led:Bool}{l:List (K×Wr)}{Q:Bool->Af->Prop}(hr:S.room A)(X:SetV S.isV S.hash s.heap a led l)(j:S.isV s.heap k v)(hlt:l.length<300)(h:∀b h',Dw a s.heap h'->SetV S.isV S.hash h' a led (addK l (k,v))->Q b {s with heap:=h'}):Wt (Wu prog w) A (Jl a v (S.hash k)) Q E s:=by
 obtain⟨r,rfl,j⟩:=j;have X0:=X;obtain⟨o,L,ep,t,V,U,h3,h4,h5,h6,B,x⟩:=X;have sz:L.size=l.length:=by simpa using B.length_eq
 have inl:∀e∈L.toList,∃p∈l,e=(S.hash p.1,p.2):=λe c=>by obtain⟨p,d,q⟩:=Aw.mp (B.mem_iff.mp c);exact⟨p,d,q.symm⟩
 refine jx V h3 h4 (by omega) (eqv:=λv=>l.any λq=>decide (q.1=k)&&v==q.2) ?_ ?_ (λR f=>S.byVal j f) ?_ ?_;rintro e c hh;obtain⟨p,d,rfl⟩:=inl e c;obtain⟨H,m,u⟩:=x p d;refine⟨⟨H,m⟩,λR f=>?_⟩
 have:(l.any λq=>decide (q.1=k)&&p.2==q.2)=decide (p.1=k):=by
  by_cases z:p.1=k;rw[decide_eq_true z];exact Ef.mpr ⟨p,d,by simp[z]⟩;rw[decide_eq_false z];refine Kq.mpr λy=>?_;obtain⟨q,i,y⟩:=Ef.mp y;obtain⟨F,D⟩:=(Ah _ _).mp y;have D:p.2=q.2:=eq_of_beq D;refine z ?_;obtain⟨r2,C,Y⟩:=x q i;rw[<-D,m]at C;cases C;rw[<-of_decide_eq_true F];exact S.inj u Y
 dsimp only at f;rw[this]at f;show Wt (Wu prog w) A (eqBool p.2 (.ref r)) R E s;rw[m];exact S.eqBool hr u j f;intro _ R f;refine kc (S.shy j) (λv Z=>?_) f;obtain⟨e,c,rfl⟩:=Aw.mp Z;have c:e∈L.toList:=by simp at c;simpa using c.1
 obtain⟨p,d,rfl⟩:=inl e c;obtain⟨H,m,u⟩:=x p d;exact⟨H,m,S.shy u⟩;rintro ⟨e,c,_,ev⟩;obtain⟨q,i,y⟩:=Ef.mp ev;have F:=of_decide_eq_true ((Ah _ _).mp y).1;have:addK l (k,Bb r)=l:=by unfold addK;rw[if_pos (Ef.mpr ⟨q,i,by simp[F]⟩)]
 have z:=h bb s.heap ⟨rfl,λ_ _=>rfl⟩ (by rw[this];exact X0);exact z;intro no h' J M W N g G P e1 C;have O:∀b n,s.heap.get? b=b0 n->n.cls=.type "tuple" ->h'.get? b=b0 n:=λb n q1 q2=>by
  have I:b≠a:=λz=>by rw[z,V]at q1;cases q1;rw[U.1]at q2;exact absurd (Qy q2) (by decide)
  exact(N.2 b I).trans q1
 have:addK l (k,Bb r)=l++[(k,Bb r)]:=by
  unfold addK;rw[if_neg λy=>?_];obtain⟨q,i,y⟩:=Ef.mp y;have y:=of_decide_eq_true y;have:=no (S.hash q.1,q.2) (B.mem_iff.mpr (Jg i)) (by rw[y]);refine absurd (Ef.mpr ⟨q,i,?_⟩) (Kq.mp this);simp[y]
 refine h ba h' N ?_;rw[this];refine⟨_,J,M,W,g,U,rfl,G,e1.trans h5,C.trans h6,?_,λp d=>?_⟩;rw[Ed];exact P.trans (B.append_right _);rcases Bq.mp d with z|z;exact SK.isV_keep (x p z) O;rw[Aq.mp z];exact⟨r,rfl,S.keep j O⟩
def SK.sl(S:SK prog w K):SL prog w K:=mkSL S.isV S.hash S.draws S.room (λX e=>SK.isV_keep X e) (λc b h=>by obtain⟨a,rfl,b⟩:=b;exact S.pyHash c b h) λc X b d h=>SK.add_v c X b d h
end
end SP
namespace SP
open PySem PySem.SetTable PySem.Spec
section
variable{prog:Az}{w:Wv}{K:Type}[DecidableEq K]{S:SL prog w K}
def gath(kr:Nat->K×Wr):Nat->List (K×Wr)
 |0=>[]
 |i+1=>addK (gath kr i) (kr i)
theorem MX(kr:Nat->K×Wr):∀i,(gath kr i).length<=i
 |0=>Al _
 |i+1=>by
  have:=MX kr i
  show(addK _ _).length<=_;unfold addK;split;omega;rw[Bm,Ea];omega
variable{A:Bz}{R:Vz->Af->Prop}{I:Ws}{fp wr:List Ws}{G:Array Vi->Array Vi->Prop}{n:Nat}{P:Nat->Wr->Prop}{St:Nat->Af->Prop}
def AI(W:WalksS prog w A.in1 I fp wr G n P St){a:Ws}(F:a∉fp){led:Bool}(kr:Nat->K×Wr)(O:∀i v,P i v->v=(kr i).2)(Q:S.roomy A.in1)(hn:n<300)(hw:∀i s b o,St i s->b∈wr->s.heap.get? b=b0 o->o.cls≠ .type "tuple"):∀(m i:Nat) (s:Af),n-i=m->i<=n->St i s->S.st s.heap a led (gath kr i)->(∀j,j<n->S.isAt s.heap (kr j).1 (kr j).2)->(∀d,Moved (a::wr) G s d->S.st d.heap a led (gath kr n)->R (.ok (.ret .none)) d)->Jd (Wu prog w) A (.builtin "set.update.loop" ⟨[.ref a,.ref I],[]⟩) R s:=by
 have y:a∉wr:=λh=>F (W.sub _ h);have D:∀b∈wr,b∈a::wr:=λb V=>Ai _ V;have t:∀{i:Nat}{s d:Af},St i s->Moved wr G s d->∀b o,s.heap.get? b=b0 o->o.cls=.type "tuple" ->d.heap.get? b=b0 o:=λst f b o e c=>f.heap b o (λz=>hw _ _ b o st z e c) e;have get:∀{s d:Af}{l:List (K×Wr)},Moved wr G s d->S.st s.heap a led l->d.heap.get? a=s.heap.get? a:=λf X=>by obtain⟨o,H,_⟩:=S.st_at X;rw[H,f.heap a o y H]
 intro m;induction m with
 |zero=>
  intro i s T U st X E B;obtain rfl:i=n:=by omega
  refine Ee Iy ?_;rw[Dx Fw _];refine Aa (W.done s _ _ st λd f=>?_);exact Ad (B d (f.mono D) (S.st_keep X (get f X) (t st f)))
 |succ m N=>
  intro i s T U st X E B;have g:i<n:=by omega
  refine Ee Iy ?_;rw[Dx Fw _];refine Aa (W.item i s _ _ g st λv d Y p f=>?_);obtain rfl:=O i v Y;have J:=S.st_keep X (get f X) (t st f);have k:∀j,j<n->S.isAt d.heap (kr j).1 (kr j).2:=λj x=>S.stays (E j x) (t st f);show Wt _ A.in1 (Nb [(kr i).2] (setAdd a ((kr i).2))>>=_) _ _ d;refine Aa (Bu (mO Q J (k i g) (by have:=MX kr i;omega) λb Z q X2=>?_));obtain⟨oa,ga,gx⟩:=S.st_at J;have L:∀b o,d.heap.get? b=b0 o->o.cls=.type "tuple" ->Z.get? b=b0 o:=λb o q1 q2=>by
   have u:b≠a:=λz=>by rw[z,ga]at q1;cases q1;rw[gx.1]at q2;exact absurd (Qy q2) (by decide)
   exact(q.2 b u).trans q1
  refine Ad ⟨Jx Fw _,N (i+1) _ (by omega) g (W.frame _ d _ _ p (by simp) λc hc o e=>?_) X2 (λj x=>S.stays (k j x) L) λr M C=>?_⟩;rw[q.2 c (λz:c=a=>F (by rw[<-z];exact hc))];exact e;refine B r (Moved.trans W.gtrans ((f.mono D).then_heap (by simp) λc o hc e => ?_) M) C;rw[q.2 c (λz:c=a=>hc (by rw[z];exact Ag))];exact e
end
section
variable{prog:Az}{w:Wv}{A:Bz}{E:Wr->Af->Prop}{s:Af}
abbrev ledW(w:Wv):Bool:= !w.params.followText "set-order"
abbrev C9(w:Wv):Xc:={cls:=.type "set",dict:=b4,data:=.set #[] 0 (.fresh 0 0 (ledW w))}
def jz(a:Wr){Q₁:Wr->Af->Prop}(h:Q₁ (.ref s.heap.objs.size) {s with heap:=s.heap.push (C9 w)}):Jd (Wu prog w) A (.call (.builtin "set.__new__") ⟨[.type "set",a],[]⟩) (wants Q₁ E) s:=by refine Pz (Aa (m:=checkBuiltinCall "set.__new__" ⟨[.type "set",a],[]⟩) (Oj (PySem.F.newCall_set_1 a) (Ad ⟨Jx Qc _,Ee PySem.F.entry_set_new ?_⟩)));rw[Dx Qc _];have e:=sub_set_self;unfold Gy.«set.__new__» Uq;obtain⟨f,g,d,c,os⟩:=s;wp_walk;refine Hm (Ad ?_);simp only[newObj];exact Aa (wpAny_alloc (Ad (Ad h)))
variable{K:Type}[DecidableEq K]{S:SL prog w K}
abbrev LT(h:Wz)(l:Ws)(items:Array Wr):Prop:=h.IsList l items∨h.IsTuple l items
def F3{h:Wz}{a:Ws}{items:Array Wr}(x:h.IsTuple a items)(o:Xc):(h.push o).IsTuple a items:=let ⟨b,e,r⟩:=x;⟨b,Ae _ e,r⟩
def LT.push{h:Wz}{l:Ws}{items:Array Wr}(x:LT h l items)(o:Xc):LT (h.push o) l items:=x.imp (λx=>x.push o) λx=>F3 x o
def LT.lt{h:Wz}{l:Ws}{items:Array Wr}(x:LT h l items):l<h.objs.size:=by rcases x with⟨_,e,_⟩|⟨_,e,_⟩<;>exact As e
set_option maxHeartbeats 3200000 in
def mL{a l:Ws}{items:Array Wr}{led:Bool}{oa:Xc}{kr:Nat->K×Wr}{Q:Wr->Af->Prop}(Y:A.handled=b4)(J:S.roomy A.in1.in1)(u:s.heap.get? a=b0 oa)(H:oa.ExactSet)(N:oa.data=.set #[] 0 (Qx 0 0 led))(hl:LT s.heap l items)(t:a≠l)(L:items.size<300)(I:∀(i:Nat) (v:Wr),items[i]?=b0 v->v=(kr i).2)(is:∀j,j<items.size->S.isAt s.heap (kr j).1 (kr j).2)(h:∀h' R,S.st h' a led (gath kr items.size)->(∀b o,b≠a->s.heap.get? b=b0 o->h'.get? b=b0 o)->Q .none {s with heap:=h',toks:=R}):Jd (Wu prog w) A (.call (.builtin "set.__init__") ⟨[.ref a,.ref l],[]⟩) (wants Q E) s:=by
 have Z:s.TypeIs (.ref a) "set":=⟨oa,u,H.1⟩;obtain⟨oc,od,T,os⟩:=oa;obtain⟨D,C,B⟩:=H;simp only at D C B N;subst D;subst C;subst B;subst N;refine codeAny_call_builtin PySem.F.called_set.init.plain PySem.F.entry_set_init (check_set_init_1 Z ?_);have p:=hl.lt;have r:a<s.heap.objs.size:=As u;have d:A.in1.in1.handled=b4:=by simp[Y]
 have O:l≠s.heap.objs.size:=Bd p;have jf:=PySem.F.sub_list_set;have jg:=PySem.F.sub_list_frozenset;have V:(Es "list"==Es "dict")=bb:=by decide
 have j9:=PySem.F.sub_tuple_set;have ja:=PySem.F.sub_tuple_frozenset;have P:(Es "tuple"==Es "dict")=bb:=by decide
 unfold Gy.«set.__init__» noKeywords Tv;generalize x:Tc=PI;rcases hl with hl|hl
 all_goals
  have c:=hl;obtain⟨⟨jc,j5,j6,gq⟩,U,g,nl,f⟩:=hl;simp only at g f;subst g;subst f;wp_walk;subst x;first|refine Fx c ?_|refine Hu c ?_
  refine Aa (Qv ?_)
  first
   |refine AI (S:=S) (led:=led) (A:=A.in1) ((Ss d _ l O items).toS) (a:=a) ?_ kr (λi v y=>I i v y) J L ?_ (items.size-0) 0 _ rfl (Ch _) ⟨⟨_,Ar _ rfl,rfl,rfl⟩,c.push _⟩ ?_ ?_ ?_
   |refine AI (S:=S) (led:=led) (A:=A.in1) ((Wm d _ l O items).toS) (a:=a) ?_ kr (λi v y=>I i v y) J L ?_ (items.size-0) 0 _ rfl (Ch _) ⟨⟨_,Ar _ rfl,rfl,rfl⟩,F3 c _⟩ ?_ ?_ ?_
  simp only[Ak,Br,or_false,not_or];exact⟨Bd r,t⟩;rintro i G b o ⟨⟨o',e1,e2,e3⟩,_⟩ q e;rw[Aq.mp q,e1]at e;cases e;rw[e2];exact λz=>absurd (Qy z) (by decide);exact S.st_0 (led:=led) (Ae _ u) ⟨rfl,rfl,rfl⟩ rfl;exact λj W=>S.stays (is j W) λb o e _=>Ae _ e;intro G k X;obtain⟨h',g',d',m,n⟩:=G;have eg:g'=s.gens:=k.gens;have ed:d'=s.drawn:=k.drawn;have eo:n=s.os:=k.os;subst eg;subst ed;subst eo;refine Ad (Ad (h h' m X λb o q e=>?_));refine k.heap b o ?_ (Ae _ e);simp only[Ak,Br,or_false,not_or];exact⟨q,Bd (As e)⟩
end
section
variable{prog:Az}{w:Wv}{A:Bz}{E:Wr->Af->Prop}{s:Af}{K:Type}[DecidableEq K]{S:SL prog w K}
set_option maxHeartbeats 3200000 in
def JD{l:Ws}{items:Array Wr}{kr:Nat->K×Wr}{Q:Wr->Af->Prop}(D:A.handled=b4)(x:S.roomy A.in1.in1.in1)(hl:LT s.heap l items)(y:items.size<300)(u:∀(i:Nat) (v:Wr),items[i]?=b0 v->v=(kr i).2)(is:∀j,j<items.size->S.isAt s.heap (kr j).1 (kr j).2)(h:∀h' n,S.st h' s.heap.objs.size (ledW w) (gath kr items.size)->(∀b o,s.heap.get? b=b0 o->h'.get? b=b0 o)->Q (.ref s.heap.objs.size) {s with heap:=h',toks:=n}):Wt (Wu prog w) A (call (.type "set") [.ref l]) Q E s:=by
 have C:=PySem.F.called_set;obtain⟨c,J,L⟩:=C.mro;have M:=C.made;have N:=C.sub;have R:=C.notType;have P:=C.canCreate;have G:=PySem.F.typeCall_set_1 (.ref l);refine wpAny_call (Pz (Ad ⟨Jw _ (by decide+kernel),Ee PySem.F.entry_type_call ?_⟩));rw[Around.under_plain (weight_type_call_type "set" [.ref l] []) rfl];repeat (any_goals (first|assumption|wp_step))
 refine Kz (jz (.ref l) (E:=E) (Q₁:=λobj g=>obj=.ref s.heap.objs.size/\g={s with heap:=s.heap.push (C9 w)}) ⟨rfl,rfl⟩) λr g k=>?_;cases r with
 |error e=>exact k
 |ok I=>
  cases I with
  |ret obj=>
   obtain⟨rfl,rfl⟩:=k;have t:(s.heap.push (C9 w)).get? s.heap.objs.size=b0 (C9 w):=Ar _ rfl;have O:Sc {s with heap:=s.heap.push (C9 w)} (.ref s.heap.objs.size) "set":=⟨_,t,rfl⟩;have z:=C.init.lookup;have H:=C.init.bind (.ref s.heap.objs.size);repeat (any_goals (first|assumption|wp_step))
   refine Kz (mL (S:=S) (s:={s with heap:=s.heap.push (C9 w)}) (E:=E) (kr:=kr) (led:=ledW w) (items:=items) (oa:=C9 w) (Q:=λr f=>r=.none/\∃h' n,f={s with heap:=h',toks:=n}/\S.st h' s.heap.objs.size (ledW w) (gath kr items.size)/\(∀b o,s.heap.get? b=b0 o->h'.get? b=b0 o))
    (by simp[D]) x t ⟨rfl,rfl,rfl⟩ rfl (hl.push _) (Hg hl.lt) y u (λj B=>S.stays (is j B) λb o e _=>Ae _ e)
    λh' n X q=>⟨rfl,h',n,rfl,X,λb o e=>q b o (Bd (As e)) (Ae _ e)⟩) λp f a=>?_
   cases p with
   |error e=>exact a
   |ok m=>
    cases m with
    |ret r=>
     obtain⟨rfl,h',n,rfl,X,q⟩:=a;repeat (any_goals (first|assumption|wp_step))
     exact h _ _ X q
    |_=>exact a.elim
  |_=>exact k.elim
end
theorem A5{b:Type}(nx:Nat->Nat):∀(xi k:Nat) (l:List b) (out:Array b),l.length=xi->(Tf nx xi k l out).toList.Perm (out.toList++l)
 |0,k,l,out,h=>by rw[Fe.mp h];simp[Tf]
 |xi+1,k,l,out,h=>by unfold Tf;have a:nx k % l.length<l.length:=Lv _ (by omega);rw[Cw a];dsimp only;refine(A5 nx xi (k+1) _ _ (by rw[Mq a];omega)).trans ?_;rw[Array.toList_push,Cr];refine List.Perm.append_left _ ?_;rw[List.eraseIdx_eq_take_drop_succ];refine(List.perm_middle (l₁:=l.take (nx k % l.length))).symm.trans ?_;rw[<-Em a,Ij]
def nB{a:Type}(nx:Nat->Nat)(xs:Array a):(Nv nx xs).toList.Perm xs.toList:=by
 have:=A5 nx xs.size 0 xs.toList #[] (by simp)
 simpa[Nv]using this
section
variable{prog:Az}{w:Wv}{A:Bz}{E:Wr->Af->Prop}{s:Af}
def D0(a:Ws):setWalk a=(do
  let (es,df,t)<-setState a
  if<-Qn then return Nv ((<-ask).params.setOrder a df) es
  if !t.plain&&es.size>1 then return (<-drawOrder es.size es.toList).toArray
  (do if !t.led&&es.size>1 then Ko "set:maker-not-led":Xi Unit)
  return es):=rfl
end
def F1(xs:Array Nat):Nat->Nat
 |0=>0
 |i+1=>xs.getD i 0+1
def sQ{xs:Array Nat}(h:Srt xs){i:Nat}(f:i<=xs.size):below xs (F1 xs i)=i:=by
 obtain⟨j,e,d⟩:=QE h (F1 xs i);have g:∀k,k<xs.size->xs[k]?=b0 (xs.getD k 0):=λk c=>by simp[Cc,c]
 rcases Fy (below xs (F1 xs i)) i with z|z|z;cases i with
 |zero=>exact absurd z (Co _)
 |succ i=>exact absurd (Iz _) (d i _ (by omega) (g i (by omega)))
 exact z;have a := e i _ z (g i (by omega));cases i with
 |zero=>exact absurd a (Co _)
 |succ i=>
  have b:=h.lt (Iz i) (g i (by omega)) (g (i+1) (by omega));exact absurd a (Nat.not_lt.mpr b)
section
variable{prog:Az}{w:Wv}{A:Bz}{E:Wr->Af->Prop}{s:Af}
def V4(w:Wv)(a:Ws)(ep:Nat)(es:Array (Int×Wr)):Array (Int×Wr):=if w.params.followText "set-order" then Nv (w.params.setOrder a ep) es else es
def V5{a:Ws}{ep:Nat}{es:Array (Int×Wr)}:(V4 w a ep es).toList.Perm es.toList:=by
 unfold V4;split;exact nB _ _;exact .refl _
def DZ(a:Ws)(slot given b:Nat):setNext a slot given b=(do
  let (es,df,t)<-setState a
  if<-Qn then
   if df !=b then Ko "set_iterator.__next__:elements-changed"
   return ((<-setWalk a)[given]?).map λe=>(e.2,slot)
  if !t.plain&&es.size>1 then Ko "set_iterator.__next__:the-table-is-plain-no-more"
  (do if !t.led&&!es.isEmpty then Ko "set:maker-not-led":Xi Unit)
  let i:=SetTable.below t.place slot
  return match es[i]?,t.place[i]? with
   |some (_,x),b0 j=>b0 (x,j+1)
   |_,_=>b4):=rfl
def Stn(w:Wv)(t:Bn)(slot i:Nat):Prop:=w.params.followText "set-order"=ba∨slot=F1 t.place i
def AT{a:Ws}{o:Xc}{es:Array (Int×Wr)}{ep i slot:Nat}{t:Bn}{Q:Option (Wr×Nat)->Af->Prop}(g:s.heap.get? a=b0 o)(h:o.data=.set es ep t)(G:Gd t es)(hl:t.led=ledW w)(k:t.plain=ba)(l:i<=es.size)(hs:Stn w t slot i)(c:∀e j,(V4 w a ep es)[i]?=b0 e->Stn w t j (i+1)->Q (b0 (e.2,j)) s)(b:(V4 w a ep es)[i]?=b4->Q b4 s):Wt (Wu prog w) A (setNext a slot i ep) Q E s:=by
 rw[DZ];have fits:=WK G.tb;refine Aa (Cs g h fits ?_);dsimp only;unfold Qn;refine Aa (Aa (Hm (Ad ?_)));show Wt _ _ (if w.params.followText "set-order"=ba then _ else _) _ _ _;have hl:t.led= !w.params.followText "set-order":=hl;by_cases z:w.params.followText "set-order"=ba;rw[if_pos z];simp only[bne_self_eq_false,Aj,↓reduceIte];rw[D0];refine Aa (Aa (Cs g h fits ?_));dsimp only;unfold Qn;refine Aa (Aa (Hm (Ad ?_)));show Wt _ _ (if w.params.followText "set-order"=ba then _ else _) _ _ _;rw[if_pos z];refine Aa (Hm (Ad (Ad ?_)));show Q (((Nv (w.params.setOrder a ep) es)[i]?).map λe=>(e.2,slot)) s;have f:V4 w a ep es=Nv (w.params.setOrder a ep) es:=by unfold V4;rw[if_pos z]
 rw[f]at c b;cases e:(Nv (w.params.setOrder a ep) es)[i]? with
 |none=>exact b e
 |some x=>exact c x slot e (.inl z)
 rw[if_neg z];have f:V4 w a ep es=es:=by unfold V4;rw[if_neg z]
 rw[Lj _ |>.mp z]at hl;rw[f]at c b;have hs:slot=F1 t.place i:=hs.resolve_left z;rw[k,hl,hs,sQ G.tb.srt (by rw[G.tb.size];exact l)];simp only[Cn,Ku,Fv,Aj,↓reduceIte];refine Aa (Ad (Ad ?_));cases e:es[i]? with
 |none=>exact b e
 |some x=>
  have d:i<t.place.size:=by rw[G.tb.size];exact(Bh.mp e).1
  have m:t.place[i]?=b0 (t.place.getD i 0):=by simp[Cc,d]
  rw[m];exact c x _ e (.inr rfl)
end
def ZW:Slot "set_iterator" "__next__" "set_iterator.__next__":=
 .of (owner:= "set_iterator") (n:= "__next__") (by rw[typeLookup_type,Qd];kernel_rfl) (by decide+kernel) (by decide+kernel) (by decide+kernel)
  (by first|exact .inl (by decide+kernel)|exact .inr (by decide+kernel)) (by rw[Qz];kernel_rfl)
def TL:Slot "set_iterator" "__iter__" "set_iterator.__iter__":=
 .of (owner:= "set_iterator") (n:= "__iter__") (by rw[typeLookup_type,Qd];kernel_rfl) (by decide+kernel) (by decide+kernel) (by decide+kernel)
  (by first|exact .inl (by decide+kernel)|exact .inr (by decide+kernel)) (by rw[Qz];kernel_rfl)
def UK:Vp table "set_iterator.__next__"=b0 Gy.«set_iterator.__next__» :=entryFor_of_fast (by kernel_rfl)
def OC:Vp table "set_iterator.__iter__"=b0 Gy.«dict_keyiterator.__iter__» :=
 entryFor_alias (id':= "dict_keyiterator.__iter__") (by kernel_rfl) rfl (by decide+kernel) (by kernel_rfl)
def LD:Vp table "set.__iter__"=b0 Gy.«frozenset.__iter__» :=
 entryFor_alias (id':= "frozenset.__iter__") (by kernel_rfl) rfl (by decide+kernel) (by kernel_rfl)
def TF(a:Wr):argsOk "set_iterator.__next__" ⟨[a],[]⟩:=by unfold argsOk;kernel_rfl
def NE(a:Wr):argsOk "set_iterator.__iter__" ⟨[a],[]⟩:=by unfold argsOk;kernel_rfl
section
variable{prog:Az}{w:Wv}{A:Bz}{E:Wr->Af->Prop}{s:Af}
section
variable{I a:Ws}{oa:Xc}{es:Array (Int×Wr)}{ep i:Nat}{t:Bn}{Q:Option Wr->Af->Prop}
def SIt(w:Wv)(I a:Ws)(oa:Xc)(es:Array (Int×Wr))(ep:Nat)(t:Bn)(i:Nat)(h:Wz):Prop:=
 (∃o slot,h.get? I=b0 o/\o.cls=.type "set_iterator" /\o.data=.fields #[.int ((slot:Nat):Int) 0,.int ((i:Nat):Int) 0,.ref a,.int ((es.size:Nat):Int) 0,.int ((ep:Nat):Int) 0]/\Stn w t slot i)/\h.get? a=b0 oa
def SIt.typeIs(h:SIt w I a oa es ep t i s.heap):s.TypeIs (.ref I) "set_iterator":=
 let ⟨⟨o,_,b,hc,_⟩,_⟩:=h;⟨o,b,hc⟩
structure SOk(w:Wv)(oa:Xc)(es:Array (Int×Wr))(ep:Nat)(t:Bn):Prop where
 ex:oa.ExactSet
 data:oa.data=.set es ep t
 gd:Gd t es
 led:t.led=ledW w
 plain:t.plain=ba
def kP{Q:Wr->Af->Prop}(b:s.heap.get? a=b0 oa)(O:SOk w oa es ep t)(h:∀o,SIt w s.heap.objs.size a oa es ep t 0 (s.heap.push o)->Q (.ref s.heap.objs.size) {s with heap:=s.heap.push o}):Wt (Wu prog w) A (Tc (.ref a)) Q E s:=by
 have d:s.TypeIs (.ref a) "set":=⟨oa,b,O.ex.1⟩;have fits:=WK O.gd.tb;refine Sv d Qe (Ck Qe d LD ?_ (PySem.F.args_set_iter_1 _));unfold Gy.«frozenset.__iter__» Vs slotArgs;simp only[List.isEmpty_nil,Cn,Aj,↓reduceIte,bind_assoc,Jr,bne_self_eq_false];unfold Va Vb;refine Aa (Ad ?_);try dsimp only
 refine Aa (Ad ?_);unfold Vc;refine Aa (Aa (Aa (Cs b O.data fits (Ad (Ad ?_)))));unfold setDrawn;refine Aa (Aa (Cs b O.data fits ?_));dsimp only;unfold Qn;refine Aa (Aa (Hm (Ad ?_)));refine Ad ?_;have e:(!w.params.followText "set-order"&&(!t.plain&&decide (es.size>1)))=bb:=by rw[O.plain];simp
 show Wt _ _ (if(!w.params.followText "set-order"&&(!t.plain&&decide (es.size>1)))=ba then _ else _) _ _ s;rw[if_neg (by rw[e];exact Db)];refine Aa (Ad ?_);unfold setEpoch;refine Aa (Aa (Cs b O.data fits (Ad ?_)));refine Aa (Cp (Ad ⟨_,rfl,"set_iterator",_,⟨_,Ar _ rfl,rfl⟩,ZW.lookup,h _ ⟨⟨_,0,Ar _ rfl,rfl,rfl,.inr rfl⟩,Ae _ b⟩⟩))
def sG{e:Int×Wr}(S:SIt w I a oa es ep t i s.heap)(O:SOk w oa es ep t)(d:a≠I)(l:(V4 w a ep es)[i]?=b0 e)(h:∀h',SIt w I a oa es ep t (i+1) h'->Dw I s.heap h'->Q (b0 e.2) {s with heap:=h'}):Wt (Wu prog w) A (pyNext (.ref I)) Q E s:=by
 have p:=S.typeIs;obtain⟨⟨o,slot,k,hc,j,r⟩,m⟩:=S;have u:i<=es.size:=by
  have:=(Bh.mp l).1
  have x:=(V5 (w:=w) (a:=a) (ep:=ep) (es:=es)).length_eq;simp only[Dm]at x;omega
 have fits:=WK O.gd.tb;unfold pyNext;refine Aa (Om (Dc (name:=Ay "__next__") p ZW
  (Ck ZW p UK ?_ (TF _))))
 show Wt _ _ (fieldsOf (.ref I)>>=_) _ _ s;refine Aa (wpAny_fieldsOf k j ?_);dsimp only;unfold Vc;refine Aa (Aa (Cs m O.data fits (Ad ?_)));simp only[bne_self_eq_false,Aj,↓reduceIte,Hb];refine Aa (AT m O.data O.gd O.led O.plain u r (λy f q v=>?_) (λg=>?_));rw[l]at q;cases q;show Wt _ _ (setField (.ref I) 0 (rawInt f)>>=_) _ _ s;refine Aa (Kv k j (by simp) ?_);have c:=Et (Vt (·.setIfInBounds 0 (rawInt f))) k (Ld (Gq j _));have b:(Vt (·.setIfInBounds 0 (rawInt f)) o).data=.fields #[.int ((f:Nat):Int) 0,.int ((i:Nat):Int) 0,.ref a,.int ((es.size:Nat):Int) 0,.int ((ep:Nat):Int) 0]:=by rw[Gq j];rfl
 refine Aa (Kv c b (by simp) (Ad ⟨_,rfl,Ad (h _ ⟨⟨_,f,Et _ c (Ld (Gq b _)),?_,?_,v⟩,?_⟩ ((Ec ..).trans (Ec ..)))⟩));rw[No,No];exact hc;rw[Gq b];simp[rawInt];rw[Jh _ _ _ _ d,Jh _ _ _ _ d];exact m;rw[l]at g;cases g
def q9(k:A.handled=b4)(S:SIt w I a oa es ep t es.size s.heap)(O:SOk w oa es ep t)(h:∀h',Kk I s.heap h'->Q b4 {s with heap:=h'}):Wt (Wu prog w) A (pyNext (.ref I)) Q E s:=by
 have i:=S.typeIs;obtain⟨⟨o,slot,c,hc,e,j⟩,f⟩:=S;have fits:=WK O.gd.tb;unfold pyNext;refine Aa (Om (Dc (name:=Ay "__next__") i ZW
  (Ck ZW i UK ?_ (TF _))))
 show Wt _ _ (fieldsOf (.ref I)>>=_) _ _ s;refine Aa (wpAny_fieldsOf c e ?_);dsimp only;unfold Vc;refine Aa (Aa (Cs f O.data fits (Ad ?_)));simp only[bne_self_eq_false,Aj,↓reduceIte,Hb];refine Aa (AT f O.data O.gd O.led O.plain (Al _) j (λq r l p=>?_) (λg=>?_));have:=(Bh.mp l).1
 have n:=(V5 (w:=w) (a:=a) (ep:=ep) (es:=es)).length_eq;simp only[Dm]at n;omega;show Wt _ _ (setField (.ref I) 2 .none>>=_) _ _ s;refine Aa (Kv c e (by simp) ?_);show Wt _ _ (newExc (.type "StopIteration") []>>=_) _ _ _;refine Aa ?_;simp only[newExc,newTuple];refine Aa (Cp ?_ (by size_fits));refine Aa (m:=Nf _ _) (Oj (a:=Value.none) (by first|rfl|(simp only[Nf];rfl)) ?_);refine Cp ?_ (by size_fits);simp only[raiseNew];refine Aa (wpAny_handled ?_);rw[show A.in1.handled=b4 from k];refine Aa (Ad (wpAny_throw ?_));refine Aa (Gi (T:= "StopIteration") (b:=ba) ⟨_,Ar _ rfl,rfl⟩ isSubtype_stop ?_);exact Ad (h _ (((Ec ..).extBut.push _).push _))
def Walks.set(x:A.handled=b4)(I a:Ws)(k:a≠I)(O:SOk w oa es ep t):
  Walks prog w A I [I,a] [I] es.size (λi v=>∃e,(V4 w a ep es)[i]?=b0 e/\v=e.2) (λi h=>SIt w I a oa es ep t i h) where
 sub:=λb c=>by simp at c;simp[c]
 frame:=λi h f st m=>by obtain⟨⟨o,slot,q,r⟩,B⟩:=st;exact⟨⟨o,slot,m I (by simp) o q,r⟩,m a (by simp) oa B⟩
 item:=λi s Q E u st d=>by
  have n:=(V5 (w:=w) (a:=a) (ep:=ep) (es:=es)).length_eq;simp only[Dm]at n;have g:(V4 w a ep es)[i]?=b0 (V4 w a ep es)[i]:=by simp[n,u]
  exact sG st O k g λf j p=>d _ f s.toks ⟨_,g,rfl⟩ j λb o c e=>p.extBut b o (λz=>c (by simp[z])) e
 done:=λs Q E st d=>q9 x st O λf y=>d f s.toks λb o c e=>y b o (λz=>c (by simp[z])) e
 self:=λi s Q E st d=>by have l:=st.typeIs;refine Sv l TL (Ck TL l OC ?_ (NE _));show Wt _ _ (ret (.ref I)) _ _ s;exact Ad ⟨_,rfl,"set_iterator",_,l,ZW.lookup,d⟩
end
end
section
variable{prog:Az}{w:Wv}{A:Bz}{E:Wr->Af->Prop}{s:Af}
set_option maxHeartbeats 3200000 in
def G2{a:Ws}{oa:Xc}{es:Array (Int×Wr)}{ep:Nat}{t:Bn}{Q:List Wr->Af->Prop}(Y:A.handled=b4)(J:s.heap.get? a=b0 oa)(O:SOk w oa es ep t)(V:es.size<=sizeLine)(h:∀h' U,s.heap.objs.size<=h'.objs.size->(∀b o,s.heap.get? b=b0 o->h'.get? b=b0 o)->Q ((V4 w a ep es).toList.map (·.2)) {s with heap:=h',toks:=U}):Wt (Wu prog w) A (Vn (.ref a)) Q E s:=by
 have hT:s.TypeIs (.ref a) "set":=⟨oa,J,O.ex.1⟩;have lt:=As J;unfold Vn;refine Aa (Qv (Ee PySem.F.entry_proto_collect ?_));rw[Dx PySem.F.plain_proto_collect _];show Wt _ A.in1 (newList []>>=λl=>again (.builtin "list.__iadd__" ⟨[l,.ref a],[]⟩)) _ _ s;refine Aa (Cp ?_);refine Ad ⟨Jx Oy _,Ee PySem.F.entry_list_iadd ?_⟩;rw[Dx Oy _];show Wt _ A.in1 (Gc (.ref s.heap.objs.size) (.ref a) (.ref s.heap.objs.size)) _ _ _;generalize B:s.heap.push {cls:=.type "list",data:=.seq ([]:List Wr).toArray}=H;have f:H.get? a=b0 oa:=B▸Ae _ J;have K:Sc {s with heap:=H} (.ref a) "set":=⟨oa,f,O.ex.1⟩;unfold Gc;refine Aa (Fn K ?_);have h1:Nw (.ref s.heap.objs.size) (.ref a)=bb:=by simp[Nw,Hg lt]
 have h2:(Es "set"==Es "list")=bb:=by decide
 have Z:(Es "set"==Es "tuple")=bb:=by decide
 simp only[h1,h2,Z,Vl,Aj,if_false];refine Aa (kP (s:={s with heap:=H}) f O λo st=>?_);refine Aa (Bu ?_);have j:Sc {s with heap:=H.push o} (.ref a) "set":=⟨oa,Ae _ f,O.ex.1⟩;unfold Builtin.List.listLengthHint;refine Aa (Fd j PySem.F.slot_set_len.lookup ?_);wp_delta;refine Aa (Gi (T:= "set") (b:=ba) j (by rw[Qz];kernel_rfl) ?_);show Wt _ A.in1 (typeOf (Bb a)>>=_) _ _ _;refine Aa (Fn j ?_);refine Ad ?_;rw[if_pos (by decide)];refine Aa (Gh ?_);have k:H.objs.size=s.heap.objs.size+1:=by rw[<-B,En]
 generalize P:s.heap.objs.size=r at*;have u:(H.push o).get? r=b0 {cls:=.type "list",data:=.seq ([]:List Wr).toArray}:=Ae _ (by rw[<-B,<-P];exact Ar _ rfl);refine Aa ?_;show Wt _ A.in1 (updateSeq r (·.push .none)>>=λ_=>updateSeq r (·.pop)) _ _ _;refine Aa (Qf u rfl ?_);have q:=Et (El (·.push Value.none)) u rfl;refine Qf q rfl ?_;have L:=Et (El (·.pop)) q rfl;have n:∀b d,b≠r->(H.push o).get? b=b0 d->(((H.push o).update r (El (·.push Value.none))).update r (El (·.pop))).get? b=b0 d:=
  λb d y e=>(Hs _ _ (Dg y)).trans ((Hs _ _ (Dg y)).trans e)
 have G:a≠H.objs.size:=by rw[k];exact Bd (Sw lt)
 have W:=Walks.set (prog:=prog) (A:=A.in1) (by simp[Y]) H.objs.size a G O;have p:r∉[H.objs.size,a]:=λm=>by
  rcases Ak.mp m with z|z;exact absurd (z.trans k) (Bd (Iz _));exact absurd lt (by rw[Aq.mp z];exact By _)
 refine Ad ⟨Jx PySem.F.plain_extend_loop _,codeAny_extend_loopS W.toS V _ p _ es.size 0 _ _ _ rfl (Ch _) (W.frame 0 _ _ st λb y d e=>n b d (λz=>p (z▸y)) e) L (ItemsOf.nil _) λN x c' m v M=>?_⟩;show Wt _ A (load r>>=_) _ _ N;refine Aa (Ux v ?_);obtain⟨h',g',d',S,C⟩:=N;have eg:g'=s.gens:=m.gens;have ed:d'=s.drawn:=m.drawn;have eo:C=s.os:=m.os;subst eg;subst ed;subst eo;have key:x.toList=(V4 w a ep es).toList.map (·.2):=by
  have R:=(V5 (w:=w) (a:=a) (ep:=ep) (es:=es)).length_eq;refine Io λi=>?_;by_cases X:i<es.size;have I : i < x.size := by rw [M.1];exact X
  have g:x[i]?=b0 x[i]:=by simp[I]
  obtain⟨e,e3,e4⟩:=M.2 i _ g;rw[Di,Qg,Qg,g,e3,e4];rfl;rw[Dd (by simp[M.1];omega),Dd (by simp at R;simp[R];omega)]
 refine Ad ?_;show Q x.toList _;rw[key];refine h _ _ (Mt (As v)) λb d e=>?_;have D:b<r:=P▸As e;refine m.heap b d (λz=>?_) (n b d (Bd D) (Ae _ (B▸Ae _ e)));rcases Ak.mp z with z|z
 exact absurd D (by rw[z];exact By _);exact absurd (Sw D) (by rw[Aq.mp z,k];exact By _)
end
end SP
namespace TS
open PySem PySem.W PyProof.Rows
structure Tot(n:Nat)(ck:Nat->Nat->Bool):Prop where
 tri:∀i j,i<n->j<n->i≠j->ck i j=bb->ck j i=ba
 asy:∀i j,i<n->j<n->ck i j=ba->ck j i=bb
 tr:∀i j k,i<n->j<n->k<n->ck i j=ba->ck j k=ba->ck i k=ba
theorem UO{a b:Type}{ck:Nat->Nat->Bool}{f:a->KasT b}:∀t:KasT a,SH ck (t.bind f)=SH ck (f (SH ck t))
 |.ret _=>rfl
 |.ask i j k=>UO (k (ck i j))
section
variable{n:Nat}{ck:Nat->Nat->Bool}
abbrev WD(p:Array Nat)(i:Nat):Nat:=p.getD i 0
def Pn.sz{p:Array Nat}(h:Pn n p):p.size=n:=by simpa using h.length_eq
def Pn.lt{p:Array Nat}(h:Pn n p){i:Nat}(a:i<n):WD p i<n:=h.get (Hz (Ch _) a) i
def Pn.inj{p:Array Nat}(h:Pn n p){i j:Nat}(b:i<n)(a:j<n)(c:i≠j):WD p i≠WD p j:=by
 have e:p.toList.Nodup:=h.nodup_iff.mpr Jb;have sz:=h.sz;have g:∀i j,i<n->j<n->i<j->WD p i≠WD p j:=λi j b a d=>by
  have:=Du.mp e i j (by simpa[sz]using b) (by simpa[sz]using a) d
  simpa[WD,Uz,sz,b,a]using this
 rcases My c with z|z;exact g i j b a z;exact(g j i a b z).symm
def Sd(ck:Nat->Nat->Bool)(p:Array Nat)(b:Nat):Prop:=∀i j,i<j->j<b->ck (WD p i) (WD p j)=ba
def Ds(ck:Nat->Nat->Bool)(p:Array Nat)(b:Nat):Prop:=∀i j,i<j->j<b->ck (WD p j) (WD p i)=ba
def Ze{p:Array Nat}{i j:Nat}(a:j<=p.size)(t:Nat):(kas_rev p i j).getD t 0=if i<=t/\t<j then p.getD (i+j-1-t) 0 else p.getD t 0:=by have e:=getElem?_mirror_all (i:=i) a t;simp only[Cc];show((mirror p i j ((j-i)/2))[t]?).getD 0=_;rw[e];split<;>rfl
def AN{p:Array Nat}{s d:Nat}(hs:s<p.size)(a:d<=s)(t:Nat):(bubble p s d).getD t 0=if t=s-d then p.getD s 0 else if s-d<t/\t<=s then p.getD (t-1) 0 else p.getD t 0:=by
 have e:=getElem?_bubble hs d a t;simp only[Cc];rw[e];split;rfl
 ·split<;>rfl
variable(T:Tot n ck)
include T
theorem CM{p:Array Nat}(a:Pn n p):∀f m,1<=m->m+f<=n->Sd ck p m->m<=SH ck (Oq p f m)/\SH ck (Oq p f m)<=m+f/\Sd ck p (SH ck (Oq p f m))/\(SH ck (Oq p f m)<m+f->ck (WD p (SH ck (Oq p f m))) (WD p (SH ck (Oq p f m)-1))=ba)
 |0,m,_,_,h=>⟨Al _,Al _,h,λx=>absurd x (By _)⟩
 | f + 1,m,l,k,h => by
  unfold Oq;show m<=SH ck (if ck (WD p m) (WD p (m-1))=ba then .ret m else Oq p f (m+1))/\_;cases c:ck (WD p m) (WD p (m-1))with
  |true=>
   simp only[SH,c,↓reduceIte];exact⟨Al _,To _ _,h,λ_=>trivial⟩
  |false=>
   simp only[SH,c,Aj,↓reduceIte];have d:=T.tri _ _ (a.lt (i:=m) (by omega)) (a.lt (i:=m-1) (by omega)) (a.inj (by omega) (by omega) (by omega)) c;have e:Sd ck p (m+1):=λi j b g=>by
    rcases Lf j m with z|z;exact h i j b z;obtain rfl : j = m := by omega
    rcases Lf i (j-1)with y|y;exact T.tr _ _ _ (a.lt (by omega)) (a.lt (by omega)) (a.lt (by omega)) (h i (j-1) y (by omega)) d;obtain rfl : i = j-1 := by omega
    exact d
   have:=CM a f (m+1) (by omega) (by omega) e
   refine⟨by omega,by omega,this.2.2.1,λx=>this.2.2.2 (by omega)⟩
theorem eX{p:Array Nat}(g:Pn n p):∀f m,1<=m->m+f<=n->Ds ck p m->∃r,SH ck (kas_desc f p m 0)=(p,r,0)/\m<=r/\r<=m+f/\Ds ck p r
 |0,m,_,_,h=>⟨m,rfl,Al _,Al _,h⟩
 | f + 1,m,t,s,h => by
  unfold kas_desc;cases c:ck (WD p m) (WD p (m-1))with
  |true=>
   simp only[SH,c,↓reduceIte,By,gt_iff_lt];have o:Ds ck p (m+1):=λi j k q=>by
    rcases Lf j m with z|z;exact h i j k z;obtain rfl : j = m := by omega
    rcases Lf i (j-1)with y|y;exact T.tr _ _ _ (g.lt (by omega)) (g.lt (by omega)) (g.lt (by omega)) c (h i (j-1) y (by omega));obtain rfl : i = j-1 := by omega
    exact c
   obtain⟨r,e,a,b,d⟩:=eX g f (m+1) (by omega) (by omega) o;exact⟨r,e,by omega,by omega,d⟩
  |false=>
   have l:=T.tri _ _ (g.lt (i:=m) (by omega)) (g.lt (i:=m-1) (by omega)) (g.inj (by omega) (by omega) (by omega)) c;simp only[SH,c,l,Aj,↓reduceIte];exact⟨m,rfl,Al _,by omega,h⟩
def Ds.rev{p:Array Nat}(a:Pn n p){m:Nat}(b:m<=n)(h:Ds ck p m):Sd ck (kas_rev p 0 m) m:=λi j c d=>by unfold WD;rw[Ze (by rw[a.sz];exact b),Ze (by rw[a.sz];exact b),if_pos (by omega),if_pos (by omega)];exact h _ _ (by omega) (by omega)
def iG(t:1<=n):∃m p,SH ck (kas_count n (Le (Ao n)))=(m,p)/\1<=m/\m<=n/\Pn n p/\Sd ck p m:=by
 have a:Pn n (Le (Ao n)):=.refl _;generalize Le (Ao n)=p at a;have one:Sd ck p 1:=λi j _ _=>by omega
 obtain⟨d,q,b,a4⟩:=CM T a (n-1) 1 (Al _) (by omega) one;unfold kas_count;rw[UO];generalize SH ck (Oq p (n-1) 1)=m at d q b a4;by_cases e:m=n;subst e;simp only[beq_self_eq_true,↓reduceIte,SH];exact⟨m,p,rfl,d,Al _,a,b⟩;have k : (m == n) = bb := by simpa using e
 simp only[k,Aj,↓reduceIte];by_cases g:m>1;rw[if_pos g];have c:=b 0 (m-1) (by omega) (by omega);simp only[WD]at c;simp only[SH,c,↓reduceIte];exact⟨m,p,rfl,d,by omega,a,b⟩;rw[if_neg g];obtain rfl:m=1:=by omega
 have c:=a4 (by omega);have two:Ds ck p 2:=λi j h s=>by
  obtain⟨rfl,rfl⟩:i=0/\j=1:=by omega
  exact c
 unfold kas_descPart;rw[UO];obtain⟨r,e,x,w,o⟩:=eX T a (n-(1+1)) (1+1) (by omega) (by omega) two;rw[e];simp only[gt_iff_lt,By,↓reduceIte];unfold kas_tail3;rw[UO];have f:Pn n (kas_rev p 0 r):=a.rev _ _;obtain⟨v,u,l,_⟩:=CM T f (n-r) r (by omega) (by omega) (Ds.rev a (by omega) o);exact⟨_,_,rfl,by omega,by omega,f,l⟩
theorem ME{p:Array Nat}(a:Pn n p){k:Nat}(b:k<n)(h:Sd ck p k):∀f l r,l<=r->r<=k->r-l<=f->(∀i,i<l->ck (WD p i) (WD p k)=ba)->(∀i,r<=i->i<k->ck (WD p k) (WD p i)=ba)->SH ck (kas_place p k f l r)<=k/\(∀i,i<SH ck (kas_place p k f l r)->ck (WD p i) (WD p k)=ba)/\∀i,SH ck (kas_place p k f l r)<=i->i<k->ck (WD p k) (WD p i)=ba
 |0,l,r,q,d,o,u,v=>by
  obtain rfl:l=r:=by omega
  exact⟨d,u,v⟩
 | f + 1,l,r,q,d,o,u,v => by
  unfold kas_place;by_cases g:l≥r;obtain rfl : l = r := by omega
  rw[if_pos g];exact⟨d,u,v⟩;rw[if_neg g];cases c:ck (WD p k) (WD p ((l+r)/2))with
  |true=>
   simp only[SH,c,↓reduceIte];refine ME a b h f l ((l+r)/2) (by omega) (by omega) (by omega) u λi m e=>?_;by_cases z:i=(l+r)/2;rw[z];exact c;exact T.tr _ _ _ (a.lt b) (a.lt (by omega)) (a.lt (by omega)) c (h _ _ (by omega) e)
  |false=>
   simp only[SH,c,Aj,↓reduceIte];have j:=T.tri _ _ (a.lt b) (a.lt (i:=(l+r)/2) (by omega)) (a.inj b (by omega) (by omega)) c;refine ME a b h f ((l+r)/2+1) r (by omega) d (by omega) (λi m=>?_) v;by_cases z:i=(l+r)/2;rw[z];exact j;exact T.tr _ _ _ (a.lt (by omega)) (a.lt (by omega)) (a.lt b) (h _ _ (by omega) (by omega)) j
theorem gB:∀f (p:Array Nat) k,k+f<=n->Pn n p->Sd ck p k->Sd ck (SH ck (kas_bin f p k)) (k+f)
 |0,p,k,_,_,h=>h
 | f + 1,p,k,v,g,h => by
  unfold kas_bin;rw[UO];have r:k<n:=by omega
  obtain⟨a,b,c⟩:=ME T g r h k 0 k (Ch _) (Al _) (by omega) (λi d=>absurd d (Co _)) λi d s=>by omega
  generalize SH ck (kas_place p k k 0 k)=l at a b c;have:=gB f (bubble p k (k-l)) (k+1) (by omega) ((bubble_perm p _ _).toList.trans g) λi j m e=>?_;rw[show k+(f+1)=k+1+f by omega];exact this;have q : k < p.size := by rw [g.sz];exact r
  unfold WD;rw[AN q (by omega),AN q (by omega),show k-(k-l)=l by omega];have lo:∀t,t<l->(if t=l then p.getD k 0 else if l<t/\t<=k then p.getD (t-1) 0 else p.getD t 0)=p.getD t 0:=λt o=>by rw[if_neg (by omega),if_neg (by omega)]
  have d:∀t,l<t->t<=k->(if t=l then p.getD k 0 else if l<t/\t<=k then p.getD (t-1) 0 else p.getD t 0)=p.getD (t-1) 0:=λt o u=>by rw[if_neg (by omega),if_pos ⟨o,u⟩]
  have e:j<=k:=by omega
  rcases Fy i l with z|z|z;rw[lo i z];rcases Fy j l with y|y|y;rw[lo j y];exact h i j m (by omega);rw[if_pos y];exact b i z;rw[d j y e];exact h _ _ (by omega) (by omega);rw [if_pos z,d j (by omega) e];exact c _ (by omega) (by omega);rw [d i z (by omega),d j (by omega) e];exact h _ _ (by omega) (by omega)
def qU(b:1<=n):Sd ck (SH ck (Ot n)) n:=by
 unfold Ot;rw[UO];obtain⟨m,p,e,d,c,a,h⟩:=iG T b;rw[e];by_cases g:m<n;simp only[g,↓reduceIte];rw[show max m 1=m by omega];have:=gB T (n-m) p m (by omega) a h;rwa[show m+(n-m)=n by omega]at this
 simp only[g,↓reduceIte];obtain rfl:m=n:=by omega
 exact h
def BX:(srt0 n ck).Pairwise λi j=>ck i j=ba:=by
 unfold srt0;split;have h := qU T (by omega);have c:Pn n (SH ck (Ot n)):=(C4 (by omega)).ev;have sz:=c.sz;generalize SH ck (Ot n)=p at h c sz;rw[Du];intro i j d a b;have a:j<n:=by simpa[sz]using a
 have:=h i j b a
 simpa[WD,Uz,sz,a,show i<n by omega]using this
 rw[Du];intro i j d a b;simp at a;omega
end
section
variable{prog:Az}{w:Wv}{A:Bz}{E:Wr->Af->Prop}{s:Af}
def nR{v:Wr}{vs:List Wr}{κ:Ov}{ck:Nat->Nat->Bool}{Q:Wr->Af->Prop}(hz:vs.length<=sizeLine)(n:vs.length<64)(u:∀(g:Bz) (l:List Wr->Af->Prop) (z:Wr->Af->Prop),g.handled=A.handled->(∀h' c,s.heap.objs.size<=h'.objs.size->(∀b o,s.heap.get? b=b0 o->h'.get? b=b0 o)->l vs {s with heap:=h',toks:=c})->Wt (Wu prog w) g (Vn v) l z s)(x:2<=vs.length->∀(g:Bz) (E:Wr->Af->Prop) (h':Wz) (c:Nat),(∀b o,s.heap.get? b=b0 o->h'.get? b=b0 o)->∀l:Ov->Af->Prop,l κ {s with heap:=h',toks:=c}->Wt (Wu prog w) g (keyKind' vs.toArray) l E {s with heap:=h',toks:=c})(hc:∀(g:Bz) (h':Wz) (c:Nat),g.units<=A.units+4->(∀b o,s.heap.get? b=b0 o->h'.get? b=b0 o)->∀i j,i<vs.length->j<vs.length->∀C:Bool->Af->Prop,C (ck i j) {s with heap:=h',toks:=c}->Wt (Wu prog w) g (keyLt' κ (vs.getD i Value.none) (vs.getD j Value.none)) C (λ_ _=>False) {s with heap:=h',toks:=c})(h:∀(r:Ws) (h':Wz) (c e:Nat),s.heap.objs.size<=r->(∀b o,s.heap.get? b=b0 o->h'.get? b=b0 o)->h'.get? r=b0 (Gb "list" ((srt0 vs.length ck).map λi=>vs.getD i Value.none).toArray e)->Q (.ref r) {s with heap:=h',toks:=c}):Wt (Wu prog w) A (call (.builtin "sorted") [v]) Q E s:=by
 refine(Ng kind_sorted plain_sorted entry_sorted (args_sorted1 _) ?_);unfold Gy.«sorted»;refine(Aa (m:=checkCount "sorted" 1 1 _) (Ad (Aa (u _ _ _ (by first|rfl|simp) λf c K2 t=>Aa (Ow ?_ (by exact hz))))));dsimp only;have d:(f.push (Gb "list" vs.toArray 0)).get? f.objs.size=b0 (Gb "list" vs.toArray 0):=Ar _ rfl;have keep:∀b o,s.heap.get? b=b0 o->(f.push (Gb "list" vs.toArray 0)).get? b=b0 o/\b≠f.objs.size:=λb o q=>by have q:=t b o q;have k:b<f.objs.size:=As q;exact⟨by rw[Ip _ _ _ (Bd k)];exact q,Bd k⟩
 show(Wt _ _ _ _ _ {s with heap:=f.push (Gb "list" vs.toArray 0),toks:=c});refine(Aa (Bu (Ck slot_list_sort ⟨_,d,rfl⟩ entry_list_sort (MM (s:={s with heap:=f.push (Gb "list" vs.toArray 0),toks:=c}) (κ:=κ) (ck:=ck) d hz n (λp h' k'=>x p _ _ h' c λb o q=>k' b o (keep b o q).2 (keep b o q).1) (λh' k'=>hc _ h' c (by show A.units+1+1<=A.units+4;omega) λb o q=>k' b o (keep b o q).2 (keep b o q).1) ⟨_,rfl,?_⟩) (args_list_sort _))));obtain⟨e,y⟩:=sortedHeap_at (vs:=vs) (out:=((srt0 vs.length ck).map λi=>vs.getD i Value.none).toArray) d;refine(Ad ⟨_,rfl,h _ _ c e ?_ (λb o q=>?_) y⟩);exact K2;rw[sortedHeap_old (keep b o q).2 (As (keep b o q).1)];exact(keep b o q).1
end
end TS
namespace SP
open PySem PySem.SetTable PySem.Spec PySem.W PyProof.Rows TS
def HN{d g:Type}{f:d->g}{xs ys:List g}(h:xs.Perm ys):∀l:List d,ys=l.map f->∃c:List d,xs=c.map f/\c.Perm l:=by
 induction h with
 |nil=>intro l e;exact⟨[],rfl,by rw[List.map_eq_nil_iff.mp e.symm]⟩
 |cons x h n=>
  intro l e;obtain⟨a,t,rfl,rfl,rfl⟩:=Lm.mp e.symm;obtain⟨c,rfl,p⟩:=n t rfl;exact⟨a::c,rfl,p.cons a⟩
 |swap x y t=>
  intro l e;obtain⟨a,v,rfl,rfl,r⟩:=Lm.mp e.symm;obtain⟨b,i,rfl,rfl,rfl⟩:=Lm.mp r;exact⟨b::a::i,rfl,.swap _ _ _⟩
 |trans z w q o=>
  intro l e;obtain⟨m,s,j⟩:=o l e;obtain⟨c,u,k⟩:=q m s;exact⟨c,u,k.trans j⟩
structure IP{prog:Az}{w:Wv}{K:Type}[DecidableEq K](S:SL prog w K) where
 κ:Ov
 lt:K->K->Bool
 ok:K->Prop
 tri:∀a b,a≠b->lt a b=bb->lt b a=ba
 asy:∀a b,lt a b=ba->lt b a=bb
 tr:∀a b c,lt a b=ba->lt b c=ba->lt a c=ba
 kind:∀{A:Bz}{E:Wr->Af->Prop}{s:Af}{Q:Ov->Af->Prop}{l:List (K×Wr)},2<=l.length->(∀p∈l,S.isAt s.heap p.1 p.2/\ok p.1)->Q κ s->Wt (Wu prog w) A (keyKind' (l.map λp=>p.2).toArray) Q E s
 cmp:∀{A:Bz}{s:Af}{C:Bool->Af->Prop}{k k':K}{a b:Wr},A.units+1<cLine->S.isAt s.heap k a->S.isAt s.heap k' b->ok k->ok k'->C (lt k k') s->Wt (Wu prog w) A (keyLt' κ a b) C (λ_ _=>False) s
section
variable{prog:Az}{w:Wv}{A:Bz}{E:Wr->Af->Prop}{s:Af}{K:Type}[DecidableEq K][Inhabited K]{S:SL prog w K}
def J3{a:Type}(l:List a)(d:a):(Ao l.length).map (λi=>l.getD i d)=l:=by
 refine Io λi=>?_;by_cases h:i<l.length;simp[h];simp[h]
def FZ(O:IP S){a:Ws}{l:List (K×Wr)}{Q:Wr->Af->Prop}(hh:A.handled=b4)(hu:A.units+5<cLine)(X:SetV S.isAt S.hsh s.heap a (ledW w) l)(J:l.length<64)(nd:l.Pairwise λp q=>p.1≠q.1)(ok:∀p∈l,O.ok p.1)(h:∀(r:Ws) (h':Wz) (x e:Nat) (H:List (K×Wr)),s.heap.objs.size<=r->(∀b o,s.heap.get? b=b0 o->h'.get? b=b0 o)->H.Perm l->(H.Pairwise λp q=>O.lt p.1 q.1=ba)->h'.get? r=b0 (Gb "list" (H.map λp=>p.2).toArray e)->Q (.ref r) {s with heap:=h',toks:=x}):Wt (Wu prog w) A (call (.builtin "sorted") [.ref a]) Q E s:=by
 obtain⟨o,D,F,t,h1,h2,h3,h4,h5,h6,R,h8⟩:=X;have O0:SOk w o D F t:=⟨h2,h3,h4,h5,h6⟩;obtain⟨f,e0,y⟩:=HN ((V5 (w:=w) (a:=a) (ep:=F) (es:=D)).trans R) l rfl;have hl:f.length=l.length:=y.length_eq;have G:f.Pairwise λp q=>p.1≠q.1:=(y.pairwise_iff λh=>Dg h).mpr nd;have u:∀p∈f,S.isAt s.heap p.1 p.2/\O.ok p.1:=λp B=>⟨h8 p (y.mem_iff.mp B),ok p (y.mem_iff.mp B)⟩;have L:(V4 w a F D).toList.map (·.2)=f.map λp=>p.2:=by rw[e0,Cq];rfl
 have n:(f.map λp=>p.2).length=f.length:=by simp
 have sz:D.size=l.length:=by simpa using R.length_eq
 have small:f.length<=sizeLine:=by
  have:64<=sizeLine:=by decide
  omega
 have WD:∀i,i<f.length->f.getD i default∈f/\(f.map λp=>p.2).getD i Value.none=(f.getD i default).2:=λi m=>by simp[m]
 have T:Tot f.length λi j=>O.lt (f.getD i default).1 (f.getD j default).1:=by
  refine⟨λi j m v I c=>O.tri _ _ ?_ c,λi j _ _ c=>O.asy _ _ c,λi j k _ _ _ c d=>O.tr _ _ _ c d⟩;have g:=Du.mp G;rcases My I with z|z;have:=g i j m v z
  simpa[m,v]using this
  have:=g j i v m z
  simpa[m,v]using this.symm
 refine nR (vs:=f.map λp=>p.2) (κ:=O.κ) (ck:=λi j=>O.lt (f.getD i default).1 (f.getD j default).1) (by rw[n];exact small) (by rw[n,hl];exact J) (λA' Q' E' P hQ=>?_) (λY A E h' x k' Q' q=>?_) (λA' h' x P k' i j m v C q=>?_) λr h' x e Z k' N=>?_;refine G2 (P.trans hh) h1 O0 (by omega) λh' x e1 k' => ?_;rw[L];exact hQ h' x e1 k';exact O.kind (by rw[<-n];exact Y) (λp B=>⟨S.stays (u p B).1 λb o e _=>k' b o e,(u p B).2⟩) q;rw[n]at m v;rw[(WD i m).2,(WD j v).2];have V:=u _ (WD i m).1;have U:=u _ (WD j v).1;exact O.cmp (by omega) (S.stays V.1 λb o e _=>k' b o e) (S.stays U.1 λb o e _=>k' b o e) V.2 U.2 q;rw[n]at N;have W:((srt0 f.length λi j=>O.lt (f.getD i default).1 (f.getD j default).1).map λi=>f.getD i default).Perm f:=by
  have:=(RX f.length λi j=>O.lt (f.getD i default).1 (f.getD j default).1).map λi=>f.getD i default
  rwa[J3]at this
 refine h r h' x e _ Z k' (W.trans y) (Fj.mpr (BX T)) ?_;rw[N,Cq];congr 2;refine congrArg Le (Eb λi m=>?_);have m:=Bj.mp ((RX _ _).mem_iff.mp m);exact(WD i m).2
end
theorem PJ:∀a b:List Int,a≠b->lexL a b=bb->lexL b a=ba
 |[],[],h,_=>absurd rfl h
 |[],_::_,_,h=>by simp[lexL]at h
 |_::_,[],_,_=>rfl
 | a :: d,b :: bs,h,c => by
  by_cases e:a=b;subst e;simp only[lexL,↓reduceIte]at c⊢;exact PJ d bs (λz=>h (by rw[z])) c;simp only[lexL,e,Dg e,↓reduceIte,decide_eq_false_iff_not,decide_eq_true_eq]at c⊢;omega
theorem VD:∀a b:List Int,lexL a b=ba->lexL b a=bb
 |[],[],h=>by simp[lexL]at h
 |[],_::_,_=>rfl
 |_::_,[],h=>by simp[lexL]at h
 | a :: d,b :: bs,c => by
  by_cases e:a=b;subst e;simp only[lexL,↓reduceIte]at c⊢;exact VD d bs c;simp only[lexL,e,Dg e,↓reduceIte,decide_eq_false_iff_not,decide_eq_true_eq]at c⊢;omega
theorem LW:∀a b c:List Int,lexL a b=ba->lexL b c=ba->lexL a c=ba
 |[],[],_,h,_=>by simp[lexL]at h
 |[],_::_,[],_,h=>by simp[lexL]at h
 |[],_::_,_::_,_,_=>rfl
 |_::_,[],_,h,_=>by simp[lexL]at h
 |_::_,_::_,[],_,h=>by simp[lexL]at h
 | a :: j,b :: bs,c :: i,f,d => by
  by_cases e:a=b;subst e;by_cases g:a=c;subst g;simp only[lexL,↓reduceIte]at f d⊢;exact LW j bs i f d;simp only[lexL,g,↓reduceIte]at f d⊢;exact d;by_cases g:b=c;subst g;simp only[lexL,e,↓reduceIte]at f d⊢;exact f;simp only[lexL,e,g,↓reduceIte,decide_eq_true_eq]at f d⊢;rw[if_neg (by omega)];simp;omega
section
variable{prog:Az}{w:Wv}{A:Bz}{E:Wr->Af->Prop}{s:Af}
def HA{h:Wz}{ks:List Int}{a:Ws}(f:IT prog w h ks a):∃xs:List Wr,IsTup h a xs.toArray/\Ie xs ks:=by
 obtain⟨o,b,n,e,hc,i,g⟩:=f;refine⟨b.toList,⟨o,e,hc,n,by simpa using i⟩,?_⟩
 have:∀{ks:List Int}{c:List Wr},ItemsAre (intKind prog w) ks c->Ie c ks:=by
  intro ks c h;induction h with
  |nil=>exact .nil
  | @cons k v ks c j _ d=>
   obtain⟨t,rfl⟩:=Eg j;exact .cons k t d
 exact this g
theorem hV{h:Wz}:∀{l:List (List Int×Wr)},(∀p∈l,(tupS prog w).isV h p.1 p.2/\p.1≠[])->PtI h (l.map λp=>p.2) (l.map (·.1))
 |[],_=>trivial
 |p::l,b=>by obtain⟨⟨a,e,q⟩,n⟩:=b p Ag;obtain⟨c,g,f⟩:=HA q;exact⟨⟨a,c,e,g,f,n⟩,hV λq d=>b q (Ai _ d)⟩
def zDD(prog:Az)(w:Wv):IP (tupS prog w).sl where
 κ:=tuples' ba
 lt:=lexL
 ok:=λk=>k≠[]
 tri:=PJ
 asy:=VD
 tr:=LW
 kind:=λb d q=>by obtain⟨fs,a,f,e⟩:=(hV (prog:=prog) (w:=w) d).tups;refine kat_kind (T:=.type "int") a (by rw[f];simp;omega) (λv c=>?_) (by decide) q;obtain⟨i,t,rfl⟩:=e v c;exact Looks.now
 cmp:=λ_ a b _ _ q=>by obtain⟨_,rfl,a⟩:=a;obtain⟨_,rfl,b⟩:=b;obtain⟨n,l,j⟩:=HA a;obtain⟨m,h,g⟩:=HA b;exact dM l h j g q
end
noncomputable def insU{K:Type}[DecidableEq K](lt:K->K->Bool)(x:K):List K->List K
 |[]=>[x]
 |y::a=>if x=y then y::a else if lt x y then x::y::a else y::insU lt x a
def upL{K:Type}[DecidableEq K](lt:K->K->Bool)(ks:List K):List K:=ks.foldr (insU lt) []
section
variable{K:Type}[DecidableEq K]{lt:K->K->Bool}
theorem LZ{x z:K}:∀{l:List K},z∈insU lt x l↔z=x∨z∈l
 |[]=>by simp[insU]
 | y :: a => by
  unfold insU;split;rename_i e;subst e;simp
  ·split
   simp
   ·simp[LZ (l:=a)]
    constructor
    ·rintro (h|h|h)<;>simp[h]
    ·rintro (h|h|h)<;>simp[h]
theorem PN{z:K}:∀{l:List K},z∈upL lt l↔z∈l
 |[]=>by simp[upL]
 |y::a=>by show z∈insU lt y (upL lt a)↔_;rw[LZ,PN (l:=a)];simp
variable(tri:∀a b,a≠b->lt a b=bb->lt b a=ba)(asy:∀a b,lt a b=ba->lt b a=bb)(tr:∀a b c,lt a b=ba->lt b c=ba->lt a c=ba)
include tri tr
theorem B6{x:K}:∀{l:List K},(l.Pairwise λa b=>lt a b=ba)->(insU lt x l).Pairwise λa b=>lt a b=ba
 |[],_=>by simp[insU]
 | y :: i,h => by
  obtain⟨d,f⟩:=De.mp h;unfold insU;split;exact h;rename_i e;split;rename_i g;refine De.mpr ⟨λz c=>?_,h⟩;rcases Ak.mp c with rfl|c;exact g;exact tr _ _ _ g (d z c);rename_i g;refine De.mpr ⟨λz c=>?_,B6 f⟩;rcases LZ.mp c with rfl|c;exact tri _ _ e (Kq.mpr g);exact d z c
theorem D8:∀{l:List K},(upL lt l).Pairwise λa b=>lt a b=ba
 |[]=>.nil
 |y::c=>B6 tri tr (D8 (l:=c))
omit tri tr
include asy
theorem NA:∀{l m:List K},(l.Pairwise λa b=>lt a b=ba)->(m.Pairwise λa b=>lt a b=ba)->(∀z,z∈l↔z∈m)->l=m
 |[],[],_,_,_=>rfl
 |[],y::_,_,_,e=>absurd ((e y).mpr Ag) (by simp)
 |x::_,[],_,_,e=>absurd ((e x).mp Ag) (by simp)
 | x :: l,y :: m,h,g,e => by
  obtain⟨j,n⟩:=De.mp h;obtain⟨k,o⟩:=De.mp g;have d:∀z,lt z z=ba->False:=λz c=>by have:=asy _ _ c;rw[c]at this;cases this
  have i:x=y:=by
   rcases Ak.mp ((e x).mp Ag)with z|z;exact z;rcases Ak.mp ((e y).mpr Ag)with u|u;exact u.symm;have a:=k x z;have b:=asy _ _ (j y u);rw[a]at b;cases b
  subst i;rw[NA n o λz=>?_];constructor;intro f;rcases Ak.mp ((e z).mp (Ai _ f))with u|u;subst u;exact(d _ (j _ f)).elim;exact u;intro f;rcases Ak.mp ((e z).mpr (Ai _ f))with u|u;subst u;exact(d _ (k _ f)).elim;exact u
end
section
variable{prog:Az}{w:Wv}{A:Bz}{E:Wr->Af->Prop}{s:Af}
abbrev KP:=List Int×List Int
def XM(prog:Az)(w:Wv)(h:Wz)(k:KP)(a:Ws):Prop:=∃o x y n,h.get? a=b0 o/\o.cls=.type "tuple" /\o.data=.seq #[.ref x,.ref y] n/\IT prog w h k.1 x/\IT prog w h k.2 y
def XM.typeIs{k:KP}{a:Ws}(h:XM prog w s.heap k a):s.TypeIs (.ref a) "tuple":=let ⟨o,_,_,_,b,hc,_⟩:=h;⟨o,b,hc⟩
def Yh(prog:Az)(w:Wv)(k:KP):Int:=reduceHash (Fk [Gs (intKind prog w) k.1,Gs (intKind prog w) k.2])
def XM.inj{h:Wz}{a:Ws}{k k':KP}(q:XM prog w h k a)(p:XM prog w h k' a):k=k':=by obtain⟨o,x,y,n,l,_,m,j,i⟩:=q;obtain⟨g,s,r,t,f,_,b,d,c⟩:=p;obtain rfl:o=g:=Cd (l.symm.trans f);rw[m]at b;injection b with e _;simp at e;obtain⟨rfl,rfl⟩:=e;exact Vg (j.inj d) (i.inj c)
def IT.keep{h h':Wz}{ks:List Int}{a:Ws}(x:IT prog w h ks a)(kp:∀b o,h.get? b=b0 o->o.cls=.type "tuple" ->h'.get? b=b0 o):IT prog w h' ks a:=
 let ⟨o,c,n,d,hc,f,e⟩:=x;⟨o,c,n,kp _ o d hc,hc,f,e⟩
def XM.keep{h h':Wz}{k:KP}{a:Ws}(x:XM prog w h k a)(kp:∀b o,h.get? b=b0 o->o.cls=.type "tuple" ->h'.get? b=b0 o):XM prog w h' k a:=
 let ⟨o,u,v,n,c,hc,d,f,e⟩:=x;⟨o,u,v,n,kp _ o c hc,hc,d,f.keep kp,e.keep kp⟩
def t9{k:KP}{a:Ws}{Q:Int->Af->Prop}(m:A.units+4<cLine)(f:XM prog w s.heap k a)(h:Q (Yh prog w k) {s with toks:=s.toks+(k.1.length+1+(k.2.length+1)+1)}):Wt (Wu prog w) A (pyHash (.ref a)) Q E s:=by
 have e:=f.typeIs;obtain⟨o,x,y,n,j,_,l,i,g⟩:=f;unfold pyHash;first|unfold pyHashByItsType|skip
 first|refine Aa (wpAny_cRoomFor_or (.inr (by omega)) ?_)|skip
 refine Aa (Fd e PySem.F.slot_tuple_hash.lookup ?_);show Wt _ _ (if(b0 (Vo "tuple.__hash__")==b0 Value.none)=ba then _ else _) Q E s;rw[if_neg (by rw[beq_builtin_none];exact Db)];refine Aa (Fd e PySem.F.slot_tuple_hash.lookup ?_);show Wt _ _ (callSpecialIfBoundUnlessNone? (.ref a) "__hash__" _>>=_) Q E s;refine Aa (wpAny_callSpecialIfBoundUnlessNone?_slot e Oz (Ck Oz e PySem.F.entry_tuple_hash ?_ (PySem.F.args_tuple_hash_1 _)));show Wt _ _ (Iq (.ref a)>>=_) _ _ s;refine Aa (Ia j l ?_);refine Aa ?_;rw[<-Ek];show Wt _ _ (forIn [Bb x,Bb y] _ _) _ _ s;simp only[Fo,Gw];have c:A.in1.units<cLine:=by show A.units+1<cLine;omega
 refine Aa (Aa (Se c i (Ad ?_)));dsimp only;refine Aa (Aa (Se (s:={s with toks:=s.toks+(k.1.length+1)}) c g (Ad ?_)));dsimp only;refine Ad ?_;refine wpAny_ret_mkInt ?_;show Wt _ _ (if(decide (-(2:Int) ^ 63<=Fk [Gs (intKind prog w) k.1,Gs (intKind prog w) k.2])&&decide (Fk [Gs (intKind prog w) k.1,Gs (intKind prog w) k.2]<2 ^ 63))=ba then _ else _) Q E _;unfold Yh reduceHash at h;by_cases d:(decide (-(2:Int) ^ 63<=Fk [Gs (intKind prog w) k.1,Gs (intKind prog w) k.2])&&decide (Fk [Gs (intKind prog w) k.1,Gs (intKind prog w) k.2]<2 ^ 63))=ba;rw[if_pos d];rw[if_pos d]at h;exact Ad (by simpa[Sf]using h);rw[if_neg d];rw[if_neg d]at h;exact Aa (Gh (Ad (by simpa[Sf]using h)))
def HM{k k':KP}{a b:Ws}{P:Fin->Af->Prop}(l:A.units<cLine)(u:XM prog w s.heap k a)(m:XM prog w s.heap k' b)(h:P (.done (.ret (.bool (decide (k=k'))))) s):Wt (Wu prog w) A (Gy.«tuple.__eq__» ⟨[.ref a,.ref b],[]⟩) P E s:=by
 have j:=m.typeIs;obtain⟨z,x,y,C,f,_,i,t,r⟩:=u;obtain⟨v,q,p,B,e,_,g,d,c⟩:=m;show Wt _ _ (Sx (.ref b) (.type "tuple")>>=_) _ _ s;refine Aa (Gi j Ik ?_);simp only[Cn,Aj,if_false];refine Aa (Ia f i ?_);refine Aa (Ia e g ?_);refine Aa ?_;show Wt _ _ (forIn [(Bb x,Bb q),(Bb y,Bb p)] _ _) _ _ s;simp only[Fo,Gw];refine Aa (Aa (Ib l t d ?_));have ext:decide (k=k')=(decide (k.1=k'.1)&&decide (k.2=k'.2)):=by rw[<-Mh];exact decide_eq_decide.mpr Prod.ext_iff
 rw[ext]at h;cases o:decide (k.1=k'.1)with
 |false=>
  rw[o]at h;simp only[Fv,if_true];exact Aa (Ad (Ad (Ad (Ad h))))
 |true=>
  rw[o]at h;simp only[Cn,Aj,if_false];refine Ad ?_;dsimp only;refine Aa (Aa (Ib l r c ?_));cases n:decide (k.2=k'.2)with
  |false=>
   rw[n]at h;simp only[Fv,if_true];exact Aa (Ad (Ad (Ad (Ad h))))
  |true=>
   rw[n]at h;simp only[Cn,Aj,if_false];exact Ad (Ad (Ad h))
def pf{k k':KP}{a b:Ws}{Q:Bool->Af->Prop}(g:A.units+4<cLine)(d:XM prog w s.heap k a)(f:XM prog w s.heap k' b)(h:Q (decide (k=k')) s):Wt (Wu prog w) A (eqBool (.ref a) (.ref b)) Q E s:=by
 unfold eqBool;try with_reducible refine Bu ?_
 show Wt _ _ (if(Bb a==Bb b)=ba then _ else _) Q E s;by_cases c:(Bb a==Bb b)=ba;rw[if_pos c];have e:a=b:=by have:=eq_of_beq c;injection this
 subst e;obtain rfl:=d.inj f;exact Aa (Gh (Ad (by simpa using h)));rw[if_neg c];exact Aa (Mi (op:=.Eq) d.typeIs f.typeIs Qh
  (Ck Qh d.typeIs PySem.F.entry_tuple_eq (HM (by show A.units+1<cLine;omega) d f ⟨_,rfl,(λe=>nomatch e),Eh h⟩) (PySem.F.args_tuple_eq_2 _ _)) (by omega))
end
section
variable{prog:Az}{w:Wv}{A:Bz}{E:Wr->Af->Prop}{s:Af}
section
variable{ks:List Int}{a:Ws}{Q:Bool->Af->Prop}
def BI(f:Nat)(i:IT prog w s.heap ks a)(h:Q ba s):Wt (Wu prog w) A (Sb (f+1) (.ref a)) Q E s:=by
 have j:=i.typeIs;obtain⟨o,c,n,l,_,p,m⟩:=i;unfold Sb;refine Aa (Fd j PySem.F.slot_tuple_eq.lookup ?_);show Wt _ _ (Sx (.ref a) (.type "tuple")>>=_) _ _ s;refine Aa (Gi j Ik ?_);simp only[Cn,Aj,if_false];refine Aa (Cy l p ?_);refine Aa ?_;show Wt _ _ (forIn c _ _) _ _ s;rw[<-Ek];refine Gj _ (λb r d=>r.1=b4/\d=s/\∀v∈b,carriedByValue v=ba) _ ?_ ?_ _ _ ⟨rfl,rfl,m.byValue⟩;rintro v b r d ⟨g,rfl,k⟩;rw[eqIsQuiet_byValue _ (k v Ag)];refine Aa (Ad ?_);simp only[Cn,Aj,if_false];exact Ad ⟨rfl,rfl,λu e=>k u (Ai _ e)⟩;rintro ⟨t,q⟩ d ⟨g,rfl,_⟩;simp only at g;subst g;exact Ad h
def dZ(f:Nat)(g:IT prog w s.heap ks a)(h:Q ba s):Wt (Wu prog w) A (Ff (f+1) (.ref a)) Q E s:=by
 have q:=g.typeIs;obtain⟨o,c,n,k,_,p,l⟩:=g;unfold Ff;refine Aa (Fd q PySem.F.slot_tuple_hash.lookup ?_);dsimp only;refine Aa (Cy k p ?_);refine Aa ?_;show Wt _ _ (forIn c _ _) _ _ s;rw[<-Ek];refine Gj _ (λb r d=>r.1=b4/\d=s/\∀v∈b,∃n t,v=Kx n t) _ ?_ ?_ _ _ ⟨rfl,rfl,M3 l⟩
 ·rintro v b r d ⟨e,rfl,i⟩
  obtain⟨m,t,rfl⟩:=i v Ag;rw[show Ff f (.int m t)=pure ba by unfold Ff;first|rfl|(cases f<;>rfl)];refine Aa (Ad ?_);simp only[Cn,Aj,↓reduceIte];exact Ad ⟨rfl,rfl,λu j=>i u (Ai _ j)⟩
 rintro ⟨y,x⟩ d ⟨e,rfl,_⟩;simp only at e;subst e;exact Ad h
def fH(f:Nat)(g:IT prog w s.heap ks a)(h:Q bb s):Wt (Wu prog w) A (Dv (f+1) (.ref a)) Q E s:=by
 have q:=g.typeIs;obtain⟨o,d,n,k,_,p,l⟩:=g;unfold Dv;refine Aa (Fn q ?_);dsimp only;simp only[beq_self_eq_true,↓reduceIte,pure_bind,Cn,Aj];refine Aa (Cy k p ?_);dsimp only;refine Aa ?_;rw[<-Ek];refine Gj _ (λb r c=>r.1=b4/\c=s/\∀v∈b,∃n t,v=Kx n t) _ ?_ ?_ _ _ ⟨rfl,rfl,M3 l⟩
 ·rintro v b r c ⟨e,rfl,i⟩
  obtain⟨m,t,rfl⟩:=i v Ag;rw[show Dv f (.int m t)=pure bb by unfold Dv;first|rfl|(cases f<;>rfl)];refine Aa (Ad ?_);simp only[Aj,↓reduceIte];exact Ad ⟨rfl,rfl,λu j=>i u (Ai _ j)⟩
 rintro ⟨y,x⟩ c ⟨e,rfl,_⟩;simp only at e;subst e;exact Ad h
def BH{k:KP}(b:XM prog w s.heap k a)(h:Q ba s):Wt (Wu prog w) A (Sb 8 (.ref a)) Q E s:=by have c:=b.typeIs;obtain⟨o,x,y,n,f,_,g,e,d⟩:=b;unfold Sb;refine Aa (Fd c PySem.F.slot_tuple_eq.lookup ?_);show Wt _ _ (Sx (.ref a) (.type "tuple")>>=_) _ _ s;refine Aa (Gi c Ik ?_);simp only[Cn,Aj,if_false];refine Aa (Cy f g ?_);refine Aa ?_;show Wt _ _ (forIn #[Bb x,Bb y] _ _) _ _ s;rw[<-Ek];show Wt _ _ (forIn [Bb x,Bb y] _ _) _ _ s;simp only[Fo,Gw];refine Aa (Aa (BI 6 e ?_));simp only[Cn,Aj,if_false];refine Ad ?_;dsimp only;refine Aa (Aa (BI 6 d ?_));simp only[Cn,Aj,if_false];exact Ad (Ad (Ad h))
def qD{k:KP}(b:XM prog w s.heap k a)(h:Q ba s):Wt (Wu prog w) A (Ff 8 (.ref a)) Q E s:=by have g:=b.typeIs;obtain⟨o,x,y,n,e,_,f,d,c⟩:=b;unfold Ff;refine Aa (Fd g PySem.F.slot_tuple_hash.lookup ?_);dsimp only;refine Aa (Cy e f ?_);refine Aa ?_;show Wt _ _ (forIn #[Bb x,Bb y] _ _) _ _ s;rw[<-Ek];show Wt _ _ (forIn [Bb x,Bb y] _ _) _ _ s;simp only[Fo,Gw];refine Aa (Aa (dZ 6 d ?_));simp only[Cn,Aj,if_false];refine Ad ?_;dsimp only;refine Aa (Aa (dZ 6 c ?_));simp only[Cn,Aj,if_false];exact Ad (Ad (Ad h))
def mz{k:KP}(b:XM prog w s.heap k a)(h:Q bb s):Wt (Wu prog w) A (Dv 8 (.ref a)) Q E s:=by have g:=b.typeIs;obtain⟨o,x,y,n,e,_,f,d,c⟩:=b;unfold Dv;refine Aa (Fn g ?_);dsimp only;simp only[beq_self_eq_true,↓reduceIte,pure_bind,Cn,Aj];refine Aa (Cy e f ?_);dsimp only;refine Aa ?_;rw[<-Ek];show Wt _ _ (forIn [Bb x,Bb y] _ _) _ _ s;simp only[Fo,Gw];refine Aa (Aa (fH 6 d ?_));simp only[Aj,if_false];refine Ad ?_;dsimp only;refine Aa (Aa (fH 6 c ?_));simp only[Aj,if_false];exact Ad (Ad (Ad h))
end
end
section
variable{prog:Az}{w:Wv}{A:Bz}{E:Wr->Af->Prop}{s:Af}
def jY{x y:List Int}{a b:Ws}{P:Fin->Af->Prop}(Y:IT prog w s.heap x a)(T:IT prog w s.heap y b)(h:P (.done (.ret (.bool (lexL x y)))) s):Wt (Wu prog w) A (Gy.«tuple.__lt__» ⟨[.ref a,.ref b],[]⟩) P E s:=by
 have R:=T.typeIs;obtain⟨oa,C,na,K,_,Q,N⟩:=Y;obtain⟨ob,z,nb,J,_,O,M⟩:=T;show Wt _ _ (Sx (.ref b) (.type "tuple")>>=_) _ _ s;refine Aa (Gi R Ik ?_);simp only[Cn,Aj,if_false];refine Aa (Ia K Q ?_);refine Aa (Ia J O ?_);refine Aa ?_;refine Gj _
  (λg r m=>r.1=b4/\m=s/\∃D B d c,g=List.zip d c/\Kw (intKind prog w) D d/\Kw (intKind prog w) B c/\lexL D B=lexL x y/\decide (d.length<c.length)=decide (C.size<z.size))
  _ ?_ ?_ _ _ ⟨rfl,rfl,x,y,C.toList,z.toList,rfl,N,M,rfl,by simp⟩
 ·rintro ⟨u,v⟩ g r m ⟨I,rfl,D,B,d,c,j,i,f,F,e⟩
  cases i with
  |nil=>simp at j
  | @cons o u' H l W q=>
   cases f with
   |nil=>simp at j
   | @cons n v' G k V p=>
    simp only[Mx,Hf,Prod.mk.injEq]at j;obtain⟨⟨rfl,rfl⟩,rfl⟩:=j;refine Aa ((intKind prog w).eqBool (a:=o) (b:=n) W V ?_);by_cases L:o=n;subst L;rw[decide_eq_true rfl];simp only[Cn,Aj,if_false];refine Ad ⟨rfl,rfl,H,G,l,k,rfl,q,p,?_,by simpa using e⟩;rw[<-F];simp[lexL]
    ·rw[decide_eq_false L]
     simp only[Fv,if_true];have Z:lexL x y=decide (o<n):=by rw[<-F];simp[lexL,L]
     rw[Z]at h;obtain⟨t,rfl⟩:=Eg W;obtain⟨X,rfl⟩:=Eg V;refine Aa (Gh (Aa (Cg (show Wt (Wu prog w) A (richCompare .Lt (.int o t) (.int n X)) (Vd λb S=>b=decide (o<n)/\S=m) _ _ from lt_int ⟨rfl,rfl⟩) (λv S U=>?_) λ_ _ x=>x)));cases v<;>first|exact U.elim|skip
     obtain⟨rfl,rfl⟩:=U;exact Aa (Ad (Ad (Ad h)))
 rintro ⟨r1,r2⟩ m ⟨I,rfl,D,B,d,c,j,i,f,F,e⟩;simp only at I;subst I;refine Ad ?_;show P (.done (.ret (.bool (decide (C.size<z.size))))) m;have da:decide (C.size<z.size)=lexL x y:=by
  rw[<-F,<-e];cases i with
  |nil=>
   cases f with
   |nil=>simp[lexL]
   |cons _ _=>simp[lexL]
  |cons _ _=>
   cases f with
   |nil=>simp[lexL]
   |cons _ _=>simp at j
 rw[da];exact h
def Zs{x y:List Int}{a b:Ws}{Q:Bool->Af->Prop}(f:A.units<cLine)(c:IT prog w s.heap x a)(d:IT prog w s.heap y b)(h:Q (lexL x y) s):Wt (Wu prog w) A (Dh .Lt (.ref a) (.ref b)) (Vd Q) E s:=
 show Wt (Wu prog w) A (richCompare .Lt (.ref a) (.ref b)) (Vd Q) E s from
  Mi (op:=.Lt) c.typeIs d.typeIs Qi (Ck Qi c.typeIs PySem.F.entry_tuple_lt (jY c d ⟨_,rfl,(λe=>nomatch e),h⟩) (PySem.F.args_tuple_lt_2 _ _)) f
end
section
variable{prog:Az}{w:Wv}{A:Bz}{E:Wr->Af->Prop}{s:Af}
def zEP(prog:Az)(w:Wv):SK prog w KP where
 is:=XM prog w
 hash:=Yh prog w
 draws:=λk=>k.1.length+1+(k.2.length+1)+1
 room:=λA=>A.units+4<cLine
 inj:=λg f=>g.inj f
 keeps:=λ{h y k a d o z B} x l p j=>by
  obtain⟨q,u,v,n,e,hc,c,t,s⟩:=x;have m:a≠d:=by rintro rfl;obtain rfl:q=o:=Cd (e.symm.trans l);rw[p]at c;cases c
  exact⟨q,u,v,n,(j.2 a m).trans e,hc,c,t.keeps l p j,s.keeps l p j⟩
 pyHash:=λi b h=>t9 i b h
 eqBool:=λi g f h=>pf i g f h
 quiet:=λb h=>BH b h
 byVal:=λb h=>qD b h
 shy:=λb=>⟨λh=>BH b h,λh=>mz b h⟩
 keep:=λb r=>b.keep r
def lexP(a b:KP):Bool:=if a.1=b.1 then lexL a.2 b.2 else lexL a.1 b.1
theorem jw:∀a b:KP,a≠b->lexP a b=bb->lexP b a=ba
 | (a1,g),(d,f),h,c => by
  by_cases e:a1=d;subst e;simp only[lexP,↓reduceIte]at c⊢;exact PJ _ _ (λz=>h (by rw[z])) c;simp only[lexP,e,Dg e,↓reduceIte]at c⊢;exact PJ _ _ e c
theorem oX:∀a b:KP,lexP a b=ba->lexP b a=bb
 | (a1,g),(d,f),c => by
  by_cases e:a1=d;subst e;simp only[lexP,↓reduceIte]at c⊢;exact VD _ _ c;simp only[lexP,e,Dg e,↓reduceIte]at c⊢;exact VD _ _ c
theorem iN:∀a b c:KP,lexP a b=ba->lexP b c=ba->lexP a c=ba
 | (a1,m),(j,l),(i,k),f,d => by
  by_cases e:a1=j;subst e;by_cases g:a1=i;subst g;simp only[lexP,↓reduceIte]at f d⊢;exact LW _ _ _ f d;simp only[lexP,g,↓reduceIte]at f d⊢;exact d;by_cases g:j=i;subst g;simp only[lexP,e,↓reduceIte]at f d⊢;exact f;simp only[lexP,e,g,↓reduceIte]at f d⊢;have h:=LW _ _ _ f d;rw[if_neg (λz=>by subst z;rw[VD _ _ f]at d;cases d)];exact h
theorem MC{h:Wz}:∀{l:List (KP×Wr)},(∀p∈l,(zEP prog w).isV h p.1 p.2)->∃fs,KatTups h (l.map λp=>p.2) fs/\fs.length=l.length/\∀v∈fs,∃b o,v=.ref b/\h.get? b=b0 o/\o.cls=.type "tuple"
 |[],_=>⟨[],trivial,rfl,λ_ h=>by cases h⟩
 | p :: l,d => by
  obtain⟨fs,s,r,m⟩:=MC λq i=>d q (Ai _ i);obtain⟨a,e,o,x,y,n,j,hc,k,g,z⟩:=d p Ag;refine⟨.ref x::fs,by rw[Av,e];exact Wd j hc k rfl s,by simp[r],λv c=>?_⟩;rcases Ak.mp c with rfl|c
  obtain⟨f,_,_,u,t,_⟩:=g;exact⟨x,f,rfl,u,t⟩;exact m v c
def zBQ(prog:Az)(w:Wv):IP (zEP prog w).sl where
 κ:=tuples' bb
 lt:=lexP
 ok:=λ_=>True
 tri:=jw
 asy:=oX
 tr:=iN
 kind:=λ{A E s Q l} t D q=>by obtain⟨fs,j,J,I⟩:=MC (prog:=prog) (w:=w) λp B=>(D p B).1;refine kat_kind (T:=.type "tuple") j (by rw[J];omega) (λv u=>?_) (by decide) q;obtain⟨b,o,rfl,K,g⟩:=I v u;exact λA Q E s k q=>Fn ⟨o,k _ _ K,g⟩ q
 cmp:=λ{A s C k k' a b} P j t _ _ q=>by
  obtain⟨a,rfl,o,x,y,n,F,hc,G,r,m⟩:=j;obtain⟨b,rfl,N,M,L,O,h,H,i,f,d⟩:=t;refine kat_lt F G h i (kat_cons (Ib (by omega) r f (kat_go (λe=>kat_yes (kat_cons (Ib (by omega) m d (kat_go (λg=>kat_yes (kat_nil ?_)) λg=>kat_no (kat_one _ _ (Zs (by omega) m d ?_)))))) λe=>kat_no (kat_one _ _ (Zs (by omega) r f ?_)))));have z : lexP k k' = bb := by unfold lexP;rw [if_pos (of_decide_eq_true e),of_decide_eq_true g];exact Kq.mpr λc => by have := VD _ _ c;rw [c]at this;cases this
  rw[z]at q;exact q;have z : lexP k k' = lexL k.2 k'.2 := by unfold lexP;rw [if_pos (of_decide_eq_true e)]
  rw[z]at q;exact q;have z : lexP k k' = lexL k.1 k'.1 := by unfold lexP;rw [if_neg (of_decide_eq_false e)]
  rw[z]at q;exact q
end
section
variable{K:Type}[DecidableEq K]{kr:Nat->K×Wr}
theorem SD:∀{n:Nat}{p:K×Wr},p∈gath kr n->∃j,j<n/\p=kr j
 |0,_,h=>by cases h
 | n + 1,p,h => by
  have h:p∈addK (gath kr n) (kr n):=h;unfold addK at h;split at h;obtain⟨j,b,a⟩:=SD h;exact⟨j,by omega,a⟩;rcases Bq.mp h with h|h;obtain⟨j,b,a⟩:=SD h;exact⟨j,by omega,a⟩;exact⟨n,by omega,Aq.mp h⟩
theorem LP:∀{n j:Nat},j<n->∃p∈gath kr n,p.1=(kr j).1
 |0,_,h=>by omega
 | n + 1,j,h => by
  show∃p∈addK (gath kr n) (kr n),_;unfold addK;split;rename_i c;rcases Lf j n with z|z;exact LP z;obtain rfl : j = n := by omega
  obtain⟨p,a,e⟩:=Ef.mp c;exact⟨p,a,of_decide_eq_true e⟩;rcases Lf j n with z|z;obtain⟨p,a,e⟩:=LP z;exact⟨p,Bw _ a,e⟩;obtain rfl : j = n := by omega
  exact⟨kr j,Be _ (Aq.mpr rfl),rfl⟩
theorem G8:∀{n:Nat},(gath kr n).Pairwise λp q=>p.1≠q.1
 |0=>.nil
 | n + 1 => by
  show(addK (gath kr n) (kr n)).Pairwise _;unfold addK;split;exact G8;rename_i c;refine Gx.mpr ⟨G8,by simp,λp b q a e=>c ?_⟩;rw[Aq.mp a]at e;exact Ef.mpr ⟨p,b,decide_eq_true e⟩
theorem Yr{n:Nat}:∀{l:List (K×Wr)},(∀p∈l,∃j,j<n/\p=kr j)->∃a:List Nat,(∀i∈a,i<n)/\l=a.map kr
 |[],_=>⟨[],λ_ h=>(nomatch h),rfl⟩
 |p::l,h=>by
  obtain⟨a,g,f⟩:=Yr λq c=>h q (Ai _ c);obtain⟨j,e,d⟩:=h p Ag;refine⟨j::a,λi b=>?_,by rw[d,f];rfl⟩;rcases Ak.mp b with rfl|b
  exact e;exact g i b
end
section
variable{prog:Az}{w:Wv}{A:Bz}{E:Wr->Af->Prop}{s:Af}{K:Type}[DecidableEq K][Inhabited K]{S:SL prog w K}
def FY(O:IP S){a:Ws}{kr:Nat->K×Wr}{n:Nat}{Q:Wr->Af->Prop}(y:A.handled=b4)(u:A.units+5<cLine)(X:SetV S.isAt S.hsh s.heap a (ledW w) (gath kr n))(C:n<64)(ok:∀j,j<n->O.ok (kr j).1)(h:∀(r:Ws) (h':Wz) (g e:Nat) (c:List Nat),s.heap.objs.size<=r->(∀b o,s.heap.get? b=b0 o->h'.get? b=b0 o)->(∀i∈c,i<n)->c.length<=n->(c.map λi=>(kr i).1)=upL O.lt ((Ao n).map λi=>(kr i).1)->h'.get? r=b0 (Gb "list" (c.map λi=>(kr i).2).toArray e)->Q (.ref r) {s with heap:=h',toks:=g}):Wt (Wu prog w) A (call (.builtin "sorted") [.ref a]) Q E s:=by
 have le:=MX kr n;refine FZ O y u X (by omega) G8 (λp d=>?_) λr h' g e G v k' k t B=>?_;obtain⟨j,f,rfl⟩:=SD d;exact ok j f;obtain ⟨c,f,rfl⟩ := Yr (kr := kr) (n := n) λp d => SD (k.mem_iff.mp d);refine h r h' g e c v k' f (by have:=k.length_eq;simp at this;omega) (NA O.asy (by rw[Cq]at*;exact Fj.mpr (Fj.mp t)) (D8 O.tri O.tr) λz=>?_) (by rw[B,Cq];rfl);rw[PN];constructor;intro l;obtain⟨i,m,rfl⟩:=Aw.mp l;exact Aw.mpr ⟨i,Bj.mpr (f i m),rfl⟩;intro l;obtain⟨j,x,rfl⟩:=Aw.mp l;obtain⟨p,d,F⟩:=LP (kr:=kr) (Bj.mp x);obtain⟨i,m,D⟩:=Aw.mp (k.mem_iff.mpr d);exact Aw.mpr ⟨i,m,by rw[D];exact F⟩
end
theorem eC{t:Bn}{hs:Nat->Int}{h:Int}(c:t.dummies= #[])(b:∀i,hs i≠h):∀{xi:Nat}{p:Probe}{x:Met},p.dummy=b4->probe.go t hs h xi p=b0 x->∃n,x=.empty (advs t n p).j b4/\t.slot (advs t n p).j=.empty/\∀k,k<n->∃i,t.slot (advs t k p).j=.live i
 |0,_,_,_,e=>nomatch e
 | xi + 1,p,x,d,e => by
  unfold probe.go at e;rcases YI c p.j with z|⟨i,z,_⟩;simp only[z,d]at e;exact⟨0,(Cd e).symm,z,λk a=>absurd a (Co _)⟩
  ·simp only[z]at e
   rw[if_neg (by simpa using b i)]at e;have m:(t.advance p).dummy=b4:=by unfold advance;split<;>exact d
   obtain⟨n,l,g,f⟩:=eC c b m e;refine⟨n+1,l,g,λk a=>?_⟩;cases k with
   |zero=>exact⟨i,z⟩
   |succ k=>exact f k (by omega)
def Ok.free{t:Bn}(ok:Ok t)(h:Int):∃n,t.freeSlot h=b0 (way t h n,bb)/\t.slot (way t h n)=.empty/\∀k,k<n->∃i,t.slot (way t h k)=.live i:=by obtain⟨x,e⟩:=ok.probeW (λ_=>h+1) h (V6 (t:=t) (h:=h));obtain⟨n,c,b,a⟩:=eC ok.dum (λ_=>by omega) V6.d e;refine⟨n,?_,b,a⟩;unfold freeSlot;rw[e,c];rfl
section
variable{prog:Az}{w:Wv}{A:Bz}{E:Wr->Af->Prop}{s:Af}
def lK{a:Ws}{o:Xc}{es:Array (Int×Wr)}{ep:Nat}{t:Bn}{k:Int}{v:Wr}{Q:ScanMet->Af->Prop}(f:s.heap.get? a=b0 o)(h:o.data=.set es ep t)(fits:t.fits es.size=ba)(c:(intKind prog w).is k v=ba)(i:ElemsOf (intKind prog w) es.toList)(m:(∃e∈es.toList,(intKind prog w).is k e.2=ba)->∀j,Q (.found j) s)(l:(∀e∈es.toList,¬(intKind prog w).is k e.2=ba)->Q .absent s):Wt (Wu prog w) A (setScan a v ((intKind prog w).hash k) ba es) Q E s:=by
 obtain⟨tok,rfl⟩:=Eg c;show Wt _ _ (setScanFrom a (.int k tok) _ ba es.toList 0) _ _ _;refine wpAny_setScanFrom_of c f h fits es.toList 0 i ?_;split;rename_i j b;obtain⟨d,q,_⟩:=List.findIdx?_eq_some_iff_getElem.mp b;exact m ⟨_,Hn d,q⟩ _;rename_i b;exact l λe g=>by simpa using List.findIdx?_eq_none_iff.mp b e g
end
section
variable{prog:Az}{w:Wv}{A:Bz}{E:Wr->Af->Prop}{s:Af}
abbrev hI(prog:Az)(w:Wv)(k:Int):Int:=(intKind prog w).hash k
def mJ{a:Ws}{o:Xc}{es:Array (Int×Wr)}{ep:Nat}{t:Bn}{k:Int}{v:Wr}{Q:Bool->Af->Prop}(n:s.heap.get? a=b0 o)(p:o.data=.set es ep t)(G:Gd t es)(B:es.size<300)(hk:(intKind prog w).is k v=ba)(Y:v.scannable=ba)(hv:Ff 8 v=pure ba)(R:ElemsOf (intKind prog w) es.toList)(C:(∃e∈es.toList,(intKind prog w).is k e.2=ba)->Q bb s)(y:(∀e∈es.toList,¬(intKind prog w).is k e.2=ba)->∀h' d D t',Dw a s.heap h'->h'.get? a=b0 {o with data:=.set d D t'}->Gd t' d->d.toList.Perm (es.toList++[(hI prog w k,v)])->t'.led=t.led->t'.plain=t.plain->Q ba {s with heap:=h'}):Wt (Wu prog w) A (Jl a v (hI prog w k)) Q E s:=by
 have T:=G.tb;have fits:=WK T;obtain⟨N,b1,b2,b3⟩:=T.ok.free (hI prog w k);have mle:=G.msk.le;unfold Jl;refine Bu ?_;unfold setAddHashedIn;refine Aa (Cs n p fits ?_);dsimp only;have bs:byScan v es=ba:=by
  unfold byScan;have C:decide (es.size<scanBound)=ba:=decide_eq_true (by show es.size<4096;omega);have y:es.all (λe=>e.2.scannable)=ba:=by rw[Array.all_eq_true];intro i hi;exact(R es[i] (by simp)).2
  rw[C,y,Y];rfl
 rw[if_pos bs];unfold setAddByScan;refine Aa (Aa (Gh (Aa ?_)));refine lK n p fits hk R (λg j=>?_) λg=>?_;exact Ad (Ad (C g))
 ·obtain⟨h,b,W,V,U,sz,L,O,M,p1,X⟩:=BE (v:=v) G b2 b3
  have ln:layNew t es (hI prog w k) v=(b,h,bb,bb):=by unfold layNew;rw[b1];dsimp only;have f1:=WK U;unfold orStandIn;rw[<-W,<-V]at*;rw[if_pos f1,f1];rfl
  dsimp only;rw[ln];dsimp only;have z0:(1000:Nat)<=sizeLine:=by decide
  have S:=Ec s.heap a (Qm b h);have Z:∀l,sizeAbove (grown (es.size+1))=l+1->QC l->l<=511->es.size+1<=l->∃d t',relayAll h b (grown b.size)=(d,t',bb)/\d.toList.Perm b.toList/\Tb t' d/\t'.mask=l/\t'.led=h.led/\t'.plain=h.plain:=λl q2 x J r=>by
   obtain⟨u,ord,e,I,H,F,z,P,Po⟩:=AE (es:=b) (m:=l) (f:=h.finger) (mv:=h.movedTo l) (led:=h.led) (pl:=h.plain) x (by rw[sz];exact r);have e':h.relaid (b.map (·.1)) (grown b.size)=b0 (u,ord):=by unfold relaid;rw[sz,q2];exact e
   refine⟨ord.filterMap λi=>b[i]?,u,?_,P,z,I,H,F⟩;unfold relayAll;rw[e'];dsimp only;have c:coversAll ord b.size=ba:=List.isPerm_iff.mpr Po;rw[c,WK z];rfl
  refine Aa (Ad ?_);split;rw[hv]
  all_goals
   refine Aa (Ad ?_);simp only[↓reduceIte];refine Aa (Kp n p ?_ (by rw[sz];omega));rw[X];rcases G.msk.next B with⟨q1,q2⟩|⟨q1,l,q2,q3,K,J⟩;rw[decide_eq_false q1];simp only[Fv,Hr,Aj,↓reduceIte];exact Ad (Ad (y g _ b _ h S (VL n p) ⟨U,by rw[sz,p1];exact q2⟩ L O M));obtain ⟨d,t',er,P,z,I,H,F⟩ := Z l q2 q3 J (by have := K.le;omega);have q:d.size=es.size+1:=by rw[<-sz];simpa using P.length_eq
   rw[decide_eq_true q1];simp only[Fv,Vr,↓reduceIte];rw[er];dsimp only;refine Aa (Ad (Aa (Kp (VL n p) rfl (Ad (Ad ?_)) (by rw[q];omega))));exact y g _ d _ t' (S.trans (Ec _ a _)) (VL (o0:={o with data:=.set b (ep+1) h}) (VL n p) rfl) ⟨z,by rw[q,I];exact K⟩ (P.trans L) (H.trans O) (F.trans M)
end
section
variable{prog:Az}{w:Wv}{A:Bz}{E:Wr->Af->Prop}{s:Af}
def DY{k:Int}{v:Wr}(h:(intKind prog w).is k v=ba):v.scannable=ba/\Ff 8 v=pure ba:=by obtain⟨t,rfl⟩:=Eg h;exact⟨rfl,by unfold Ff;rfl⟩
def zK0 (prog : Az)(w : Wv) : SL prog w Int := mkSL (λ_ k v => (intKind prog w).is k v = ba) (intKind prog w).hash (λ_ => 1) (λ_ => True) (λX _ => X) (λ_ c h => (intKind prog w).pyHash c h) λ{A E s a B l k v Q} _ X c C h => by
  have O:=X;obtain⟨o,r,R,t,K,J,I,H,F,D,i,f⟩:=X;have sz:r.size=l.length:=by simpa using i.length_eq
  have inl:∀e∈r.toList,∃p∈l,e=((intKind prog w).hash p.1,p.2):=λe d=>by obtain⟨p,b,q⟩:=Aw.mp (i.mem_iff.mp d);exact⟨p,b,q.symm⟩
  refine mJ K I H (by omega) c (DY c).1 (DY c).2 (λe d=>?_) (λ⟨e,d,g⟩=>?_) λno L j m u x g G P N M=>?_;obtain⟨p,b,rfl⟩:=inl e d;exact⟨⟨p.1,f p b,rfl⟩,(DY (f p b)).1⟩;obtain⟨p,b,rfl⟩:=inl e d;have:addK l (k,v)=l:=by unfold addK;rw[if_pos (Ef.mpr ⟨p,b,by simp[(intKind prog w).inj _ _ _ (f p b) g]⟩)]
  have z:=h bb s.heap ⟨rfl,λ_ _=>rfl⟩ (by rw[this];exact O);exact z;have:addK l (k,v)=l++[(k,v)]:=by unfold addK;rw[if_neg λy=> ?_];obtain⟨q,n,y⟩:=Ef.mp y;have y:q.1=k:=of_decide_eq_true y;exact no ((intKind prog w).hash q.1,q.2) (i.mem_iff.mpr (Jg n)) (y▸f q n)
  refine h ba L x ?_;rw[this];refine⟨_,j,m,u,g,J,rfl,G,N.trans F,M.trans D,?_,λp b=>?_⟩;rw[Ed];exact P.trans (i.append_right _);rcases Bq.mp b with z|z;exact f p z;rw[Aq.mp z];exact c
def zFU(prog:Az)(w:Wv):IP (zK0 prog w) where
 κ:=oneType'
 lt:=λa b=>decide (a<b)
 ok:=λ_=>True
 tri:=λa b h c=>by
  have:=of_decide_eq_false c
  exact decide_eq_true (by omega)
 asy:=λa b h=>by
  have:=of_decide_eq_true h
  exact decide_eq_false (by omega)
 tr:=λa b c h g=>by
  have:=of_decide_eq_true h
  have:=of_decide_eq_true g
  exact decide_eq_true (by omega)
 kind:=λ{A E s Q l} f d q=>by
  have m:∀{l:List (Int×Wr)},(∀p∈l,(intKind prog w).is p.1 p.2=ba/\True)->Ie (l.map λp=>p.2) (l.map (·.1)):=λ{l}=>by
   induction l with
   |nil=>exact λ_=>.nil
   |cons p l i=>
    intro d;obtain⟨t,e⟩:=Eg (d p Ag).1;rw[Av,e];exact .cons _ t (i λq j=>d q (Ai _ j))
  refine Oj (ksk_kind (kz:=l.map (·.1)) (m d) (by simpa using f)) q
 cmp:=λ_ k f _ _ q=>by obtain⟨t,rfl⟩:=Eg k;obtain⟨n,rfl⟩:=Eg f;exact kat_lt_int q
end
end SP
namespace L2
open PySem PySem.Spec PyProof.Rows
structure KdS(X:Cx)(K0:Type)[DecidableEq K0][Inhabited K0] where
 S:SP.SL X.prog X.w K0
 sv:∀{h:Wz}{a:Ws}{led:Bool}{l:List (K0×Wr)},S.st h a led l->SP.SetV S.isAt S.hsh h a led l
 O:SP.IP S
 roomK:∀A:Bz,A.units+10<cLine->S.roomy A
 cv:List cY->Option (List K0)
 enc:K0->cY
 relK:Hp->List V->List K0->Prop
 hlen:∀{H:Hp}{ys:List V}{ps:List K0},relK H ys ps->ys.length=ps.length
 hat:∀{H:Hp}{aa:List (Ws×Xc)}{σ:St}{s:Af}{ys:List V}{ps:List K0}{i:Nat}{u:Wr},b9 X aa σ H s->relK H ys ps->i<ys.length->bP (ys.getD i .non) u->S.isAt s.heap (ps.getD i default) u/\O.ok (ps.getD i default)
 convK:∀{H:Hp}{N:Ws->Prop}{xs:List V}{ds:List cY}{ps:List K0},cA X.K N H xs ds->cv ds=b0 ps->relK H xs ps
 back:∀{ds:List cY}{ps:List K0},cv ds=b0 ps->ds=ps.map enc
noncomputable def PU{a:Type}[DecidableEq a](cv:List cY->Option (List a))(lt:a->a->Bool)(enc:a->cY)(d:cY):Option cY:=(YH d).bind λb=>(cv b).bind λc=>if b.length<64 then b0 (.lst ((SP.upL lt c).map enc))else b4
section
variable{X:Cx}{K0:Type}[DecidableEq K0][Inhabited K0](k0:KdS X K0)
abbrev krG(ps:List K0)(vs:Nat->Wr)(i:Nat):K0×Wr:=(ps.getD i default,vs i)
def CJ(a:Ws)(ys:List V)(ps:List K0)(h:Wz):Prop:=∃b:Nat->Wr,(∀j,j<ys.length->bP (ys.getD j .non) (b j))/\SP.SetV (λ_ _ _=>True) k0.S.hsh h a (SP.ledW X.w) (SP.gath (krG ps b) ys.length)
def lM{a:Ws}{ys:List V}{ps:List K0}{h:Wz}(x:CJ k0 a ys ps h):(∃o,h.get? a=b0 o)/\∀c b:Wz,CJ k0 a ys ps c->(∀o,c.get? a=b0 o->b.get? a=b0 o)->CJ k0 a ys ps b:=by
 refine⟨?_,λc b x k=>?_⟩;obtain⟨d,_,o,f,g,t,e,_⟩:=x;exact⟨o,e⟩;obtain⟨d,v,o,f,g,t,e,r⟩:=x;exact⟨d,v,o,f,g,t,k o e,r⟩
def BV{H:Hp}{l:List (Ws×Xc)}{g:St}{s:Af}{p:Ws}{ys:List V}(I:b9 X l g H s)(d:WZ X.K H p ys∨WT X.K H p ys):∃a:List Wr,SP.LT s.heap p a.toArray/\a.length=ys.length/\(∀j,j<ys.length->bP (ys.getD j .non) (a.getD j .none))/\∀(i:Nat) (v:Wr),a.toArray[i]?=b0 v->v=a.getD i .none:=by
 obtain⟨a,b,c⟩:∃a:List Wr,bT ys a/\SP.LT s.heap p a.toArray:=by
  rcases d with d|d;obtain⟨a,b,c,_⟩:=I.list d;exact⟨a,b,.inl c.isList⟩;obtain⟨a,b,c,_⟩:=I.tuple d;exact⟨a,b,.inr c⟩
 refine⟨a,c,b.length.symm,λj f=>?_,λi v e=>?_⟩;obtain ⟨u,k,h⟩ := bT.get b (i := j) (x := ys[j]) (by simp [f]);simpa[k,f]using h
 have e : a[i]? = b0 v := by simpa using e
 simp[e]
def p8:RC:=λc H Q=>∃(p:Ws) (a:List V) (b:List K0),c=[.ref p]/\(WZ X.K H p a∨WT X.K H p a)/\a.length<64/\k0.relK H a b/\∀l:Ws,H l=b4->Q (.ref l) (Z8 H l (.ext (CJ k0 l a b)))
def jU(hc:X.calm=ba)(O:X.A.units+20<cLine):aH X (.type "set") (p8 k0):=by intro R s L H M N Q I r h;obtain⟨p,e,b,rfl,w,P,x,q⟩:=h;obtain⟨u,rfl,m⟩:=VZ r;cases m;obtain⟨c,n,hl,a,d⟩:=BV I w;refine SP.JD (S:=k0.S) (kr:=krG b λi=>c.getD i .none) (I.ok.hd hc) (k0.roomK _ (show X.A.units+1+1+1+10<cLine by lia)) n (by simp[hl];lia) d (λj f=>(k0.hat I x (by simpa[hl]using f) (a j (by simpa[hl]using f))).1) λG l g v=>?_;simp only[At,hl]at g;obtain⟨o,J,K,t,F,E,D,C,B,z,y,_⟩:=k0.sv g;have k:CJ k0 s.heap.objs.size e b G:=⟨_,a,o,J,K,t,F,E,D,C,B,z,y,λ_ _=>trivial⟩;exact⟨.ref s.heap.objs.size,_,I.laid (t':=l) (o:=.ext (CJ k0 s.heap.objs.size e b)) v (Al _) ⟨k,lM k0 k⟩,rfl,q _ (I.hok.fresh (Al _))⟩
def oW:RC:=λd H Q=>∃(l:Ws) (b:List V) (c:List K0),d=[.ref l]/\H l=b0 (.ext (CJ k0 l b c))/\b.length<64/\k0.relK H b c∧
 ∀(r:Ws) (a:List Nat),H r=b4->(∀i∈a,i<b.length)->(a.map λi=>c.getD i default)=SP.upL k0.O.lt c->Q (.ref r) (Z8 H r (.lst (a.map λi=>b.getD i .non)))
def CU(hc:X.calm=ba)(Y:X.A.units+20<cLine):aH X (.builtin "sorted") (oW k0):=by
 intro aa s U H V W Q I r h;obtain⟨l,y,k,rfl,m,G,v,q⟩:=h;obtain⟨u,rfl,E⟩:=VZ r;cases E;obtain⟨⟨z,c,o,S,T,t,R,P,N,M,L,K,J,_⟩,_⟩:=(show ZY X.prog X.w H s.heap l (.ext _) from I.hok l _ m);refine SP.FY k0.O (I.ok.hd hc) (by lia) ⟨o,S,T,t,R,P,N,M,L,K,J,λp m=>?_⟩ G (λj f=>(k0.hat I v f (c j f)).2) λr Z D e b B k' x g d C=>?_;obtain⟨j,f,rfl⟩:=SP.SD m;exact(k0.hat I v f (c j f)).1;have n:=k0.hlen v;have rng:((Ao y.length).map λi=>(krG k z i).1)=k:=by rw[n];exact SP.J3 k default
 rw[rng]at d;refine⟨.ref r,_,I.laid (a:=r) (o:=.lst (b.map λi=>y.getD i .non)) (t':=D) k' B ⟨?_,b.map λi=>(krG k z i).2,e,?_,C⟩,rfl,q _ _ (I.hok.fresh B) x d⟩;have : 64 <= sizeLine := by decide
 rw[Bf];lia;clear C d g;induction b with
 |nil=>exact .nil
 |cons i b F=>exact .cons (c i (x i Ag)) (F λj f=>x j (Ai _ f))
variable{ml:List Nat}{a:Ww}{pa ta:Bool}{fa:VF}{pos:Pos}
def Q1{I b w:Pos}(M:X.mg "sorted"=b4)(p:X.mg "set"=b4)(C:X.A.units+20<cLine)(P:PE X a (TV X.K ml pa ta ba fa))(hc:X.calm=ba:=by rfl)(N:Gl X "sorted":=by rfl)(u:Gl X "set":=by rfl)(D:Bi (a::[]) X.env=(bb,eval a X.env)::Bi [] X.env:=by rfl)(g:Bi (Jz (.Name "set" b) [a] [] w::[]) X.env=(bb,eval (Jz (.Name "set" b) [a] [] w) X.env)::Bi [] X.env:=by rfl):PE X (.Call (.Name "sorted" I) [.Call (.Name "set" b) [a] [] w] [] pos) (TN X.K ml pa (f1 (PU k0.cv k0.O.lt k0.enc) fa)):=by
 refine(SQ (CU k0 hc C) N M (by decide+kernel) (bV (XF (jU k0 hc C) u p (by decide+kernel) (bV P Z1 D) (by decide) (by decide) D) Z1 g) (by decide) (by decide) g).imp λW H Q h=>?_;obtain⟨B,O,G,d,m,S,q,k⟩:=h;obtain⟨x,T,c⟩:=QI q;refine⟨B,O,G,x,m,S,T,λY H1 j=>?_⟩;obtain⟨F,U,c⟩:=Ac.mp (show(YH x).bind _=b0 d from c);obtain⟨e,v,c⟩:=Ac.mp c;split at c;rename_i L;cases c;obtain⟨a,n,rfl,sq,r⟩:=j.rep.seq U;have y:n.length<64:=by rw[r.length];exact L
 refine⟨a,n,e,rfl,sq,y,k0.convK r v,λl hl=>⟨l,n,e,rfl,b6,y,k0.convK (r.same (cQ hl)) v,λZ f J t o=>?_⟩⟩;have V:(SP.upL k0.O.lt e).map k0.enc=f.map λi=>F.getD i .non:=by
  rw[<-o,Cq];refine Eb λi s=>?_;have t:=t i s;have E:=k0.back v;have hl:F.length=e.length:=by rw[E];simp
  have R:i<e.length:=by rw[<-hl,<-r.length];exact t
  show k0.enc (e.getD i default)=_;rw[E];simp[R]
 rw[V]at k;exact k _ _ (mkN (j.sta.same (cQ hl)) (j.frm.trans (cQ hl).fr) (λz=>(j.pur z).trans (cQ hl)) J (OO (r.same (cQ hl)) f));cases c
end
section
variable{X:Cx}{K:Au}
theorem EF.at{H:Hp}{u:List (Ws×Xc)}{f:St}{s:Af}(I:b9 X u f H s):∀{ys:List V}{ps:List (List Int)}{i:Nat},EF X.K H ys ps->i<ys.length->(∃a,ys.getD i .non=.ref a/\SP.IT X.prog X.w s.heap (ps.getD i []) a)/\ps.getD i []≠[]
 |[],[],i,_,h=>absurd h (Co _)
 | y :: ys,p :: ps,0,⟨⟨a,e,q,n⟩,_⟩,_ => by
  obtain⟨d,g,⟨o,k,hc,m,l⟩,_⟩:=I.tuple q;refine⟨⟨a,by simpa using e,o,d.toArray,m,k,hc,l,?_⟩,by simpa using n⟩
  have:∀{b:List Wr}{c:List Int},Ie b c->Kw (intKind X.prog X.w) c b:=by
   intro b c h;induction h with
   |nil=>exact .nil
   |cons n t _ j=>exact .cons (Sy _ _ _ _) j
  simpa using this (QV g)
 |y::ys,p::ps,i+1,⟨_,r⟩,h=>by
  have:=EF.at I (i:=i) r (by simpa using h)
  simpa using this
 |[],_::_,_,r,_=>r.elim
 |_::_,[],_,r,_=>r.elim
end
def cV(p:List Int):cY:=.tup (p.map .int)
def PF:∀{ds:List cY}{ns:List Int},Z3 ds=b0 ns->ds=ns.map .int:=by
 intro ds;induction ds with
 |nil=>intro ns h;cases h;rfl
 |cons d ds a=>
  intro ns h;cases d with
  |int n=>
   have h:(Z3 ds).map (n:: ·)=b0 ns:=h;obtain⟨c,b,rfl⟩:=Am.mp h;rw[a b];rfl
  |_=>cases h
def r6:∀{ds:List cY}{ps:List (List Int)},TD ds=b0 ps->ds=ps.map cV:=by
 intro ds;induction ds with
 |nil=>intro ps h;cases h;rfl
 |cons d ds a=>
  intro ps h;have h:(tpD d).bind (λp=>(TD ds).map λps=>p::ps)=b0 ps:=h;obtain⟨p,e,h⟩:=Ac.mp h;obtain⟨f,c,rfl⟩:=Am.mp h;obtain⟨g,rfl,b,_⟩:=eI e;rw[a c,PF b];rfl
def gS{v:V}{u:Wr}{p:Ws->Prop}(h:∃a,v=.ref a/\p a)(r:bP v u):∃a,u=.ref a/\p a:=by obtain⟨a,rfl,q⟩:=h;cases r;exact⟨a,rfl,q⟩
def kdT(X:Cx):KdS X (List Int) where
 S:=(SP.tupS X.prog X.w).sl
 sv:=id
 O:=SP.zDD X.prog X.w
 roomK:=λA h=>show A.units<cLine by lia
 cv:=TD
 enc:=cV
 relK:=EF X.K
 hlen:=λh=>h.len
 hat:=λI h a r=>⟨gS (h.at I a).1 r,(h.at I a).2⟩
 convK:=λr h=>P7 r h
 back:=r6
def kdI(X:Cx):KdS X Int where
 S:=SP.zK0 X.prog X.w
 sv:=id
 O:=SP.zFU X.prog X.w
 roomK:=λ_ _=>trivial
 cv:=Z3
 enc:=.int
 relK:=λ_ c a=>c=a.map V.int
 hlen:=λh=>by rw[h,Bf]
 hat:=λ{_ _ _ _ _ a i u} _ h b r=>by
  subst h;have b:i<a.length:=by simpa using b
  rw[show(a.map V.int).getD i .non=.int (a.getD i default) by simp[b]]at r;obtain⟨t,rfl⟩:=r;exact⟨Sy _ _ _ _,trivial⟩
 convK:=λr h=>VU r h
 back:=PF
noncomputable def prD:cY->Option SP.KP
 |.tup [.tup a,.tup b]=>(Z3 a).bind λx=>(Z3 b).map λy=>(x,y)
 |_=>b4
def FN:List cY->Option (List SP.KP)
 |[]=>b0 []
 |d::b=>(prD d).bind λp=>(FN b).map λa=>p::a
def YE(p:SP.KP):cY:=.tup [cV p.1,cV p.2]
def gZ{d:cY}{p:SP.KP}(h:prD d=b0 p):∃a b,d=.tup [.tup a,.tup b]/\Z3 a=b0 p.1/\Z3 b=b0 p.2:=by
 unfold prD at h;split at h;rename_i a b;obtain⟨x,e,h⟩:=Ac.mp h;obtain⟨y,c,rfl⟩:=Am.mp h;exact⟨a,b,rfl,e,c⟩;cases h
def sK:∀{ds:List cY}{ps:List SP.KP},FN ds=b0 ps->ds=ps.map YE:=by
 intro ds;induction ds with
 |nil=>intro ps h;cases h;rfl
 |cons d ds c=>
  intro ps h;obtain⟨p,i,h⟩:=Ac.mp (show(prD d).bind _=b0 ps from h);obtain⟨j,g,rfl⟩:=Am.mp h;obtain⟨a,b,rfl,f,e⟩:=gZ i;rw[c g,PF f,PF e];rfl
def PrV(K:Au)(H:Hp):List V->List SP.KP->Prop
 |[],[]=>True
 |v::b,p::c=>(∃a x y,v=.ref a/\WT K H a [.ref x,.ref y]/\WT K H x (p.1.map V.int)/\WT K H y (p.2.map V.int))/\PrV K H b c
 |_,_=>False
theorem PrV.len{K:Au}{H:Hp}:∀{xs:List V}{ps:List SP.KP},PrV K H xs ps->xs.length=ps.length
 |[],[],_=>rfl
 |_::_,_::_,r=>by simp[PrV.len r.2]
 |[],_::_,r=>r.elim
 |_::_,[],r=>r.elim
section
variable{X:Cx}
def eS{H:Hp}{k:List (Ws×Xc)}{e:St}{s:Af}{a:Ws}{p:List Int}(I:b9 X k e H s)(q:WT X.K H a (p.map V.int)):SP.IT X.prog X.w s.heap p a:=by
 obtain⟨d,f,⟨o,i,hc,m,j⟩,_⟩:=I.tuple q;refine⟨o,d.toArray,m,i,hc,j,?_⟩
 have:∀{b:List Wr}{c:List Int},Ie b c->Kw (intKind X.prog X.w) c b:=by
  intro b c h;induction h with
  |nil=>exact .nil
  |cons n t _ g=>exact .cons (Sy _ _ _ _) g
 simpa using this (QV f)
theorem PrV.at{H:Hp}{l:List (Ws×Xc)}{c:St}{s:Af}(I:b9 X l c H s):∀{ys:List V}{ps:List SP.KP}{i:Nat},PrV X.K H ys ps->i<ys.length->∃a,ys.getD i .non=.ref a/\SP.XM X.prog X.w s.heap (ps.getD i default) a
 |[],[],i,_,h=>absurd h (Co _)
 | y :: ys,p :: ps,0,⟨⟨a,u,v,e,q,q1,q2⟩,_⟩,_ => by
  obtain⟨g,b,⟨o,j,hc,m,k⟩,_⟩:=I.tuple q;cases b with
  |cons f b=>
   cases b with
   |cons d b=>
    cases b;cases f;cases d;exact⟨a,by simpa using e,o,u,v,m,j,hc,k,by simpa using eS I q1,by simpa using eS I q2⟩
 |y::ys,p::ps,i+1,⟨_,r⟩,h=>by
  have:=PrV.at I (i:=i) r (by simpa using h)
  simpa using this
 |[],_::_,_,r,_=>r.elim
 |_::_,[],_,r,_=>r.elim
theorem BA{K:Au}{H:Hp}{N:Ws->Prop}:∀{xs:List V}{ds:List cY}{ps:List SP.KP},cA K N H xs ds->FN ds=b0 ps->PrV K H xs ps
 |_,_,_,.nil,h=>by cases h;trivial
 | _,_,_,@cA.cons _ _ _ v u d ds h t,e => by
  obtain⟨p,o,e⟩:=Ac.mp (show(prD d).bind _=b0 _ from e);obtain⟨w,n,e⟩:=Am.mp e;cases e;obtain⟨a,b,rfl,m,l⟩:=gZ o;refine⟨?_,BA t n⟩;cases h with
  |tup sq r=>
   cases r with
   |cons k r=>
    cases r with
    |cons j r=>
     cases r;cases k with
     |tup f i=>
      cases j with
      |tup c g=>
       have s:=VU i m;have q:=VU g l;subst s;subst q;exact⟨_,_,_,rfl,sq,f,c⟩
end
def kdP(X:Cx):KdS X SP.KP where
 S:=(SP.zEP X.prog X.w).sl
 sv:=id
 O:=SP.zBQ X.prog X.w
 roomK:=λA h=>show A.units+4<cLine by lia
 cv:=FN
 enc:=YE
 relK:=PrV X.K
 hlen:=λh=>h.len
 hat:=λI h a r=>⟨gS (h.at I a) r,trivial⟩
 convK:=λr h=>BA r h
 back:=sK
def AA(k:bH)(a:List bH):Bool:=a.any λj=>decide (j=k)
def V9{k:bH}{a:List bH}:AA k a=ba↔k∈a:=by unfold AA;rw[Ef];exact⟨λ⟨j,c,b⟩=>of_decide_eq_true b▸c,λh=>⟨k,h,decide_eq_true rfl⟩⟩
def ZD(a:List bH)(k:bH):List bH:=if AA k a then a else a++[k]
def sk(a:List bH)(k:bH):(ZD a k).length<=a.length+1:=by unfold ZD;split<;>simp
def nk{k:bH}{u:Wr}(r:bP (kV k) u):u.scannable=ba:=by
 cases k with
 |inl i=>obtain⟨t,e⟩:=(show∃t,u=Kx i t from r);subst e;rfl
 |inr x=>obtain⟨t,e⟩:=(show∃t,u=Nh x t from r);subst e;rfl
abbrev fQ(P:Az)(w:Wv)(h:Wz)(a:Ws)(l:List (bH×Wr)):Prop:=h.SetOf (a9 P w) a (λk=>l.any λq=>decide (q.1=k)) l.length
def sN(P:Az)(w:Wv):SP.SL P w bH where
 isAt:=λ_ k v=>bP (kV k) v
 hsh:=(a9 P w).hash
 draws:=λ_=>1
 roomy:=λ_=>True
 stays:=λX _=>X
 hashed:=λ_ b h=>(a9 P w).pyHash (NS b) h
 st:=λh a _ l=>fQ P w h a l
 st_at:=λ⟨o,_,_,_,e,x,_⟩=>⟨o,e,x⟩
 st_keep:=λ⟨o,B,C,t,e,r⟩ k _=>⟨o,B,C,t,k.trans e,r⟩
 st_0:=λj i u=>⟨_,#[],0,_,j,i,u,λe p=>by simp at p,λk=>by simp,by decide,rfl,rfl⟩
 adds:=λ{A E s a g l k v Q} _ X b m h=>by
  refine wpAny_setAddHashed_of (knd:=a9 P w) (k:=k) (NS b) (nk b) X (by show l.length+1<4096;lia) λy f d=>h _ y f ?_;have e:(λk'=>(l.any λq=>decide (q.1=k')) || decide (k'=k))=λk'=>(SP.addK l (k,v)).any λq=>decide (q.1=k'):=funext λk'=>by
   unfold SP.addK;split;rename_i c;by_cases z:k'=k;subst z;rw[c];rfl;simp[z];simp[eq_comm]
  have n:(if(l.any λq=>decide (q.1=k))=ba then l.length else l.length+1)=(SP.addK l (k,v)).length:=by unfold SP.addK;split<;>simp
  rw[e,n]at d;exact d
theorem dF(ks:List bH)(vs:Nat->Wr):∀i,i<=ks.length->(SP.gath (λi=>(ks.getD i (.inl 0),vs i)) i).map (·.1)=(ks.take i).foldl ZD []
 |0,_=>rfl
 |i+1,h=>by
  have b:=dF ks vs i (by lia);have a:i<ks.length:=by lia
  have c:ks.getD i (.inl 0)=ks[i]:=by simp[a]
  rw[List.take_succ_eq_append_getElem a,List.foldl_append,<-b];show(SP.addK _ (ks.getD i (.inl 0),vs i)).map (·.1)=ZD _ ks[i];rw[c];generalize SP.gath (λi=>(ks.getD i (.inl 0),vs i)) i=G;unfold SP.addK ZD AA;rw[Py];show(if(G.any λq=>decide (q.1=ks[i]))=ba then G else _).map _=if(G.any λq=>decide (q.1=ks[i]))=ba then _ else _
  split<;>simp
section
variable{X:Cx}{K:Au}{ml:List Nat}{a:Ww}{pa ta:Bool}{fa:VF}{H:Hp}{pos:Pos}
def Xw(X:Cx)(l:Ws)(ks:List bH)(h:Wz):Prop:=∃a:Nat->Wr,fQ X.prog X.w h l (SP.gath (λi=>(ks.getD i (.inl 0),a i)) ks.length)
def CT(hc:X.calm=ba):aH X (.type "set") (λg H Q=>∃(p:Ws) (ks:List bH),g=[.ref p]/\WZ X.K H p (ks.map kV)/\ks.length<256/\∀l,H l=b4->Q (.ref l) (Z8 H l (.ext (Xw X l ks)))):=by
 intro L s C H g D Q I r h;obtain⟨p,ks,rfl,z,E,q⟩:=h;obtain⟨u,rfl,v⟩:=VZ r;cases v;obtain⟨c,x,hl,a,f⟩:=BV I (.inl z);rw[Bf]at hl a;refine SP.JD (S:=sN X.prog X.w) (kr:=λi=>(ks.getD i (.inl 0),c.getD i .none)) (I.ok.hd hc) trivial x (by simp[hl];lia) f (λj b=>?_) λJ n d y=>?_;have b : j < ks.length := by simpa [hl]using b
 have:=a j b
 show bP (kV (ks.getD j (.inl 0))) _;simpa[b]using this
 simp only[At,hl]at d;refine⟨.ref s.heap.objs.size,_,I.laid (t':=n) (o:=.ext (Xw X s.heap.objs.size ks)) y (Al _) ⟨⟨_,d⟩,?_,λG F ⟨m,o,A,B,t,e,r⟩ k=>⟨m,o,A,B,t,k o e,r⟩⟩,rfl,q _ (I.hok.fresh (Al _))⟩;obtain⟨o,_,_,_,e,_⟩:=d;exact⟨o,e⟩
def jo:aH X (.builtin "len") (λa H Q=>∃p ks,a=[.ref p]/\H p=b0 (.ext (Xw X p ks))/\ks.length<256/\Q (.int ((ks.foldl ZD []).length:Nat)) H):=by intro aa s σ H a us Q I r h;obtain⟨p,ks,rfl,e,n,q⟩:=h;obtain⟨u,rfl,d⟩:=VZ r;cases d;obtain⟨⟨b,o,f,v,t,m,l,k,z,y,x,j,g⟩,_⟩:=(show ZY X.prog X.w H s.heap p (.ext _) from I.hok p _ e);have c:=dF ks b ks.length (Al _);rw[List.take_length]at c;rw[<-c,Bf,<-g]at q;have le:=SP.MX (λi=>(ks.getD i (.inl 0),b i)) ks.length;exact PySem.call_len_set m l k j (by lia) ⟨.int f.size,H,I.tok _,⟨_,rfl⟩,q⟩
def ksD:List cY->Option (List bH)
 |[]=>b0 []
 |d::b=>(WM d).bind λk=>(ksD b).map λa=>k::a
theorem Zz{N:Ws->Prop}:∀{xs:List V}{ds:List cY}{ks:List bH},cA K N H xs ds->ksD ds=b0 ks->xs=ks.map kV
 |_,_,_,.nil,h=>by cases h;rfl
 |_,_,a,@cA.cons _ _ _ v f d ds h t,e=>by have e:(WM d).bind (λp=>(ksD ds).map λa=>p::a)=b0 a:=e;obtain⟨p,c,e⟩:=Ac.mp e;obtain⟨g,b,e⟩:=Am.mp e;cases e;rw[Av,<-Zz t b];congr 1;exact h.key c
def VE:cY->Option cY
 |.lst ds=>(ksD ds).bind λa=>if a.length<256 then b0 (.int (a.foldl ZD []).length)else b4
 |_=>b4
def IH{s b m:Pos}(u:X.mg "len"=b4)(i:X.mg "set"=b4)(w:PE X a (TV K ml pa ta ba fa))(hc:X.calm=ba:=by rfl)(y:X.K=K:=by rfl)(v:Gl X "len":=by rfl)(j:Gl X "set":=by rfl)(o:SE X a []:=by rfl)(e:Bi (Jz (.Name "set" b) [a] [] m::[]) X.env=(bb,eval (Jz (.Name "set" b) [a] [] m) X.env)::Bi [] X.env:=by rfl):PE X (.Call (.Name "len" s) [.Call (.Name "set" b) [a] [] m] [] pos) (TV K ml pa ba ba (f1 VE fa)):=by
 subst y;refine(SQ jo v u Zi (bV (XF (CT hc) j i (by decide+kernel) (bV w Z1 o) (by decide) (by decide) o) Z1 e) (by decide) (by decide) e).imp λF H Q h=>?_;obtain⟨B,O,p,d,g,S,q,k⟩:=h;obtain⟨x,C,c⟩:=QI q;refine⟨B,O,p,x,g,S,C,λI J f=>?_⟩;cases x with
 |lst E=>
  obtain⟨t,A,c⟩:=Ac.mp (show(ksD E).bind _=b0 d from c);split at c;rename_i n;cases c;obtain⟨a,G,rfl,sq,r⟩:=f.rep.lstE;have D:=Zz r A;subst D;exact⟨a,t,rfl,sq,n,λl hl=>⟨l,_,rfl,b6,n,k _ _ ⟨f.sta.same (cQ hl),f.frm.trans (cQ hl).fr,λz=>(f.pur z).trans (cQ hl),.int _⟩⟩⟩;cases c
 |_=>cases c
end
def RO:cY->Option cY:=PU TD TS.lexL cV
abbrev OT(a b:Int):Bool:=decide (a<b)
def WA:cY->Option cY:=PU Z3 OT .int
def RN:cY->Option cY:=PU FN SP.lexP YE
section
variable{X:Cx}{K:Au}{ml:List Nat}{a:Ww}{pa ta:Bool}{fa:VF}{pos:Pos}
def mx{g b f:Pos}(h:X.mg "sorted"=b4)(c:X.mg "set"=b4)(m:X.A.units+64<cLine)(k:PE X a (TV K ml pa ta ba fa))(hc:X.calm=ba:=by rfl)(l:X.K=K:=by rfl)(i:Gl X "sorted":=by rfl)(d:Gl X "set":=by rfl)(j:Bi (a::[]) X.env=(bb,eval a X.env)::Bi [] X.env:=by rfl)(e:Bi (Jz (.Name "set" b) [a] [] f::[]) X.env=(bb,eval (Jz (.Name "set" b) [a] [] f) X.env)::Bi [] X.env:=by rfl):PE X (.Call (.Name "sorted" g) [.Call (.Name "set" b) [a] [] f] [] pos) (TN K ml pa (f1 RO fa)):=by subst l;exact Q1 (kdT X) h c (by lia) k hc i d j e
def nF{g b f:Pos}(h:X.mg "sorted"=b4)(c:X.mg "set"=b4)(m:X.A.units+64<cLine)(k:PE X a (TV K ml pa ta ba fa))(hc:X.calm=ba:=by rfl)(l:X.K=K:=by rfl)(i:Gl X "sorted":=by rfl)(d:Gl X "set":=by rfl)(j:Bi (a::[]) X.env=(bb,eval a X.env)::Bi [] X.env:=by rfl)(e:Bi (Jz (.Name "set" b) [a] [] f::[]) X.env=(bb,eval (Jz (.Name "set" b) [a] [] f) X.env)::Bi [] X.env:=by rfl):PE X (.Call (.Name "sorted" g) [.Call (.Name "set" b) [a] [] f] [] pos) (TN K ml pa (f1 RN fa)):=by subst l;exact Q1 (kdP X) h c (by lia) k hc i d j e
def KJ{g b f:Pos}(h:X.mg "sorted"=b4)(c:X.mg "set"=b4)(m:X.A.units+64<cLine)(k:PE X a (TV K ml pa ta ba fa))(hc:X.calm=ba:=by rfl)(l:X.K=K:=by rfl)(i:Gl X "sorted":=by rfl)(d:Gl X "set":=by rfl)(j:Bi (a::[]) X.env=(bb,eval a X.env)::Bi [] X.env:=by rfl)(e:Bi (Jz (.Name "set" b) [a] [] f::[]) X.env=(bb,eval (Jz (.Name "set" b) [a] [] f) X.env)::Bi [] X.env:=by rfl):PE X (.Call (.Name "sorted" g) [.Call (.Name "set" b) [a] [] f] [] pos) (TN K ml pa (f1 WA fa)):=by subst l;exact Q1 (kdI X) h c (by lia) k hc i d j e
end
section
variable{X:Cx}{K:Au}{ml:List Nat}{a b c:Ww}{pa ta ia pb tb ib pc:Bool}{fa fb:VF}{pos:Pos}
def rN{t:VB}(n:PT X c (TB K ml pc t))(p:PE X a (TN K ml pa fa))(o:PE X b (TN K ml pb fb)):PE X (.IfExp c a b pos) (TN K ml (pc&&pa&&pb) (EC t fa fb)):=(FG n p o).imp λs H Q i=>by
 obtain⟨B,O,m,d,g,S,q,k⟩:=i;unfold EC at q;obtain⟨⟨l,e⟩,r,q⟩:=Ac.mp q;refine⟨B,O,m,l,e,S,r,λv f=>?_⟩;have u:∀{c:Ws},B.H0 c=b4->B.H0 c=b4:=λz=>z;cases l with
 |true=>
  exact NJ ⟨B,O,e,d,g,f.sta,q,λh j R2=>k h j ⟨R2.sta,f.frm.trans R2.frm,λz=>by simp only[Ah]at z;exact(f.pur z.1.1).trans (R2.pur z.1.2),R2.own,R2.nz,R2.h0⟩⟩
 |false=>
  exact NI ⟨B,O,e,d,g,f.sta,q,λh j R2=>k h j ⟨R2.sta,f.frm.trans R2.frm,λz=>by simp only[Ah]at z;exact(f.pur z.1.1).trans (R2.pur z.2),R2.own,R2.nz,R2.h0⟩⟩
noncomputable def FA:cY->cY->Option cY
 |.lst ds,.lst a=>if ds.length+a.length<=16777216 then b0 (.lst (ds++a))else b4
 |_,_=>b4
def lg(D:X.K=K:=by rfl)(C:PE X a (TV K ml pa ta ba fa))(A:PE X b (TV K ml pb tb ba fb))(hs:(pb || (ta&&ba))=ba:=by rfl):PE X (.BinOp a .Add b pos) (TN K ml (pa&&pb) (f2 FA fa fb)):=by
 subst D;refine(Xu AZ C A).imp λG H Q h=>?_;obtain⟨B,O,r,d,g,S,q,k⟩:=h;obtain⟨x,e,y,F,E,c⟩:=QJ q;refine⟨B,O,r,x,e,S,F,λJ M f=>⟨B,O,e,y,g,f.sta,E,λI L R2=>?_⟩⟩;have i:=R2.live hs f.rep;cases x with
 |lst o=>
  cases y with
  |lst n=>
   have c:(if o.length+n.length<=16777216 then b0 (cY.lst (o++n))else b4)=b0 d:=c;split at c;rename_i v;cases c;obtain⟨l,t,rfl,q1,m⟩:=i.lstE;obtain⟨u,s,rfl,q2,j⟩:=R2.rep.lstE;refine⟨l,u,t,s,rfl,rfl,q1,q2,by rw[m.length,j.length,Dn];exact v,λp w=>k p _ (mkN R2.sta (f.frm.trans R2.frm) (λz=>by simp only[Ah]at z;exact(f.pur z.1).trans (R2.pur z.2)) w (m.append j))⟩;cases c
  |_=>cases c
 |_=>cases c
end
def q8(l b:Ws)(u v:Array Wr)(n m:Nat)(sl:Array (Option Wr))(o:¬(!u.isEmpty&&Jj (u.size+v.size))=ba)(i:u.size<=sizeLine)(f:(u++v).size<=sizeLine+1):Meets (Gy.«list.extend» ⟨[.ref l,.ref b],[]⟩) (λ_ R s=>s.heap.get? l=b0 ⟨.type "list",b4,.seq u n,#[]⟩/\s.heap.get? b=b0 ⟨.type "list",b4,.seq v m,sl⟩/\R (.ok (.ret .none)) {s with heap:=s.heap.update l (El λx=>x++v)}):=
 .of_wp λa w A R s h=>by
  obtain⟨k,g,d,j,os⟩:=s;obtain⟨hl,e,h⟩:=h;have f1:=AutoSeq1.idx_int;have f2:=AutoSeq1.sub_tuple_tuple;have f3:=AutoSeq1.sub_list_list;have q:=AutoSeq1.sub_tuple_list;have p:=AutoSeq1.sub_list_tuple;wp_walk using(Qf hl rfl (hz:=i) (_hz':=f)),Fq hl,Fq e
  exact⟨_,rfl,h⟩
def Ym(K:Au):V->List V->Hp->VK->Prop:=λx d H Q=>∃l b c a,x=.ref l/\d=[.ref b]/\H l=b0 (.lst c)/\WZ K H b a/\c.length+a.length<=sizeLine/\Q .non (Z8 H l (.lst (c++a)))
def rL{X:Cx}:MtM X "list.extend" (Ym X.K):=by
 intro L s A H x D v E Q I k m h;obtain⟨l,b,C,B,rfl,rfl,i,t,G,q⟩:=h;cases k;obtain⟨u,rfl,o⟩:=m.one;cases o;obtain⟨z,a,n,r,hl,e⟩:=I.lstM i;obtain⟨d,f,⟨⟨y,J,data,sl⟩,p,w,hc,g,j⟩,_⟩:=I.list t;simp only at hc g j;subst hc g j;have JO:=f.length;have c:a.toArray.size+d.toArray.size<=sizeLine:=by rw[At,At];lia
 refine Nk F.slot_list_extend ⟨_,e,rfl⟩ F.entry_list_extend (F.args_list_extend_2 _ _) (q8 l b a.toArray d.toArray n p sl (by rw[pN c,Hr];exact Db) (by rw[At];lia) (by rw[Su];lia)) ⟨e,w,?_⟩;refine⟨.non,_,I.lset (its':=a++d) i e (by simp) (r.append f) ?_,rfl,q⟩;rw[Bm];lia
def jA{X:Cx}{K:Au}(h:X.K=K):MtM X "list.extend" (Ym K):=by subst h;exact rL
noncomputable def mExt:List cY->List cY->Option (List cY)
 |b,[.lst a]=>if b.length+a.length<=16777216 then b0 (b++a)else b4
 |_,_=>b4
def mW{K:Au}:MuV K (Ym K) mExt:=by
 intro H N l f g p c n Q hl o a i h k;cases i with
 |nil=>cases h
 | @cons v g d c m t=>
  cases t with
  |cons _ _=>cases d<;>cases h
  |nil=>
   cases d with
   |lst c=>
    simp only[mExt]at h;split at h;rename_i j;cases h;obtain⟨b,e,rfl,sq,r⟩:=m.lstE;exact⟨l,b,f,e,rfl,rfl,hl,sq,by rw[a.length,r.length,Dn];exact j,k _ _ (a.append r)⟩;cases h
   |_=>cases h
end L2
namespace L2
open PySem PySem.Spec PyProof.Rows PySem.W
def oY{prog:Az}{w:Wv}{A:Bz}{R:Vz->Af->Prop}{l:Ws}{vs:List Wr}{n:Nat}{v:Wr}{e:Nat->Bool}{j:Nat}{s:Af}(f:j<vs.length)(x:e j=ba)(hz:vs.length<=sizeLine)(b:s.heap.get? l=b0 ⟨.type "list",b4,.seq vs.toArray n,#[]⟩)(o:∀m (a:m<vs.length),SeqAt.EqAt A.in1 s vs[m] v (e m))(t:R (.ok (.ret .none)) {s with heap:=s.heap.update l (El λp=>p.eraseIdxIfInBounds j)}):∀(k i:Nat),j-i=k->i<=j->(∀m,i<=m->m<j->e m=bb)->Jd (Wu prog w) A (.builtin "list.remove.loop" ⟨[.ref l,v,rawInt i],[]⟩) R s:=by
 intro k;induction k with
 |zero=>
  intro i r c a;obtain rfl:i=j:=by omega
  refine Ee Mr ?_;rw[Dx Ms _];show Wt _ A.in1 (Pg (.ref l)>>=_) _ _ s;refine Aa (Mv b rfl ?_);have d:vs.toArray[((i:Nat):Int).toNat]?=b0 vs[i]:=by simp[f]
  rw[d];refine Aa (o i f _ _ _ _ ?_);rw[x,if_pos rfl];exact Aa (Lq b rfl (Ad t) (by rw[At];omega) (by have:=Jv vs i;simp;omega))
 |succ k q=>
  intro i r c a;have g:i<vs.length:=by omega
  refine Ee Mr ?_;rw[Dx Ms _];show Wt _ A.in1 (Pg (.ref l)>>=_) _ _ s;refine Aa (Mv b rfl ?_);have d:vs.toArray[((i:Nat):Int).toNat]?=b0 vs[i]:=by simp[g]
  rw[d];refine Aa (o i g _ _ _ _ ?_);rw[a i (Al _) (by omega),if_neg (by decide)];exact Ad ⟨Jw _ (by decide+kernel),q (i+1) (by omega) (by omega) λm y u=>a m (by omega) u⟩
def oB(l:Ws)(vs:List Wr)(n:Nat)(v:Wr)(e:Nat->Bool)(j:Nat)(f:j<vs.length)(o:e j=ba)(b:∀m,m<j->e m=bb)(hz:vs.length<=sizeLine):Meets (Gy.«list.remove» ⟨[.ref l,v],[]⟩) (λA R s=>s.heap.get? l=b0 ⟨.type "list",b4,.seq vs.toArray n,#[]⟩/\(∀m (b:m<vs.length),SeqAt.EqAt A.in1 s vs[m] v (e m))/\R (.ok (.ret .none)) {s with heap:=s.heap.update l (El λd=>d.eraseIdxIfInBounds j)}):=by intro a w A R s ⟨k,i,g⟩;exact Ad ⟨Jw _ (by decide+kernel),oY f o hz k i g j 0 (by omega) (by omega) λm _ h=>b m h⟩
def HQ(x:List Int):List (List Int)->Option Nat
 |[]=>b4
 |y::a=>if y=x then b0 0 else(HQ x a).map (· +1)
theorem A9{x:List Int}:∀{ps:List (List Int)}{j:Nat},HQ x ps=b0 j->j<ps.length/\decide (ps.getD j []=x)=ba/\∀m,m<j->decide (ps.getD m []=x)=bb
 |[],_,h=>by cases h
 | p :: ps,j,h => by
  unfold HQ at h;split at h;rename_i e;cases h;exact⟨by simp,by simpa using e,λm d=>absurd d (Co _)⟩;rename_i e;obtain⟨i,f,rfl⟩:=Am.mp h;obtain⟨a,b,c⟩:=A9 f;refine⟨by simp;omega,by simpa using b,λm d=>?_⟩;cases m with
  |zero=>simpa using e
  |succ m=>simpa using c m (by omega)
def gE{prog:Az}{w:Wv}{h:Wz}{ks:List Int}{a:Ws}(i:SP.IT prog w h ks a)(d:Az)(c:Wv):SP.IT d c h ks a:=by
 obtain⟨e,⟨o,g,hc,m,k⟩,j⟩:=SP.HA i;refine⟨o,e.toArray,m,g,hc,k,?_⟩
 have:∀{b:List Wr}{ks:List Int},Ie b ks->Kw (intKind d c) ks b:=by
  intro b ks h;induction h with
  |nil=>exact .nil
  |cons n t _ f=>exact .cons (Sy _ _ _ _) f
 simpa using this j
section
variable{X:Cx}
def gW(X:Cx):V->List V->Hp->VK->Prop:=λx c H Q=>∃(l:Ws) (a:List V) (b:List (List Int)) (y:V) (p:List Int) (j:Nat),x=.ref l/\c=[y]/\H l=b0 (.lst a)/\EF X.K H a b/\EF X.K H [y] [p]/\HQ p b=b0 j/\Q .non (Z8 H l (.lst (a.eraseIdx j)))
def sO(hu:X.A.units+64<cLine):MtM X "list.remove" (gW X):=by
 intro aa s Y H x Z v us Q I G J h;obtain⟨l,g,M,y,p,j,rfl,rfl,B,o,O,S,q⟩:=h;cases G;obtain⟨z,d,c,r,hl,e⟩:=I.lstM B;obtain⟨u,rfl,K⟩:=J.one;have t:=o.len;obtain⟨R,D,U⟩:=A9 S;obtain⟨⟨b,F,n⟩,_⟩:=EF.at I (i:=0) O (by simp);simp only[List.getD_cons_zero]at F n;subst F;cases K;refine Nk Rt ⟨_,e,rfl⟩ Rh (Qp _ _) (oB l d c (.ref b) (λm=>decide (M.getD m []=p)) j (by omega) D U (by omega)) ⟨e,λm P=>?_,?_⟩;obtain ⟨⟨a,W,N⟩,_⟩ := EF.at I (i := m) o (by omega);obtain⟨u',C,T⟩:=bT.get r (i:=m) (x:=.ref a) (by rw[<-W];simp[show m<g.length by omega]);cases T;have V:d[m]=.ref a:=by rw[Cw P]at C;exact Cd C
 rw[V];intro f w E Q' L;exact Ib (by show X.A.units+1<cLine;omega) (gE N f w) (gE n f w) L;have k : j < d.length := by omega
 refine⟨.non,_,I.lset (its':=d.eraseIdx j) B e (by simp[Np,k]) (ys:=g.eraseIdx j) (bT.eraseIdx j r) ?_,rfl,q⟩;have D:=Jv g j;omega
end
def Xr:List cY->List cY->Option (List cY)
 |a,[d]=>(TD a).bind λb=>(tpD d).bind λp=>(HQ p b).map λj=>a.eraseIdx j
 |_,_=>b4
def DR{K:Au}{H:Hp}{N:Ws->Prop}{xs:List V}{ds:List cY}(r:cA K N H xs ds)(j:Nat):cA K N H (xs.eraseIdx j) (ds.eraseIdx j):=by
 induction r using cA.rec (motive_1:=λ_ _ _ _=>True) generalizing j with
 |nil=>exact .nil
 |cons h t _ a=>cases j with
  |zero=>exact t
  |succ j=>exact .cons h (a j)
 |_=>trivial
def lV{X:Cx}{K:Au}(o:X.K=K):MuV K (gW X) Xr:=by
 subst o;intro H N l f g e u b Q hl w c i h k;cases i with
 |nil=>cases h
 | @cons v g d u n t=>
  cases t with
  |cons _ _=>cases h
  |nil=>
   have h:((TD e).bind λa=>(tpD d).bind λp=>(HQ p a).map λj=>e.eraseIdx j)=b0 b:=h;obtain⟨a,s,h⟩:=Ac.mp h;obtain⟨p,r,h⟩:=Ac.mp h;obtain⟨j,q,rfl⟩:=Am.mp h;have m:TD [d]=b0 [p]:=by show(tpD d).bind _=_;rw[r];rfl
   exact⟨l,f,a,v,p,j,rfl,rfl,hl,P7 c s,P7 (.cons n .nil) m,q,k _ _ (DR c j)⟩
end L2
namespace L2
open PySem
section
variable{α β:Type}{d x y z c:cY}{δ xk xj:Ev}{fa fb fc:VF}{o o':cY->cY->Option cY}{i j k n:Nat}{s:Sl}{b:Bool}{ds:List cY}
def q0(r:Option α)(δ:Ev):Option (α×Ev):=r.map λc=>(c,δ)
@[simp] theorem q0_s{a:α}:q0 (b0 a) δ=b0 (a,δ):=rfl
@[simp] theorem fC_e:fC d δ=b0 (d,δ):=rfl
def qV:Option Sl->Ev->Option (cY×Ev)
 |some (.va d),δ=>b0 (d,δ)
 |_,_=>b4
def qO:Option Sl->Ev->Option (cY×Ev)
 |some (.va d),δ=>b0 (d,δ)
 |some (.ow d),δ=>b0 (d,δ)
 |_,_=>b4
@[simp] theorem fV_e:fV i δ=qV δ[i]? δ:=by unfold fV qV;split<;>simp_all
@[simp] theorem fO_e:fO i δ=qO δ[i]? δ:=by unfold fO qO;split<;>simp_all
@[simp] theorem qV_s:qV (b0 (.va d)) δ=b0 (d,δ):=rfl
@[simp] theorem qO_o:qO (b0 (.ow d)) δ=b0 (d,δ):=rfl
def q1(o:cY->Option cY)(r:Option (cY×Ev)):Option (cY×Ev):=r.bind λp=>q0 (o p.1) p.2
@[simp] theorem f1_e{o:cY->Option cY}:f1 o fa δ=q1 o (fa δ):=rfl
@[simp] theorem q1_s{o:cY->Option cY}:q1 o (b0 (x,δ))=q0 (o x) δ:=rfl
def q2(o:cY->cY->Option cY)(r:Option (cY×Ev))(fb:VF):Option (cY×Ev):=r.bind λp=>(fb p.2).bind λq=>q0 (o p.1 q.1) q.2
def q2b(o:cY->cY->Option cY)(x:cY)(r:Option (cY×Ev)):Option (cY×Ev):=r.bind λq=>q0 (o x q.1) q.2
@[simp] theorem f2_e:f2 o fa fb δ=q2 o (fa δ) fb:=rfl
@[simp] theorem q2_s:q2 o (b0 (x,δ)) fb=q2b o x (fb δ):=rfl
@[simp] theorem vf:q2b o x (b0 (y,δ))=q0 (o x y) δ:=rfl
noncomputable def q3(o o':cY->cY->Option cY)(r:Option (cY×Ev))(fb fc:VF):Option (cY×Ev):=r.bind λp=>(fb p.2).bind λq=>(o p.1 q.1).bind λz=>match z with
 |.bl ba=>(fc q.2).bind λs=>(o' q.1 s.1).map λu=>(u,s.2)
 |.bl bb=>b0 (.bl bb,q.2)
 |_=>b4
def q3b(o o':cY->cY->Option cY)(x:cY)(r:Option (cY×Ev))(fc:VF):Option (cY×Ev):=q3 o o' (b0 (x,[])) (λ_=>r) fc
def q3c(o':cY->cY->Option cY)(y:cY)(δ:Ev)(fc:VF):Option cY->Option (cY×Ev)
 |some (.bl ba)=>q2b o' y (fc δ)
 |some (.bl bb)=>b0 (.bl bb,δ)
 |_=>b4
@[simp] theorem f3_e:f3 o o' fa fb fc δ=q3 o o' (fa δ) fb fc:=rfl
@[simp] theorem q3_s:q3 o o' (b0 (x,δ)) fb fc=q3b o o' x (fb δ) fc:=rfl
@[simp] theorem uO:q3b o o' x (b0 (y,δ)) fc=q3c o' y δ fc (o x y):=by
 simp only[q3b,q3,An];cases o x y with
 |none=>rfl
 |some z=>cases z with
  |bl b=>cases b<;>rfl
  |_=>rfl
@[simp] theorem uK:q3c o' y δ fc (b0 (.bl ba))=q2b o' y (fc δ):=rfl
@[simp] theorem vR:q3c o' y δ fc (b0 (.bl bb))=b0 (.bl bb,δ):=rfl
def qc(r:Option (cY×Ev))(fs:K7):Option (List cY×Ev):=r.bind λp=>(fs p.2).map λq=>(p.1::q.1,q.2)
def qcb(x:cY)(r:Option (List cY×Ev)):Option (List cY×Ev):=r.map λq=>(x::q.1,q.2)
@[simp] theorem ub:cL δ=b0 ([],δ):=rfl
@[simp] theorem uL{fs:K7}:cT fa fs δ=qc (fa δ) fs:=rfl
@[simp] theorem qc_s{fs:K7}:qc (b0 (x,δ)) fs=qcb x (fs δ):=rfl
@[simp] theorem vT:qcb x (b0 (ds,δ))=b0 (x::ds,δ):=rfl
def qT(g:List cY->cY)(r:Option (List cY×Ev)):Option (cY×Ev):=r.bind λp=>if p.1.length<=16777216 then b0 (g p.1,p.2)else b4
@[simp] theorem wX{fs:K7}:bK fs δ=qT .tup (fs δ):=rfl
@[simp] theorem uE{fs:K7}:bJ fs δ=qT .lst (fs δ):=rfl
@[simp] theorem qT_s{g:List cY->cY}:qT g (b0 (ds,δ))=if ds.length<=16777216 then b0 (g ds,δ)else b4:=rfl
def qB:Option (cY×Ev)->Option (Bool×Ev)
 |some (.bl k,δ)=>b0 (k,δ)
 |_=>b4
@[simp] theorem fB_e:fB fa δ=qB (fa δ):=by
 unfold fB qB;cases fa δ with
 |none=>rfl
 |some p=>
  obtain⟨d,e⟩:=p;cases d<;>rfl
@[simp] theorem qB_s:qB (b0 (.bl b,δ))=b0 (b,δ):=rfl
variable{tb tb':VB}{g g':VS}
section
variable{a:VG}{es:List cY}{fi:VF}{ix:List Nat}{nl:Nat}
def qAnd(r:Option (Bool×Ev))(y:VB):Option (Bool×Ev):=r.bind λp=>if p.1=ba then y p.2 else b0 (bb,p.2)
def qOr(r:Option (Bool×Ev))(y:VB):Option (Bool×Ev):=r.bind λp=>if p.1=ba then b0 (ba,p.2)else y p.2
def qNot(r:Option (Bool×Ev)):Option (Bool×Ev):=r.map λp=>(!p.1,p.2)
@[simp] theorem tz:XO tb tb' δ=qAnd (tb δ) tb':=rfl
@[simp] theorem uW:IV tb tb' δ=qOr (tb δ) tb':=rfl
@[simp] theorem tM:U0 tb δ=qNot (tb δ):=rfl
@[simp] theorem CO:Y3 δ=b0 (ba,δ):=rfl
@[simp] theorem wa:qAnd (b0 (ba,δ)) tb=tb δ:=rfl
@[simp] theorem vy:qAnd (b0 (bb,δ)) tb=b0 (bb,δ):=rfl
@[simp] theorem uM:qOr (b0 (ba,δ)) tb=b0 (ba,δ):=rfl
@[simp] theorem tO:qOr (b0 (bb,δ)) tb=tb δ:=rfl
@[simp] theorem uX:qNot (b0 (b,δ))=b0 (!b,δ):=rfl
def qA(r:Option (cY×Ev))(y:VF):Option (cY×Ev):=r.bind λp=>match p.1 with
 |.bl ba=>y p.2
 |.bl bb=>b0 (.bl bb,p.2)
 |_=>b4
def qR(r:Option (cY×Ev))(y:VF):Option (cY×Ev):=r.bind λp=>match p.1 with
 |.bl bb=>y p.2
 |.bl ba=>b0 (.bl ba,p.2)
 |_=>b4
def qN(r:Option (cY×Ev)):Option (cY×Ev):=r.bind λp=>match p.1 with
 |.bl k=>b0 (.bl (!k),p.2)
 |_=>b4
@[simp] theorem wK:RA fa fb δ=qA (fa δ) fb:=rfl
@[simp] theorem vK:fOr fa fb δ=qR (fa δ) fb:=rfl
@[simp] theorem vH:fNot fa δ=qN (fa δ):=rfl
@[simp] theorem qA_t:qA (b0 (.bl ba,δ)) fb=fb δ:=rfl
@[simp] theorem qA_f:qA (b0 (.bl bb,δ)) fb=b0 (.bl bb,δ):=rfl
@[simp] theorem qR_t:qR (b0 (.bl ba,δ)) fb=b0 (.bl ba,δ):=rfl
@[simp] theorem qR_f:qR (b0 (.bl bb,δ)) fb=fb δ:=rfl
@[simp] theorem qN_s:qN (b0 (.bl b,δ))=b0 (.bl (!b),δ):=rfl
def qI(r:Option (Bool×Ev))(x y:VF):Option (cY×Ev):=r.bind λp=>if p.1=ba then x p.2 else y p.2
@[simp] theorem vi:EC tb fa fb δ=qI (tb δ) fa fb:=rfl
@[simp] theorem qI_t:qI (b0 (ba,δ)) fa fb=fa δ:=rfl
@[simp] theorem qI_f:qI (b0 (bb,δ)) fa fb=fb δ:=rfl
def qS(r:Option Ou)(g:VS):Option Ou:=r.bind λo=>match o with
 |.nx xj=>g xj
 |o=>b0 o
@[simp] theorem vD:aY δ=b0 (.nx δ):=rfl
@[simp] theorem DU:cE g g' δ=qS (g δ) g':=rfl
@[simp] theorem qS_n:qS (b0 (.nx δ)) g=g δ:=rfl
@[simp] theorem qS_r:qS (b0 (.rt d δ)) g=b0 (.rt d δ):=rfl
def qJ(r:Option (Bool×Ev))(x y:VS):Option Ou:=r.bind λp=>if p.1=ba then x p.2 else y p.2
@[simp] theorem eF:YL tb g g' δ=qJ (tb δ) g g':=rfl
@[simp] theorem qJ_t:qJ (b0 (ba,δ)) g g'=g δ:=rfl
@[simp] theorem qJ_f:qJ (b0 (bb,δ)) g g'=g' δ:=rfl
def qRet(r:Option (cY×Ev)):Option Ou:=r.map λp=>.rt p.1 p.2
def dG(r:Option (cY×Ev)):Option Ou:=r.map λp=>.nx p.2
@[simp] theorem tZ:bQ fa δ=qRet (fa δ):=rfl
@[simp] theorem uF:qRet (b0 (d,δ))=b0 (.rt d δ):=rfl
@[simp] theorem wJ:BR fa δ=dG (fa δ):=rfl
@[simp] theorem wC:dG (b0 (d,δ))=b0 (.nx δ):=rfl
def qx(f:cY->Sl)(r:Option (cY×Ev)):Option (Sl×Ev):=r.map λp=>(f p.1,p.2)
@[simp] theorem xV_e:xV fa δ=qx .va (fa δ):=rfl
@[simp] theorem xO_e:xO fa δ=qx .ow (fa δ):=rfl
@[simp] theorem qx_s{f:cY->Sl}:qx f (b0 (d,δ))=b0 (f d,δ):=rfl
def qSet(i:Nat)(r:Option (Sl×Ev)):Option Ou:=r.bind λp=>if i<p.2.length then b0 (.nx (p.2.set i p.1))else b4
@[simp] theorem wB{x:VX}:aU i x δ=qSet i (x δ):=rfl
@[simp] theorem vh:qSet i (b0 (s,δ))=if i<δ.length then b0 (.nx (δ.set i s))else b4:=rfl
noncomputable def qP2(i j:Nat)(r:Option (Sl×Ev))(y:VX):Option Ou:=r.bind λp=>(y p.2).bind λq=>if i<q.2.length/\j<q.2.length then b0 (.nx ((q.2.set j q.1).set i p.1))else b4
def qP2b(i j:Nat)(s:Sl)(r:Option (Sl×Ev)):Option Ou:=r.bind λq=>if i<q.2.length/\j<q.2.length then b0 (.nx ((q.2.set j q.1).set i s))else b4
@[simp] theorem ut{x y:VX}:UT i j x y δ=qP2 i j (x δ) y:=rfl
@[simp] theorem vQ{y:VX}:qP2 i j (b0 (s,δ)) y=qP2b i j s (y δ):=rfl
@[simp] theorem wG{a:Sl}:qP2b i j s (b0 (a,δ))=if i<δ.length/\j<δ.length then b0 (.nx ((δ.set j a).set i s))else b4:=rfl
noncomputable def qP3(i j k:Nat)(r:Option (Sl×Ev))(y z:VX):Option Ou:=r.bind λp=>(y p.2).bind λq=>(z q.2).bind λr=>if i<r.2.length/\j<r.2.length/\k<r.2.length then b0 (.nx (((r.2.set k r.1).set j q.1).set i p.1))else b4
noncomputable def qP3b(i j k:Nat)(s:Sl)(r:Option (Sl×Ev))(z:VX):Option Ou:=r.bind λq=>(z q.2).bind λr=>if i<r.2.length/\j<r.2.length/\k<r.2.length then b0 (.nx (((r.2.set k r.1).set j q.1).set i s))else b4
noncomputable def qP3c(i j k:Nat)(s a:Sl)(r:Option (Sl×Ev)):Option Ou:=r.bind λr=>if i<r.2.length/\j<r.2.length/\k<r.2.length then b0 (.nx (((r.2.set k r.1).set j a).set i s))else b4
@[simp] theorem uU{x y z:VX}:P2 i j k x y z δ=qP3 i j k (x δ) y z:=rfl
@[simp] theorem tP{y z:VX}:qP3 i j k (b0 (s,δ)) y z=qP3b i j k s (y δ) z:=rfl
@[simp] theorem wU{a:Sl}{z:VX}:qP3b i j k s (b0 (a,δ)) z=qP3c i j k s a (z δ):=rfl
@[simp] theorem wt{b a:Sl}:qP3c i j k s b (b0 (a,δ))=if i<δ.length/\j<δ.length/\k<δ.length then b0 (.nx (((δ.set k a).set j b).set i s))else b4:=rfl
@[simp] theorem PB:gN i d δ=b0 (δ.set i (.va d)):=rfl
def qg(r:Option Ev)(a:VGs)(ds:List cY):Option Ev:=r.bind λxk=>a ds xk
@[simp] theorem uI:XY [] δ=b0 δ:=rfl
@[simp] theorem vG{b:VG}{a:VGs}:bL b a (d::ds) δ=qg (b d δ) a ds:=rfl
@[simp] theorem qg_s{a:VGs}:qg (b0 δ) a ds=a ds δ:=rfl
@[simp] theorem uZ{a:VGs}:KR n a (.tup ds) δ=if ds.length=n then a ds δ else b4:=rfl
@[simp] theorem tL{a:VGs}:KR n a (.lst ds) δ=if ds.length=n then a ds δ else b4:=rfl
def qAsg(r:Option (cY×Ev))(a:VG):Option Ou:=r.bind λp=>(a p.1 p.2).map Ou.nx
@[simp] theorem vN:sAsg fa a δ=qAsg (fa δ) a:=rfl
@[simp] theorem uh:qAsg (b0 (d,δ)) a=(a d δ).map Ou.nx:=rfl
def qM(i:Nat)(m:List cY->List cY->Option (List cY))(r:Option (List cY))(δ:Ev)(fs:K7):Option Ou:=r.bind λ_=>(fs δ).bind λp=>(VM p.2 i).bind λds=>(m ds p.1).map λa=>.nx (p.2.set i (.ow (.lst a)))
def qMb(i:Nat)(m:List cY->List cY->Option (List cY))(r:Option (List cY×Ev)):Option Ou:=r.bind λp=>(VM p.2 i).bind λds=>(m ds p.1).map λa=>.nx (p.2.set i (.ow (.lst a)))
def qMc(i:Nat)(m:List cY->List cY->Option (List cY))(es:List cY)(δ:Ev)(r:Option (List cY)):Option Ou:=r.bind λds=>(m ds es).map λa=>.nx (δ.set i (.ow (.lst a)))
def qMd(i:Nat)(δ:Ev)(r:Option (List cY)):Option Ou:=r.map λa=>.nx (δ.set i (.ow (.lst a)))
@[simp] theorem tQ{m:List cY->List cY->Option (List cY)}{fs:K7}:VY i m fs δ=qM i m (VM δ i) δ fs:=rfl
@[simp] theorem qM_s{m:List cY->List cY->Option (List cY)}{fs:K7}:qM i m (b0 ds) δ fs=qMb i m (fs δ):=rfl
@[simp] theorem wD{m:List cY->List cY->Option (List cY)}:qMb i m (b0 (es,δ))=qMc i m es δ (VM δ i):=rfl
@[simp] theorem vg{m:List cY->List cY->Option (List cY)}:qMc i m es δ (b0 ds)=qMd i δ (m ds es):=rfl
@[simp] theorem xa:qMd i δ (b0 ds)=b0 (.nx (δ.set i (.ow (.lst ds)))):=rfl
noncomputable def qOl:Option Sl->Option (List cY)
 |some (.ow (.lst ds))=>b0 ds
 |_=>b4
@[simp] theorem wM:VM δ i=qOl δ[i]? :=by unfold VM qOl;split<;>simp_all
@[simp] theorem uG:qOl (b0 (.ow (.lst ds)))=b0 ds:=rfl
@[simp] theorem tV:UP ds [d]=if ds.length<16777216 then b0 (ds++[d])else b4:=rfl
noncomputable def qOd:Option Sl->Option (List bH×List cY)
 |some (.ow (.dct a ds))=>b0 (a,ds)
 |_=>b4
@[simp] theorem vd:WU δ i=qOd δ[i]? :=by unfold WU qOd;split<;>simp_all
@[simp] theorem uD{ks:List bH}:qOd (b0 (.ow (.dct ks ds)))=b0 (ks,ds):=rfl
def qL(i:Nat)(r:Option (cY×Ev))(fi:VF):Option Ou:=r.bind λp=>(VM p.2 i).bind λ_=>(fi p.2).bind λq=>(VM q.2 i).bind λds=>match q.1 with
 |.int k=>(HB ds.length k).map λj=>.nx (q.2.set i (.ow (.lst (ds.set j p.1))))
 |_=>b4
def qLb(i:Nat)(x:cY)(r:Option (List cY))(δ:Ev)(fi:VF):Option Ou:=r.bind λ_=>(fi δ).bind λq=>(VM q.2 i).bind λds=>match q.1 with
 |.int k=>(HB ds.length k).map λj=>.nx (q.2.set i (.ow (.lst (ds.set j x))))
 |_=>b4
def qLc(i:Nat)(x:cY)(r:Option (cY×Ev)):Option Ou:=r.bind λq=>(VM q.2 i).bind λds=>match q.1 with
 |.int k=>(HB ds.length k).map λj=>.nx (q.2.set i (.ow (.lst (ds.set j x))))
 |_=>b4
def qLd(i:Nat)(x:cY)(k:Int)(δ:Ev)(r:Option (List cY)):Option Ou:=r.bind λds=>(HB ds.length k).map λj=>.nx (δ.set i (.ow (.lst (ds.set j x))))
@[simp] theorem vb{a:VF}:FU i fi a δ=qL i (a δ) fi:=rfl
@[simp] theorem qL_s:qL i (b0 (x,δ)) fi=qLb i x (VM δ i) δ fi:=rfl
@[simp] theorem uB:qLb i x (b0 ds) δ fi=qLc i x (fi δ):=rfl
@[simp] theorem wE{k:Int}:qLc i x (b0 (.int k,δ))=qLd i x k δ (VM δ i):=rfl
@[simp] theorem we{k:Int}:qLd i x k δ (b0 ds)=(HB ds.length k).map λj=>.nx (δ.set i (.ow (.lst (ds.set j x)))):=rfl
def qi(r:Option (cY×Ev)):Option (List cY×Ev):=r.bind λp=>(YH p.1).map λds=>(ds,p.2)
@[simp] theorem uT:ZT fa δ=qi (fa δ):=rfl
@[simp] theorem qi_t:qi (b0 (.tup ds,δ))=b0 (ds,δ):=rfl
@[simp] theorem qi_l:qi (b0 (.lst ds,δ))=b0 (ds,δ):=rfl
noncomputable def qr1:Option (cY×Ev)->Option (List cY×Ev)
 |some (.int j,δ)=>if -4611686018427387904<=j/\j<4611686018427387904 then b0 (a7 0 j.toNat,δ)else b4
 |_=>b4
@[simp] theorem wL:OS fa δ=qr1 (fa δ):=by
 unfold OS qr1;cases fa δ with
 |none=>rfl
 |some p=>
  obtain⟨d,e⟩:=p;cases d<;>rfl
@[simp] theorem uR{j:Int}:qr1 (b0 (.int j,δ))=if -4611686018427387904<=j/\j<4611686018427387904 then b0 (a7 0 j.toNat,δ)else b4:=rfl
def qe(r:Option (cY×Ev)):Option (List cY×Ev):=r.bind λp=>(YH p.1).map λds=>(XW 0 ds,p.2)
@[simp] theorem wY:LQ fa δ=qe (fa δ):=rfl
@[simp] theorem qe_t:qe (b0 (.tup ds,δ))=b0 (XW 0 ds,δ):=rfl
@[simp] theorem qe_l:qe (b0 (.lst ds,δ))=b0 (XW 0 ds,δ):=rfl
def qz(r:Option (cY×Ev))(g:VF):Option (List cY×Ev):=r.bind λp=>(g p.2).bind λq=>(YH p.1).bind λds=>(YH q.1).map λa=>(XJ ds a,q.2)
def qzb(x:cY)(r:Option (cY×Ev)):Option (List cY×Ev):=r.bind λq=>(YH x).bind λds=>(YH q.1).map λa=>(XJ ds a,q.2)
@[simp] theorem uY:iZip fa fb δ=qz (fa δ) fb:=rfl
@[simp] theorem qz_s:qz (b0 (x,δ)) fb=qzb x (fb δ):=rfl
@[simp] theorem ui:qzb x (b0 (y,δ))=(YH x).bind λds=>(YH y).map λa=>(XJ ds a,δ):=rfl
@[simp] theorem vB:YH (.tup ds)=b0 ds:=rfl
@[simp] theorem sZ:YH (.lst ds)=b0 ds:=rfl
def qF(r:Option (List cY×Ev))(a:VG)(g:VS):Option Ou:=r.bind λp=>XQ a g p.1 p.2
@[simp] theorem HW{fi:VI}:U5 fi a g δ=qF (fi δ) a g:=rfl
@[simp] theorem qF_s:qF (b0 (ds,δ)) a g=XQ a g ds δ:=rfl
def qK(ix:List Nat)(nl:Nat)(r:Option (List cY×Ev))(a:VG)(tb:VB)(b:VF):Option (cY×Ev):=r.bind λp=>(Z2 ix.length nl a tb b p.1 [] (b7 ix p.2)).map λq=>(.lst q.1,bD ix q.2 p.2)
def qKb(ix:List Nat)(δ:Ev)(r:Option (List cY×Ev)):Option (cY×Ev):=r.map λq=>(.lst q.1,bD ix q.2 δ)
@[simp] theorem vk{fi:VI}:bM ix nl fi a tb fa δ=qK ix nl (fi δ) a tb fa:=rfl
@[simp] theorem qK_s:qK ix nl (b0 (ds,δ)) a tb fa=qKb ix δ (Z2 ix.length nl a tb fa ds [] (b7 ix δ)):=rfl
@[simp] theorem vM:qKb ix δ (b0 (ds,xk))=b0 (.lst ds,bD ix xk δ):=rfl
end
variable{as:List AV}{fs:EB}{mF:List Nat}{F:aP}
section
variable{a:VP}{os:List cY}{l u:Option Int}{ml:List Nat}
noncomputable def qa(r:Option (cY×Ev))(fs:EB):Option (List AV×Ev):=r.bind λp=>(fs p.2).map λq=>(.d p.1::q.1,q.2)
def qab(x:AV)(r:Option (List AV×Ev)):Option (List AV×Ev):=r.map λq=>(x::q.1,q.2)
@[simp] theorem o8:cB δ=b0 ([],δ):=rfl
@[simp] theorem EG:aE fa fs δ=qa (fa δ) fs:=rfl
@[simp] theorem qa_s:qa (b0 (x,δ)) fs=qab (.d x) (fs δ):=rfl
@[simp] theorem Ye{a:AV}:qab a (b0 (as,δ))=b0 (a::as,δ):=rfl
def qao(j:Nat)(r:Option cY)(δ:Ev)(fs:EB):Option (List AV×Ev):=r.bind λ_=>qab (.o j) (fs δ)
@[simp] theorem aO_e:aO j fs δ=qao j (slot δ j) δ fs:=rfl
@[simp] theorem mT:qao j (b0 d) δ fs=qab (.o j) (fs δ):=rfl
noncomputable def qsl:Option Sl->Option cY
 |some (.va d)=>b0 d
 |some (.ow d)=>b0 d
 |_=>b4
@[simp] theorem vY:slot δ j=qsl δ[j]? :=by unfold slot qsl;split<;>simp_all
@[simp] theorem tq:qsl (b0 (.va d))=b0 d:=rfl
@[simp] theorem tX:qsl (b0 (.ow d))=b0 d:=rfl
@[simp] theorem ve:U7 δ []=b0 []:=rfl
@[simp] theorem tU:U7 δ (.d d::as)=(U7 δ as).map λds=>d::ds:=rfl
@[simp] theorem uJ:U7 δ (.o j::as)=(slot δ j).bind λd=>(U7 δ as).map λds=>d::ds:=rfl
def fW(n:Nat)(mF:List Nat)(F:aP)(r:Option (List AV×Ev)):Option (cY×Ev):=r.bind λp=>(U7 p.2 p.1).bind λds=>if ds.length=n/\TZ mF p.1 p.2=ba then(F ds).bind λq=>if U1 mF p.1 q.1 q.2=ba then b0 (q.1,US p.1 mF q.2 p.2)else b4 else b4
def qCb(n:Nat)(mF:List Nat)(F:aP)(as:List AV)(δ:Ev)(r:Option (List cY)):Option (cY×Ev):=r.bind λds=>if ds.length=n/\TZ mF as δ=ba then(F ds).bind λq=>if U1 mF as q.1 q.2=ba then b0 (q.1,US as mF q.2 δ)else b4 else b4
def qCc(mF:List Nat)(as:List AV)(δ:Ev)(r:Option (cY×List cY)):Option (cY×Ev):=r.bind λq=>if U1 mF as q.1 q.2=ba then b0 (q.1,US as mF q.2 δ)else b4
@[simp] theorem MV:cM n mF F fs δ=fW n mF F (fs δ):=rfl
@[simp] theorem oK:fW n mF F (b0 (as,δ))=qCb n mF F as δ (U7 δ as):=rfl
@[simp] theorem ku:qCb n mF F as δ (b0 ds)=if ds.length=n/\TZ mF as δ=ba then qCc mF as δ (F ds)else b4:=rfl
@[simp] theorem oD:qCc mF as δ (b0 (d,os))=if U1 mF as d os=ba then b0 (d,US as mF os δ)else b4:=rfl
@[simp] theorem vn:AQ δ as i=(match as[i]? with
 |some (.o j)=>match δ[j]? with
  |some (.ow _)=>ba
  |_=>bb
 |_=>bb):=rfl
@[simp] theorem vE:TC []=[]:=rfl
@[simp] theorem wZ:TC (.d d::as)=TC as:=rfl
@[simp] theorem wP:TC (.o j::as)=j::TC as:=rfl
@[simp] theorem x0:TZ mF as δ=(mF.all (AQ δ as)&&decide (TC as).Nodup):=rfl
@[simp] theorem vj:VQ mF [] i=ba:=rfl
@[simp] theorem w8:VQ mF (.d d::as) i=VQ mF as (i+1):=rfl
@[simp] theorem vx:VQ mF (.o j::as) i=(decide (i∈mF)&&VQ mF as (i+1)):=rfl
@[simp] theorem wV:U1 mF as d os=((VQ mF as 0 || d.hard)&&(VQ mF as 0 || os.all SI)&&decide (mF.length=os.length)):=rfl
@[simp] theorem tJ:US as [] os δ=δ:=by cases os<;>rfl
@[simp] theorem w9{is:List Nat}:US as (i::is) (d::os) δ=(match as[i]? with
  |some (.o j)=>US as is os (δ.set j (.ow d))
  |_=>US as is os δ):=rfl
@[simp] theorem wz:JZ δ=b0 (b4,δ):=rfl
def qpS:Option (cY×Ev)->Option (Option Int×Ev)
 |some (.int i,δ)=>b0 (b0 i,δ)
 |_=>b4
@[simp] theorem wS:K3 fa δ=qpS (fa δ):=by
 unfold K3 qpS;cases fa δ with
 |none=>rfl
 |some p=>
  obtain⟨d,e⟩:=p;cases d<;>rfl
@[simp] theorem ua{i:Int}:qpS (b0 (.int i,δ))=b0 (b0 i,δ):=rfl
noncomputable def qSl(r:Option (cY×Ev))(a b:VP):Option (cY×Ev):=r.bind λp=>(a p.2).bind λl=>(b l.2).bind λu=>(oSl p.1 l.1 u.1).map λc=>(c,u.2)
def qSlb(x:cY)(r:Option (Option Int×Ev))(a:VP):Option (cY×Ev):=r.bind λl=>(a l.2).bind λu=>(oSl x l.1 u.1).map λc=>(c,u.2)
def qSlc(x:cY)(l:Option Int)(r:Option (Option Int×Ev)):Option (cY×Ev):=r.bind λu=>q0 (oSl x l u.1) u.2
@[simp] theorem uA{b:VP}:K1 fa a b δ=qSl (fa δ) a b:=rfl
@[simp] theorem ug{b:VP}:qSl (b0 (x,δ)) a b=qSlb x (a δ) b:=rfl
@[simp] theorem uv:qSlb x (b0 (l,δ)) a=qSlc x l (a δ):=rfl
@[simp] theorem tK:qSlc x l (b0 (u,δ))=q0 (oSl x l u) δ:=rfl
@[simp] theorem tG:oSl (.tup ds) l u=b0 (.tup (X7 ds l u)):=rfl
@[simp] theorem v5:oSl (.lst ds) l u=b0 (.lst (X7 ds l u)):=rfl
noncomputable def qSt(i j:Nat):Option (cY×Ev)->Option Ou
 |some (.tup (d::ds),δ)=>b0 (.nx ((δ.set i (.va d)).set j (.va (.lst ds))))
 |_=>b4
@[simp] theorem wu:J6 i j fa δ=qSt i j (fa δ):=by
 unfold J6 qSt;cases fa δ with
 |none=>rfl
 |some p=>
  obtain⟨d,e⟩:=p;cases d with
  |tup ds=>cases ds<;>rfl
  |_=>rfl
@[simp] theorem vA:qSt i j (b0 (.tup (d::ds),δ))=b0 (.nx ((δ.set i (.va d)).set j (.va (.lst ds)))):=rfl
def qDg(i:Nat)(r:Option (List bH×List cY))(δ:Ev)(fk a:VF):Option (cY×Ev):=r.bind λ_=>(fk δ).bind λp=>(a p.2).bind λq=>(WM p.1).bind λk=>(WU q.2 i).map λz=>((a6 z.1 z.2 k).getD q.1,q.2)
def qDgb(i:Nat)(r:Option (cY×Ev))(a:VF):Option (cY×Ev):=r.bind λp=>(a p.2).bind λq=>(WM p.1).bind λk=>(WU q.2 i).map λz=>((a6 z.1 z.2 k).getD q.1,q.2)
def qDgc(i:Nat)(x:cY)(r:Option (cY×Ev)):Option (cY×Ev):=r.bind λq=>(WM x).bind λk=>(WU q.2 i).map λz=>((a6 z.1 z.2 k).getD q.1,q.2)
@[simp] theorem uP:G5 i fa fb δ=qDg i (WU δ i) δ fa fb:=rfl
@[simp] theorem wd{z:List bH×List cY}:qDg i (b0 z) δ fa fb=qDgb i (fa δ) fb:=rfl
@[simp] theorem wb:qDgb i (b0 (x,δ)) fb=qDgc i x (fb δ):=rfl
@[simp] theorem vF:qDgc i x (b0 (y,δ))=(WM x).bind λk=>(WU δ i).map λz=>((a6 z.1 z.2 k).getD y,δ):=rfl
def qDp(i:Nat)(r:Option (cY×Ev))(fk:VF):Option Ou:=r.bind λp=>(WU p.2 i).bind λ_=>(fk p.2).bind λq=>(WM q.1).bind λk=>(WU q.2 i).bind λz=>if z.1.length<16777216/\z.1.Nodup then b0 (.nx (q.2.set i (.ow (let r:=Y6 z.1 z.2 k p.1;.dct r.1 r.2))))else b4
def qDpb(i:Nat)(x:cY)(r:Option (List bH×List cY))(δ:Ev)(fk:VF):Option Ou:=r.bind λ_=>(fk δ).bind λq=>(WM q.1).bind λk=>(WU q.2 i).bind λz=>if z.1.length<16777216/\z.1.Nodup then b0 (.nx (q.2.set i (.ow (let r:=Y6 z.1 z.2 k x;.dct r.1 r.2))))else b4
def qDpc(i:Nat)(x:cY)(r:Option (cY×Ev)):Option Ou:=r.bind λq=>(WM q.1).bind λk=>(WU q.2 i).bind λz=>if z.1.length<16777216/\z.1.Nodup then b0 (.nx (q.2.set i (.ow (.dct (Y6 z.1 z.2 k x).1 (Y6 z.1 z.2 k x).2))))else b4
@[simp] theorem uQ{fk a:VF}:J4 i fk a δ=qDp i (a δ) fk:=rfl
@[simp] theorem wN{fk:VF}:qDp i (b0 (x,δ)) fk=qDpb i x (WU δ i) δ fk:=rfl
@[simp] theorem tE{z:List bH×List cY}{fk:VF}:qDpb i x (b0 z) δ fk=qDpc i x (fk δ):=rfl
@[simp] theorem wI:qDpc i x (b0 (y,δ))=(WM y).bind λk=>(WU δ i).bind λz=>if z.1.length<16777216/\z.1.Nodup then b0 (.nx (δ.set i (.ow (.dct (Y6 z.1 z.2 k x).1 (Y6 z.1 z.2 k x).2))))else b4:=rfl
@[simp] theorem x5{i:Int}:WM (.int i)=b0 (.inl i):=rfl
@[simp] theorem uj{s:Wy}:WM (.str s)=b0 (.inr s):=rfl
noncomputable def qRun(ml:List Nat):Option Ou->Option (cY×List cY)
 |some (.rt d δ)=>(SO ml δ).map λos=>(d,os)
 |some (.nx δ)=>(SO ml δ).map λos=>(.non,os)
 |_=>b4
def bZ:ZQ n ml g ds=qRun ml (g (bU ml n ds)):=by
 unfold ZQ qRun;cases g (bU ml n ds)with
 |none=>rfl
 |some o=>cases o<;>rfl
@[simp] theorem vc:qRun ml (b0 (.rt d δ))=(SO ml δ).map λos=>(d,os):=rfl
@[simp] theorem wQ:qRun ml (b0 (.nx δ))=(SO ml δ).map λos=>(.non,os):=rfl
def qow:Option Sl->Option cY
 |some (.ow d)=>b0 d
 |_=>b4
@[simp] theorem ud:SO [] δ=b0 []:=rfl
@[simp] theorem wl:SO (i::ml) δ=(qow δ[i]?).bind λd=>(SO ml δ).map λos=>d::os:=by
 unfold SO;rw[Us];cases h:(δ[i]? :Option Sl)with
 |none=>rfl
 | some s => cases s with
  |no=>rfl
  |va d=>rfl
  |ow d=>
   show(Um _ λos=>b0 (d::os))=Option.map (λos=>d::os) _;cases (List.mapM _ ml:Option (List cY))<;>rfl
@[simp] theorem tR:qow (b0 (.ow d))=b0 d:=rfl
end
end
section
variable{i j:Int}{x y:Wy}{ds es:List cY}
@[simp] theorem oI_e{C:Int->Int->Bool}{g:Int->Int->cY}:oI C g (.int i) (.int j)=if C i j=ba then b0 (g i j)else b4:=rfl
@[simp] theorem u9:aV (.int i) (.int j)=b0 (.int (i+j)):=rfl
@[simp] theorem vX:aV (.tup ds) (.tup es)=if ds.length+es.length<=16777216 then b0 (.tup (ds++es))else b4:=rfl
@[simp] theorem vJ:aV (.lst ds) (.lst es)=if ds.length+es.length<=16777216 then b0 (.lst (ds++es))else b4:=rfl
@[simp] theorem uH{g:Int->Int->Int}:o2I g (.int i) (.int j)=b0 (.int (g i j)):=rfl
@[simp] theorem uV:Z9 (.tup ds)=b0 (.int ds.length):=rfl
@[simp] theorem ue:Z9 (.lst ds)=b0 (.int ds.length):=rfl
@[simp] theorem tI:VH (.tup ds)=b0 (.lst ds):=rfl
@[simp] theorem vU:ZP (.lst ds)=b0 (.tup ds):=rfl
@[simp] theorem v7:cJ (.tup ds) (.int i)=U8 ds i:=rfl
@[simp] theorem wW:cJ (.lst ds) (.int i)=U8 ds i:=rfl
@[simp] theorem tF{ks:List bH}:cJ (.dct ks ds) (.int i)=a6 ks ds (.inl i):=rfl
@[simp] theorem vq{ks:List bH}:cJ (.dct ks ds) (.str x)=a6 ks ds (.inr x):=rfl
@[simp] theorem vt:GL (.int i)=ba:=rfl
@[simp] theorem uu:LS "int" "bool"=b0 bb:=by decide+kernel
@[simp] theorem wH:LS "int" "int"=b0 ba:=by decide+kernel
@[simp] theorem tT:LS "tuple" "tuple"=b0 ba:=by decide+kernel
@[simp] theorem wq:LS "str" "str"=b0 ba:=by decide+kernel
@[simp] theorem wR{n:String}:QZ (.int i) (.ty n)=(LS "int" n).map cY.bl:=rfl
@[simp] theorem v9{n:String}:QZ (.tup ds) (.ty n)=(LS "tuple" n).map cY.bl:=rfl
@[simp] theorem uw{n:String}:QZ (.str x) (.ty n)=(LS "str" n).map cY.bl:=rfl
@[simp] theorem w4:DF .non .non=b0 (.bl ba):=rfl
@[simp] theorem v6:DF (.int i) .non=b0 (.bl bb):=rfl
@[simp] theorem uc:DF (.tup ds) .non=b0 (.bl bb):=rfl
end
section
variable{d x:cY}{δ xk:Ev}{r xh:List cY}{gg:VG}{tb:VB}{fe:VF}{n nl:Nat}{g:VS}
def qk1(n nl:Nat)(gg:VG)(tb:VB)(fe:VF)(r xh:List cY)(o:Option Ev):Option (List cY×Ev):=o.bind λxk=>(tb xk).bind λp=>if p.1=ba then(fe p.2).bind λq=>if xh.length<16777216 then Z2 n nl gg tb fe r (xh++[q.1]) (q.2.take n)else b4 else Z2 n nl gg tb fe r xh (p.2.take n)
def qk2(n nl:Nat)(gg:VG)(tb:VB)(fe:VF)(r xh:List cY)(o:Option (Bool×Ev)):Option (List cY×Ev):=o.bind λp=>if p.1=ba then(fe p.2).bind λq=>if xh.length<16777216 then Z2 n nl gg tb fe r (xh++[q.1]) (q.2.take n)else b4 else Z2 n nl gg tb fe r xh (p.2.take n)
def qk3(n nl:Nat)(gg:VG)(tb:VB)(fe:VF)(r xh:List cY)(o:Option (cY×Ev)):Option (List cY×Ev):=o.bind λq=>if xh.length<16777216 then Z2 n nl gg tb fe r (xh++[q.1]) (q.2.take n)else b4
@[simp] theorem uq:Z2 n nl gg tb fe [] xh δ=b0 (xh,δ):=rfl
@[simp] theorem O8:Z2 n nl gg tb fe (d::r) xh δ=qk1 n nl gg tb fe r xh (gg d (δ++HI nl)):=rfl
@[simp] theorem FP:qk1 n nl gg tb fe r xh (b0 δ)=qk2 n nl gg tb fe r xh (tb δ):=rfl
@[simp] theorem Yc:qk2 n nl gg tb fe r xh (b0 (ba,δ))=qk3 n nl gg tb fe r xh (fe δ):=rfl
@[simp] theorem Zt:qk2 n nl gg tb fe r xh (b0 (bb,δ))=Z2 n nl gg tb fe r xh (δ.take n):=rfl
@[simp] theorem Xq:qk3 n nl gg tb fe r xh (b0 (x,δ))=if xh.length<16777216 then Z2 n nl gg tb fe r (xh++[x]) (δ.take n)else b4:=rfl
def qf1(gg:VG)(g:VS)(r:List cY)(o:Option Ev):Option Ou:=o.bind λxk=>(g xk).bind (again (XQ gg g r))
def qf2(gg:VG)(g:VS)(r:List cY)(o:Option Ou):Option Ou:=o.bind (again (XQ gg g r))
@[simp] theorem w5:XQ gg g [] δ=b0 (.nx δ):=rfl
@[simp] theorem VT:XQ gg g (d::r) δ=qf1 gg g r (gg d δ):=rfl
@[simp] theorem SR:qf1 gg g r (b0 δ)=qf2 gg g r (g δ):=rfl
@[simp] theorem SS:qf2 gg g r (b0 (.nx δ))=XQ gg g r δ:=rfl
@[simp] theorem vm{ss:Ev}:bD [] ss δ=δ:=by cases ss<;>rfl
@[simp] theorem tH{i:Nat}{is:List Nat}{ss:Ev}:bD (i::is) (.ow d::ss) δ=bD is ss (δ.set i (.ow d)):=rfl
@[simp] theorem ur{i:Nat}{is:List Nat}{ss:Ev}:bD (i::is) (.va d::ss) δ=bD is ss δ:=rfl
end
@[simp] theorem Yd:HI 1=[.no]:=rfl
@[simp] theorem AW:HI 2=[.no,.no]:=rfl
@[simp] theorem wA{i:Int}:a7 i 0=[]:=rfl
@[simp] theorem tD:a7 0 3=[.int 0,.int 1,.int 2]:=rfl
@[simp] theorem vV:a7 0 4=[.int 0,.int 1,.int 2,.int 3]:=rfl
def YR{a:Type}{xs:List a}{i:Int}(c:0<=i)(b:i<xs.length):U8 xs i=xs[i.toNat]? :=by unfold U8 HB;rw[if_pos c,if_pos b];rfl
def kQ{a:Type}{xs:List a}{i:Nat}(b:i<xs.length):U8 xs (i:Int)=xs[i]? :=by rw[YR (by lia) (by lia)];simp
def CN{a:Type}{xs:List a}{i:Int}(c:0<=i)(b:i<xs.length):∃x∈xs,U8 xs i=b0 x:=by
 rw[YR c b];have h:i.toNat<xs.length:=by lia
 exact⟨xs[i.toNat],Hn _,Cw h⟩
section
variable{F:aP}{fa fb fc:VF}{δ:Ev}{x y z d o:cY}{j:Nat}
noncomputable def qcr(δ:Ev):Option (cY×List cY)->Option (cY×Ev)
 |some (d,[])=>b0 (d,δ)
 |_=>b4
@[simp] theorem wF:qcr δ (b0 (d,[]))=b0 (d,δ):=rfl
def CQ{n:Nat}{ds:List cY}{as:List AV}(h:U7 δ as=b0 ds)(a:ds.length=n)(b:TC as=[])(c:VQ [] as 0=ba):qCb n [] F as δ (b0 ds)=qcr δ (F ds):=by
 have hc:TZ [] as δ=ba:=by simp[b]
 rw[ku,if_pos ⟨a,hc⟩];cases F ds with
 |none=>rfl
 |some q=>
  obtain⟨r,os⟩:=q;rw[oD];cases os with
  |nil=>simp[c,qcr]
  |cons o os=>simp[qcr]
def qx1(F:aP)(r:Option (cY×Ev)):Option (cY×Ev):=r.bind λp=>qcr p.2 (F [p.1])
@[simp] theorem vz:qx1 F (b0 (x,δ))=qcr δ (F [x]):=rfl
@[simp high] theorem call1:cM 1 [] F (aE fa cB) δ=qx1 F (fa δ):=by
 rw[MV,EG];cases fa δ with
 |none=>rfl
 |some p=>exact CQ (as:=[.d p.1]) rfl rfl rfl rfl
def qx2(F:aP)(r:Option (cY×Ev))(fb:VF):Option (cY×Ev):=r.bind λp=>(fb p.2).bind λq=>qcr q.2 (F [p.1,q.1])
def qx2b(F:aP)(x:cY)(r:Option (cY×Ev)):Option (cY×Ev):=r.bind λq=>qcr q.2 (F [x,q.1])
@[simp] theorem sM:qx2 F (b0 (x,δ)) fb=qx2b F x (fb δ):=rfl
@[simp] theorem vZ:qx2b F x (b0 (y,δ))=qcr δ (F [x,y]):=rfl
@[simp high] theorem call2:cM 2 [] F (aE fa (aE fb cB)) δ=qx2 F (fa δ) fb:=by
 rw[MV,EG];cases fa δ with
 |none=>rfl
 |some p=>
  rw[qa_s,EG,sM];cases fb p.2 with
  |none=>rfl
  |some q=>exact CQ (as:=[.d p.1,.d q.1]) rfl rfl rfl rfl
def qx3(F:aP)(r:Option (cY×Ev))(fb fc:VF):Option (cY×Ev):=r.bind λp=>(fb p.2).bind λq=>(fc q.2).bind λs=>qcr s.2 (F [p.1,q.1,s.1])
def qx3b(F:aP)(x:cY)(r:Option (cY×Ev))(fc:VF):Option (cY×Ev):=r.bind λq=>(fc q.2).bind λs=>qcr s.2 (F [x,q.1,s.1])
def qx3c(F:aP)(x y:cY)(r:Option (cY×Ev)):Option (cY×Ev):=r.bind λs=>qcr s.2 (F [x,y,s.1])
@[simp] theorem rG:qx3 F (b0 (x,δ)) fb fc=qx3b F x (fb δ) fc:=rfl
@[simp] theorem hZ:qx3b F x (b0 (y,δ)) fc=qx3c F x y (fc δ):=rfl
@[simp] theorem tu:qx3c F x y (b0 (z,δ))=qcr δ (F [x,y,z]):=rfl
@[simp high] theorem call3:cM 3 [] F (aE fa (aE fb (aE fc cB))) δ=qx3 F (fa δ) fb fc:=by
 rw[MV,EG];cases fa δ with
 |none=>rfl
 |some p=>
  rw[qa_s,EG,rG];cases fb p.2 with
  |none=>rfl
  |some q=>
   rw[qa_s,EG,hZ];cases fc q.2 with
   |none=>rfl
   |some s=>exact CQ (as:=[.d p.1,.d q.1,.d s.1]) rfl rfl rfl rfl
noncomputable def qw3(j:Nat)(δ:Ev):Option (cY×List cY)->Option (cY×Ev)
 |some (r,[o])=>b0 (r,δ.set j (.ow o))
 |_=>b4
def qw2(F:aP)(j:Nat)(x y:cY)(δ:Ev):Option Sl->Option (cY×Ev)
 |some (.ow d)=>qw3 j δ (F [x,d,y])
 |_=>b4
def qwb(F:aP)(j:Nat)(x:cY)(r:Option (cY×Ev)):Option (cY×Ev):=r.bind λq=>qw2 F j x q.1 q.2 q.2[j]?
def qwa(F:aP)(j:Nat)(x:cY)(δ:Ev)(fb:VF)(s:Option cY):Option (cY×Ev):=s.bind λ_=>qwb F j x (fb δ)
def qw(F:aP)(j:Nat)(r:Option (cY×Ev))(fb:VF):Option (cY×Ev):=r.bind λp=>qwa F j p.1 p.2 fb (slot p.2 j)
@[simp] theorem wc:qw3 j δ (b0 (x,[o]))=b0 (x,δ.set j (.ow o)):=rfl
@[simp] theorem vp:qw2 F j x y δ (b0 (.ow d))=qw3 j δ (F [x,d,y]):=rfl
@[simp] theorem oh:qwb F j x (b0 (y,δ))=qw2 F j x y δ δ[j]? :=rfl
@[simp] theorem lx:qwa F j x δ fb (b0 d)=qwb F j x (fb δ):=rfl
@[simp] theorem qw_s:qw F j (b0 (x,δ)) fb=qwa F j x δ fb (slot δ j):=rfl
@[simp high] theorem callO:cM 3 [1] F (aE fa (aO j (aE fb cB))) δ=qw F j (fa δ) fb:=by
 rw[MV,EG];cases fa δ with
 |none=>rfl
 |some p=>
  obtain⟨x,a⟩:=p;rw[qa_s,aO_e,qw_s];cases h:slot a j with
  |none=>rfl
  |some f=>
   rw[mT,EG,lx];cases fb a with
   |none=>rfl
   |some q=>
    obtain⟨y,c⟩:=q;rw[oh,qa_s,o8,Ye,Ye,Ye,oK];cases b:c[j]? with
    |none=>simp[b,qsl,qCb,qw2]
    |some s=>
     cases s with
     |no=>simp[b,qsl,qCb,qw2]
     |va d=>simp[b,qw2]
     |ow d=>
      simp[b];cases F [x,d,y]with
      |none=>rfl
      |some r=>
       obtain⟨v,os⟩:=r;cases os with
       |nil=>simp[qw3]
       |cons o os=>
        cases os with
        |nil=>simp
        |cons e os=>simp[qw3]
end
def NO:cY:=.int 999
def rX:cY:=.tup [.str "plus",.str "minus",.str "times",.str "least",.str "most",.str "less",.str "over"]
def NN:cY:=.int 64
def NM:cY:=.int 40
def OZ:cY:=.int 63
def GX:cY:=.tup [.str "row",.str "row"]
def Q4:cY:=.dct [.inr "number",.inr "pick",.inr "load",.inr "take",.inr "store",.inr "put"] [.tup [.str "word"],.tup [.str "row",.str "row",.str "row"],.tup [.str "place"],.tup [.str "place",.str "row",.str "row"],.tup [.str "place",.str "row"],.tup [.str "place",.str "row",.str "row"]]
def N9:cY:=.tup [.str "load",.str "take"]
def XA:cY:=.tup [.str "store",.str "put"]
def Q3:cY:=.int 2
def OY:cY:=.int 4
def QM:VS:=
   (cE (YL (IV (fB (f2 QZ (fV 0) (fC (.ty "bool")))) (U0 (fB (f2 QZ (fV 0) (fC (.ty "int"))))))
   (bQ (fC (.bl bb)))
   aY)
   (bQ (f3 oLe oLe (fV 1) (fV 0) (fV 2))))
def bA:aP:=ZQ 3 [] QM
def LN:VS:=
   (cE (YL (fB (f2 (bI bb) (fV 0) (fC rX)))
   (bQ (fC GX))
   aY)
   (bQ (f2 gA (fC Q4) (fV 0))))
def ZO:aP:=ZQ 1 [] LN
def T7:VS:=
   (bQ (f2 (bI ba) (f2 cJ (fV 0) (fC (.int 0))) (fC XA)))
def WB:aP:=ZQ 1 [] T7
def T9:VS:=
   (bQ (EC (IV (fB (f2 (bI bb) (f2 cJ (fV 0) (fC (.int 0))) (fC N9))) (fB (f2 (bI bb) (f2 cJ (fV 0) (fC (.int 0))) (fC XA)))) (f2 cJ (fV 0) (fC (.int 1))) (fC .non)))
def YC:aP:=ZQ 1 [] T9
def LM:VS:=
   (cE (J6 1 2 (fV 0))
   (bQ (bM [] 2 (iZip (cM 1 [] ZO (aE (fV 1) cB)) (fV 2)) (KR 2 (bL (gN 0) (bL (gN 1) XY))) (fB (f2 ZF (fV 0) (fC (.str "row")))) (fV 1))))
def YB:aP:=ZQ 3 [] LM
def QU:VS:=
   (bQ (RA (cM 3 [] bA (aE (fV 0) (aE (fC (.int 0)) (aE (f2 L8 (f1 Z9 (fV 1)) (fC (.int 1))) cB)))) (f2 cJ (fV 1) (fV 0))))
def TW:aP:=ZQ 2 [] QU
def LK:VS:=
   (cE (YL (fB (f2 ZF (fV 0) (fC (.str "word"))))
   (bQ (cM 3 [] bA (aE (fV 1) (aE (fC (.int 0)) (aE (fC NO) cB)))))
   aY)
   (cE (YL (fB (f2 ZF (fV 0) (fC (.str "place"))))
   (bQ (cM 3 [] bA (aE (fV 1) (aE (fC (.int 0)) (aE (fC OZ) cB)))))
   aY)
   (bQ (cM 2 [] TW (aE (fV 1) (aE (fV 2) cB))))))
def RZ:aP:=ZQ 3 [] LK
def LL:VS:=
   (cE (YL (IV (U0 (fB (f2 QZ (fV 0) (fC (.ty "tuple"))))) (fB (f2 ZF (f1 Z9 (fV 0)) (fC (.int 0)))))
   (bQ (fC (.bl bb)))
   aY)
   (cE (J6 2 3 (fV 0))
   (cE (aU 4 (xV (EC (fB (f2 QZ (fV 2) (fC (.ty "str")))) (cM 1 [] ZO (aE (fV 2) cB)) (fC .non))))
   (cE (YL (IV (fB (f2 DF (fV 4) (fC .non))) (fB (f2 XE (f1 Z9 (fV 4)) (f1 Z9 (fV 3)))))
   (bQ (fC (.bl bb)))
   aY)
   (bQ (f1 E8 (bM [1] 2 (iZip (fV 4) (fV 3)) (KR 2 (bL (gN 1) (bL (gN 2) XY))) Y3 (cM 3 [] RZ (aE (fV 1) (aE (fV 2) (aE (fV 0) cB)))))))))))
def OV:aP:=ZQ 5 [] LL
def XT:VS:=
   (cE (YL (U0 (fB (cM 2 [] OV (aE (fV 4) (aO 3 cB)))))
   (bQ (fC (.bl bb)))
   aY)
   (VY 3 UP (cT (cM 1 [] WB (aE (fV 4) cB)) cL)))
def QK:VS:=
   (cE (YL (IV (U0 (fB (f2 QZ (fV 0) (fC (.ty "tuple"))))) (fB (f2 XE (f1 Z9 (fV 0)) (fC (.int 2)))))
   (bQ (fC (.bl bb)))
   aY)
   (cE (sAsg (fV 0) (KR 2 (bL (gN 1) (bL (gN 2) XY))))
   (cE (YL (U0 (fB (cM 3 [] bA (aE (fV 1) (aE (fC (.int 0)) (aE (fC NN) cB))))))
   (bQ (fC (.bl bb)))
   aY)
   (cE (YL (IV (U0 (fB (f2 QZ (fV 2) (fC (.ty "tuple"))))) (fB (f2 oGt (f1 Z9 (fV 2)) (fC NM))))
   (bQ (fC (.bl bb)))
   aY)
   (cE (aU 3 (xO (bJ cL)))
   (cE (U5 (ZT (fV 2)) (gN 4)
   XT)
   (bQ (fC (.bl ba)))))))))
def aW:aP:=ZQ 5 [] QK
def QL:VS:=
   (bQ (cM 3 [] bA (aE (fV 0) (aE (fC Q3) (aE (fC OY) cB)))))
def TR:aP:=ZQ 1 [] QL
def T8:VS:=
   (cE (aU 3 (xV (f2 cJ (f2 cJ (fV 0) (fV 1)) (fC (.int 0)))))
   (cE (YL (IV (fB (f2 oGe (fV 1) (fV 2))) (IV (fB (f2 ZF (fV 3) (fC (.str "number")))) (fB (f2 XE (f2 cJ (f2 cJ (fV 0) (fV 2)) (fC (.int 0))) (fV 3)))))
   (bQ (fC (.bl bb)))
   aY)
   (cE (aU 4 (xV (cM 1 [] YC (aE (f2 cJ (fV 0) (fV 1)) cB))))
   (bQ (fOr (f2 DF (fV 4) (fC .non)) (f2 ZF (cM 1 [] YC (aE (f2 cJ (fV 0) (fV 2)) cB)) (f2 aV (fV 4) (fC (.int 1)))))))))
def XR:aP:=ZQ 5 [] T8
def V8:VS:=
   (cE (aU 3 (xV (f2 cJ (fV 0) (fC (.int 1)))))
   (cE (YL (IV (U0 (fB (f2 QZ (fV 2) (fC (.ty "tuple"))))) (fB (f2 XE (f1 Z9 (fV 2)) (fV 1))))
   (bQ (fC (.bl bb)))
   aY)
   (cE (YL (U0 (fB (f1 E8 (bM [3] 1 (ZT (fV 2)) (gN 1) Y3 (cM 3 [] bA (aE (fV 1) (aE (fC (.int 0)) (aE (f2 L8 (f1 Z9 (fV 0)) (fC (.int 1))) cB))))))))
   (bQ (fC (.bl bb)))
   aY)
   (cE (YL (U0 (fB (f1 E8 (bM [3] 2 (iZip (fV 2) (K1 (fV 2) (K3 (fC (.int 1))) JZ)) (KR 2 (bL (gN 1) (bL (gN 2) XY))) Y3 (cM 3 [] XR (aE (fV 0) (aE (fV 1) (aE (fV 2) cB))))))))
   (bQ (fC (.bl bb)))
   aY)
   (bQ (fNot (f1 oAny (T4 [2,3] 2 (ZT (fV 2)) (gN 2) Y3 (ZT (cM 1 [] YB (aE (f2 cJ (fV 1) (fV 2)) cB))) (gN 3) Y3 (f2 (bI bb) (fV 3) (fV 0))))))))))
def aJ:aP:=ZQ 4 [] V8
def U4:VS:=
   (bQ (T4 [] 2 (ZT (fV 0)) (gN 0) Y3 (ZT (fV 0)) (gN 1) Y3 (fV 1)))
def W5:aP:=ZQ 1 [] U4
def W3:VS:=
   (cE (YL (IV (U0 (fB (f2 QZ (fV 2) (fC (.ty "tuple"))))) (U0 (fB (f1 E8 (bM [0,1] 1 (ZT (fV 2)) (gN 2) Y3 (cM 3 [] aJ (aE (fV 0) (aE (fV 1) (aE (fV 2) cB)))))))))
   (bQ (fC (.bl bb)))
   aY)
   (cE (aU 3 (xV (cM 1 [] W5 (aE (fV 2) cB))))
   (bQ (RA (f2 ZF (f1 VE (fV 3)) (f1 Z9 (fV 3))) (f2 ZF (f1 VH (fV 2)) (f1 VW (fV 2)))))))
def aB:aP:=ZQ 4 [] W3
def U2:VS:=
   (cE (YL (U0 (fB (cM 1 [] aW (aE (fV 0) cB))))
   (λ_=>b4)
   aY)
   (YL (U0 (fB (cM 1 [] TR (aE (fV 1) cB))))
   (λ_=>b4)
   aY))
def W4:aP:=ZQ 2 [] U2
def OE:VS:=
   (cE (BR (cM 2 [] W4 (aE (fV 0) (aE (fV 1) cB))))
   (bQ (cM 3 [] aB (aE (fV 0) (aE (fV 1) (aE (fV 2) cB))))))
def aQ:aP:=ZQ 3 [] OE
def TH:VS:=
   (aU 2 (xV (f2 AY (fV 2) (fC (.int 1000003)))))
def U3:VS:=
   (cE (YL (fB (f2 oLt (fV 1) (f1 Z9 (fV 0))))
   (bQ (f2 cJ (fV 0) (fV 1)))
   aY)
   (cE (YL (fB (f2 ZF (fV 0) (bJ cL)))
   (bQ (fC (.int 0)))
   aY)
   (cE (aU 2 (xV (f2 cJ (fV 0) (f2 HJ (fV 1) (f1 Z9 (fV 0))))))
   (cE (U5 (OS (f2 oMin (f2 AY (fV 1) (f1 Z9 (fV 0))) (fC (.int 60)))) (gN 3)
   TH)
   (bQ (f2 aV (f2 aV (f2 L9 (f2 cJ (fV 0) (f2 HJ (fV 1) (f1 Z9 (fV 0)))) (fC (.int 31))) (fV 1)) (f2 L9 (fV 2) (fC (.int 101)))))))))
def ZB:aP:=ZQ 4 [] U3
def R6:VS:=
   (cE (aU 3 (xV (f2 HJ (f2 aV (f2 aV (f2 L9 (cM 2 [] ZB (aE (fV 0) (aE (fV 1) cB))) (fC (.int 1103515245))) (f2 L9 (fC (.int 7919)) (fV 1))) (fC (.int 12345))) (fC (.int 2147483647)))))
   (bQ (f2 HJ (f2 HJ (f2 HJ (f2 oPow (fV 3) (fC (.int 5))) (fC (.int 2147483647))) (fC (.int 999983))) (fV 2))))
def U6:aP:=ZQ 4 [] R6
def QN:VS:=
   (cE (VY 1 UP (cT (fC (.int 0)) cL))
   (bQ (cM 3 [] U6 (aE (fV 0) (aE (f1 Z9 (fO 1)) (aE (fV 2) cB))))))
def cI:aP:=ZQ 3 [1] QN
def QQ:VS:=
   (bQ (f2 cJ (fV 2) (cM 3 [1] cI (aE (fV 0) (aO 1 (aE (f1 Z9 (fV 2)) cB))))))
def aX:aP:=ZQ 3 [1] QQ
def UL:VS:=
   (bQ (RA (f2 QZ (fV 0) (fC (.ty "bool"))) (f2 ZF (fV 0) (fV 1))))
def YU:aP:=ZQ 2 [] UL
def SA:VS:=
   (cE (J4 2 (fV 3) (f2 HJ (f2 aV (G5 2 (fV 3) (cM 3 [1] cI (aE (fV 0) (aO 1 (aE (fV 4) cB))))) (cM 3 [1] aX (aE (fV 0) (aO 1 (aE (bJ (cT (fC (.int 1)) (cT (fC (.int 1)) (cT (fC (.int 1)) (cT (fC (.int 0)) (cT (fC (.int 3)) cL)))))) cB))))) (fV 4)))
   (bQ (f2 cJ (fO 2) (fV 3))))
def ZS:aP:=ZQ 5 [1,2] SA
def OG:VS:=
   (cE (aU 5 (xV (cM 3 [1] cI (aE (fV 0) (aO 1 (aE (fC (.int 13)) cB))))))
   (cE (YL (IV (fB (f2 ZF (fV 2) (bJ cL))) (fB (f2 ZF (fV 5) (fC (.int 0)))))
   (cE (YL (fB (f2 ZF (cM 3 [1] cI (aE (fV 0) (aO 1 (aE (fC (.int 2)) cB)))) (fC (.int 0))))
   (bQ (bK (cT (fC (.str "number")) (cT (cM 3 [1] aX (aE (fV 0) (aO 1 (aE (bJ (cT (fC (.int 0)) (cT (fC (.int 1)) (cT (fC (.int 2)) (cT (fC (.int 5)) (cT (fC (.int 999)) (cT (cM 3 [1] cI (aE (fV 0) (aO 1 (aE (fC (.int 1000)) cB)))) cL))))))) cB)))) cL))))
   aY)
   (bQ (bK (cT (fC (.str "load")) (cT (cM 5 [1,2] ZS (aE (fV 0) (aO 1 (aO 3 (aE (fC (.str "load")) (aE (fV 4) cB)))))) cL)))))
   aY)
   (cE (sAsg (bM [0,1,2] 1 (OS (fC (.int 3))) (gN 3) Y3 (f2 cJ (fV 2) (f2 oMax (fC (.int 0)) (f2 L8 (f2 L8 (f1 Z9 (fV 2)) (fC (.int 1))) (cM 3 [1] cI (aE (fV 0) (aO 1 (aE (fC (.int 6)) cB)))))))) (KR 3 (bL (gN 6) (bL (gN 7) (bL (gN 8) XY)))))
   (cE (YL (fB (f2 (bI bb) (fV 5) (bK (cT (fC (.int 1)) (cT (fC (.int 2)) cL)))))
   (bQ (bK (cT (fC (.str "load")) (cT (cM 5 [1,2] ZS (aE (fV 0) (aO 1 (aO 3 (aE (fC (.str "load")) (aE (fV 4) cB)))))) cL))))
   aY)
   (cE (YL (fB (f2 ZF (fV 5) (fC (.int 3))))
   (bQ (bK (cT (fC (.str "take")) (cT (cM 5 [1,2] ZS (aE (fV 0) (aO 1 (aO 3 (aE (fC (.str "take")) (aE (fV 4) cB)))))) (cT (fV 8) (cT (fV 6) cL))))))
   aY)
   (cE (YL (fB (f2 (bI bb) (fV 5) (bK (cT (fC (.int 4)) (cT (fC (.int 5)) cL)))))
   (bQ (bK (cT (fC (.str "store")) (cT (cM 5 [1,2] ZS (aE (fV 0) (aO 1 (aO 3 (aE (fC (.str "store")) (aE (fV 4) cB)))))) (cT (fV 6) cL)))))
   aY)
   (cE (YL (fB (f2 ZF (fV 5) (fC (.int 6))))
   (bQ (bK (cT (fC (.str "put")) (cT (cM 5 [1,2] ZS (aE (fV 0) (aO 1 (aO 3 (aE (fC (.str "put")) (aE (fV 4) cB)))))) (cT (fV 6) (cT (fV 8) cL))))))
   aY)
   (cE (YL (fB (f2 ZF (fV 5) (fC (.int 7))))
   (bQ (bK (cT (fC (.str "pick")) (cT (fV 8) (cT (fV 6) (cT (fV 7) cL))))))
   aY)
   (bQ (bK (cT (f2 cJ (bJ (cT (fC (.str "over")) (cT (fC (.str "plus")) (cT (fC (.str "minus")) (cT (fC (.str "times")) (cT (fC (.str "least")) (cT (fC (.str "most")) (cT (fC (.str "less")) cL)))))))) (cM 3 [1] cI (aE (fV 0) (aO 1 (aE (fC (.int 7)) cB))))) (cT (fV 6) (cT (fV 7) cL)))))))))))))
def RD:aP:=ZQ 9 [1,3] OG
def YV:VS:=
   (cE (aU 10 (xV (f2 aV (f2 DE (fV 3) (fV 9)) (cM 3 [1] aX (aE (fV 0) (aO 1 (aE (bJ (cT (fC (.int 1)) (cT (fC (.int 1)) (cT (fC (.int 1)) (cT (fC (.int 1)) (cT (f1 L7 (fC (.int 1))) (cT (fC (.int 0)) (cT (fC (.int 2)) cL)))))))) cB)))))))
   (VY 8 UP (cT (EC (XO (fB (f3 oLe oLt (fC (.int 0)) (fV 10) (f1 Z9 (fV 3)))) (fB (f2 XE (f2 cJ (fV 3) (fV 10)) (f2 L8 (f1 Z9 (fV 2)) (fC (.int 1)))))) (f2 cJ (fV 3) (fV 10)) (fV 9)) cL)))
def T6:VS:=
   (cE (aU 6 (xV (f2 cJ (fV 2) (f1 L7 (fC (.int 1))))))
   (cE (aU 7 (xV (EC (fB (f2 (bI bb) (f2 cJ (fV 6) (fC (.int 0))) (bK (cT (fC (.str "load")) (cT (fC (.str "take")) (cT (fC (.str "store")) (cT (fC (.str "put")) cL))))))) (fC (.int 2)) (fC (.int 1)))))
   (cE (aU 8 (xO (bJ cL)))
   (cE (U5 (ZT (K1 (fV 6) (K3 (fV 7)) JZ)) (gN 9)
   YV)
   (cE (YL (fB (f2 ZF (fV 7) (fC (.int 1))))
   (bQ (f2 aV (K1 (fV 6) JZ (K3 (fC (.int 1)))) (f1 ZP (fO 8))))
   aY)
   (cE (J4 4 (f2 cJ (fV 6) (fC (.int 0))) (f2 HJ (f2 aV (f2 cJ (fV 6) (fC (.int 1))) (fC (.int 1))) (fV 5)))
   (bQ (f2 aV (bK (cT (f2 cJ (fV 6) (fC (.int 0))) (cT (f2 cJ (fO 4) (f2 cJ (fV 6) (fC (.int 0)))) cL))) (f1 ZP (fO 8))))))))))
def YA:aP:=ZQ 11 [1,4] T6
def YW:VS:=
   (YL (XO (fB (f2 oLt (f1 Z9 (fO 4)) (fV 2))) (fB (f2 XE (f2 cJ (f2 cJ (fO 4) (f1 L7 (fC (.int 1)))) (fC (.int 0))) (fC (.str "number")))))
   (cE (VY 4 UP (cT (cM 6 [1,4] YA (aE (fV 0) (aO 1 (aO 4 (aO 5 (aO 6 (aE (fV 3) cB))))))) cL))
   (YL (fB (f2 (bI ba) (f2 cJ (f2 cJ (fO 4) (f1 L7 (fC (.int 1)))) (fC (.int 0))) (bK (cT (fC (.str "store")) (cT (fC (.str "put")) cL)))))
   (VY 5 UP (cT (f2 L8 (f1 Z9 (fO 4)) (fC (.int 1))) cL))
   aY))
   aY)
def WH:VS:=
   (cE (VY 4 UP (cT (cM 5 [1,3] RD (aE (fV 0) (aO 1 (aO 5 (aO 6 (aE (fV 3) cB)))))) cL))
   (cE (YL (fB (f2 (bI ba) (f2 cJ (f2 cJ (fO 4) (f1 L7 (fC (.int 1)))) (fC (.int 0))) (bK (cT (fC (.str "store")) (cT (fC (.str "put")) cL)))))
   (VY 5 UP (cT (f2 L8 (f1 Z9 (fO 4)) (fC (.int 1))) cL))
   aY)
   (U5 (OS (cM 3 [1] aX (aE (fV 0) (aO 1 (aE (bJ (cT (fC (.int 0)) (cT (fC (.int 1)) (cT (fC (.int 1)) (cT (fC (.int 2)) (cT (fC (.int 3)) cL)))))) cB))))) (gN 7)
   YW)))
def QT:VS:=
   (cE (P2 4 5 6 (xO (bJ cL)) (xO (bJ cL)) (xO (fC (.dct [] []))))
   (cE (SU (fB (f2 oLt (f1 Z9 (fO 4)) (fV 2)))
   WH)
   (bQ (f1 ZP (fO 4)))))
def TU:aP:=ZQ 8 [1] QT
def NQ:VS:=
   (cE (YL (fB (f2 ZF (f2 cJ (fV 0) (fC (.int 0))) (fC (.str "number"))))
   (bQ (bJ cL))
   aY)
   (bQ (EC (fB (f2 (bI bb) (f2 cJ (fV 0) (fC (.int 0))) (bK (cT (fC (.str "load")) (cT (fC (.str "take")) (cT (fC (.str "store")) (cT (fC (.str "put")) cL))))))) (f1 VH (K1 (fV 0) (K3 (fC (.int 2))) JZ)) (f1 VH (K1 (fV 0) (K3 (fC (.int 1))) JZ)))))
def aN:aP:=ZQ 1 [] NQ
def OF:VS:=
   (cE (aU 2 (xV (f2 cJ (f2 cJ (fV 0) (fC (.int 1))) (fV 1))))
   (cE (YL (fB (f2 (bI bb) (f2 cJ (fV 2) (fC (.int 0))) (bK (cT (fC (.str "load")) (cT (fC (.str "take")) (cT (fC (.str "store")) (cT (fC (.str "put")) cL)))))))
   (bQ (f2 oGe (f2 cJ (fV 2) (fC (.int 1))) (f2 cJ (fV 0) (fC (.int 0)))))
   aY)
   (bQ (RA (f2 ZF (f2 cJ (fV 2) (fC (.int 0))) (fC (.str "over"))) (f2 (bI ba) (K1 (f2 cJ (f2 cJ (fV 0) (fC (.int 1))) (f2 cJ (fV 2) (fC (.int 2)))) JZ (K3 (fC (.int 2)))) (bM [] 1 (iR2 (fC (.int 1)) (fC (.int 1000))) (gN 0) Y3 (bK (cT (fC (.str "number")) (cT (fV 0) cL)))))))))
def W8:aP:=ZQ 3 [] OF
def WE:VS:=
   (cE (aU 7 (xV (bM [] 1 (ZT (bK (cT (fV 6) (cT (fV 4) cL)))) (gN 0) (fB (f2 (bI bb) (f2 cJ (fV 0) (fC (.int 0))) (bK (cT (fC (.str "store")) (cT (fC (.str "put")) cL))))) (fV 0))))
   (cE (aU 8 (xO (bJ (cT (f2 (bI bb) (fV 5) (cM 1 [] aN (aE (fV 4) cB))) (cT (RA (cM 2 [] W8 (aE (fV 0) (aE (fV 5) cB))) (cM 2 [] W8 (aE (fV 0) (aE (fV 3) cB)))) cL)))))
   (cE (VY 8 UP (cT (RA (f2 (bI bb) (f2 cJ (fV 6) (fC (.int 0))) (fV 2)) (RA (f2 (bI bb) (f2 cJ (fV 4) (fC (.int 0))) (fV 2)) (RA (f2 ZF (f2 cJ (fV 6) (fC (.int 1))) (f2 cJ (fV 4) (fC (.int 1)))) (f2 XE (fV 7) (bJ cL))))) cL))
   (cE (VY 8 UP (cT (RA (cM 2 [] W8 (aE (fV 0) (aE (fV 5) cB))) (f2 (bI bb) (f2 cJ (fV 4) (fC (.int 0))) (bK (cT (fC (.str "store")) (cT (fC (.str "put")) cL))))) cL))
   (cE (VY 8 UP (cT (RA (cM 2 [] W8 (aE (fV 0) (aE (fV 3) cB))) (f2 (bI bb) (f2 cJ (fV 6) (fC (.int 0))) (bK (cT (fC (.str "store")) (cT (fC (.str "put")) cL))))) cL))
   (YL (fB (f2 (bI bb) (fC (.bl ba)) (fO 8)))
   (VY 1 UP (cT (bK (cT (fV 5) (cT (fV 3) cL))) cL))
   aY))))))
def WF:VS:=
   (U5 (LQ (K1 (f2 cJ (fV 0) (fC (.int 1))) JZ (K3 (fV 3)))) (KR 2 (bL (gN 5) (bL (gN 6) XY)))
   WE)
def QP:VS:=
   (cE (UT 1 2 (xO (bJ cL)) (xV (bK (cT (fC (.str "load")) (cT (fC (.str "take")) (cT (fC (.str "store")) (cT (fC (.str "put")) cL)))))))
   (cE (U5 (LQ (f2 cJ (fV 0) (fC (.int 1)))) (KR 2 (bL (gN 3) (bL (gN 4) XY)))
   WF)
   (bQ (f1 VW (fO 1)))))
def W9:aP:=ZQ 9 [] QP
def ZK:VS:=
   (cE (aU 6 (xV (bM [3,4] 1 (ZT (fO 4)) (gN 2) (fB (f2 ZF (bM [1,2] 2 (ZT (fV 0)) (KR 2 (bL (gN 2) (bL (gN 3) XY))) (XO (fB (f2 ZF (fV 3) (fV 1))) (fB (f2 (bI bb) (fV 2) (fO 0)))) (fC (.int 1))) (bJ cL))) (fV 2))))
   (cE (VY 5 UP (cT (cM 3 [1] aX (aE (fV 0) (aO 1 (aE (fV 6) cB)))) cL))
   (VY 4 mRem (cT (f2 cJ (fO 5) (f1 L7 (fC (.int 1)))) cL))))
def XX:VS:=
   (cE (P2 3 4 5 (xV (cM 1 [] W9 (aE (fV 2) cB))) (xO (RL (f1 Z9 (f2 cJ (fV 2) (fC (.int 1)))))) (xO (bJ cL)))
   (cE (SU (fB (f2 XE (fO 4) (bJ cL)))
   ZK)
   (bQ (fO 5))))
def Y4:aP:=ZQ 7 [1] XX
def aG:VS:=
   (cE (YL (fB (f2 ZF (f2 cJ (fV 0) (fC (.int 0))) (fC (.str "number"))))
   (bQ (fV 0))
   aY)
   (cE (aU 2 (xV (EC (fB (f2 (bI bb) (f2 cJ (fV 0) (fC (.int 0))) (bK (cT (fC (.str "load")) (cT (fC (.str "take")) (cT (fC (.str "store")) (cT (fC (.str "put")) cL))))))) (fC (.int 2)) (fC (.int 1)))))
   (bQ (f2 aV (K1 (fV 0) JZ (K3 (fV 2))) (f1 ZP (bM [1] 1 (ZT (K1 (fV 0) (K3 (fV 2)) JZ)) (gN 1) Y3 (f2 cJ (fV 0) (fV 1))))))))
def bR:aP:=ZQ 3 [] aG
def VA:VS:=
   (cE (aU 3 (xV (cM 3 [1] aX (aE (fV 0) (aO 1 (aE (bJ (cT (fC (.int 3)) (cT (fC (.int 6)) (cT (fC (.int 9)) (cT (fC (.int 64)) cL))))) cB))))))
   (cE (aU 4 (xV (cM 3 [1] aX (aE (fV 0) (aO 1 (aE (bJ (cT (fC (.int 0)) (cT (fV 3) (cT (fV 3) (cT (cM 3 [1] cI (aE (fV 0) (aO 1 (aE (f2 aV (fV 3) (fC (.int 1))) cB)))) cL))))) cB))))))
   (cE (aU 5 (xV (bK (cT (fV 4) (cT (cM 4 [1] TU (aE (fV 0) (aO 1 (aE (cM 3 [1] cI (aE (fV 0) (aO 1 (aE (f2 aV (fV 2) (fC (.int 1))) cB)))) (aE (fV 3) cB))))) cL)))))
   (cE (YL (fB (f2 oGt (cM 3 [1] cI (aE (fV 0) (aO 1 (aE (fC (.int 3)) cB)))) (fC (.int 0))))
   (bQ (fV 5))
   aY)
   (cE (aU 6 (xV (cM 3 [1] Y4 (aE (fV 0) (aO 1 (aE (fV 5) cB))))))
   (cE (aU 7 (xV (f1 AX (bM [] 2 (LQ (fV 6)) (KR 2 (bL (gN 0) (bL (gN 1) XY))) Y3 (bK (cT (fV 1) (cT (fV 0) cL)))))))
   (bQ (bK (cT (fV 4) (cT (f1 ZP (bM [5,7] 1 (ZT (fV 6)) (gN 2) Y3 (cM 2 [] bR (aE (f2 cJ (f2 cJ (fV 0) (fC (.int 1))) (fV 2)) (aE (fV 1) cB))))) cL))))))))))
def Y0:aP:=ZQ 8 [1] VA
def W6:VS:=
   (cE (aU 3 (xV (bM [0] 1 (ZT (fV 2)) (gN 1) Y3 (f2 cJ (f2 cJ (fV 0) (fC (.int 1))) (fV 1)))))
   (cE (YL (IV (fB (f2 XE (f1 Z9 (fV 2)) (fV 1))) (IV (fB (f2 XE (f1 VE (bM [] 1 (ZT (fV 3)) (gN 0) Y3 (f2 cJ (fV 0) (fC (.int 0))))) (fC (.int 1)))) (fB (f2 ZF (f2 cJ (f2 cJ (fV 3) (fC (.int 0))) (fC (.int 0))) (fC (.str "number"))))))
   (bQ (fC (.bl bb)))
   aY)
   (cE (YL (fB (f2 (bI bb) (f2 cJ (f2 cJ (fV 3) (fC (.int 0))) (fC (.int 0))) (bK (cT (fC (.str "load")) (cT (fC (.str "take")) (cT (fC (.str "store")) (cT (fC (.str "put")) cL)))))))
   (YL (fB (f2 XE (bM [] 1 (ZT (fV 3)) (gN 0) Y3 (f2 cJ (fV 0) (fC (.int 1)))) (bM [3] 1 (OS (fV 1)) (gN 1) Y3 (f2 aV (f2 cJ (f2 cJ (fV 0) (fC (.int 0))) (fC (.int 1))) (fV 1)))))
   (bQ (fC (.bl bb)))
   aY)
   aY)
   (bQ (f2 ZF (bM [2] 1 (ZT (fV 3)) (gN 1) (fB (f2 XE (bM [0] 1 (ZT (cM 1 [] aN (aE (fV 1) cB))) (gN 1) (fB (f2 (bI bb) (fV 1) (fV 0))) (fV 1)) (bJ cL))) (fV 1)) (bJ cL))))))
def ZN:aP:=ZQ 4 [] W6
def aT:VS:=
   (cE (aU 8 (xV (bM [3,7] 1 (ZT (fO 3)) (gN 2) (fB (f2 ZF (bM [0,2] 2 (ZT (fV 1)) (KR 2 (bL (gN 2) (bL (gN 3) XY))) (XO (fB (f2 ZF (fV 2) (fV 1))) (fB (f2 (bI bb) (fV 3) (fO 0)))) (fC (.int 1))) (bJ cL))) (fV 2))))
   (cE (YL (fB (f2 ZF (fV 8) (bJ cL)))
   (bQ (fC .non))
   aY)
   (cE (VY 4 UP (cT (f2 cJ (fV 8) (fC (.int 0))) cL))
   (VY 3 Xr (cT (f2 cJ (fV 8) (fC (.int 0))) cL)))))
def YN:VS:=
   (cE (aU 6 (xV (bM [5] 1 (ZT (fV 1)) (gN 1) (fB (f2 (bI bb) (fV 0) (fV 1))) (fV 1))))
   (J4 2 (fV 5) (EC (fB (f2 XE (fV 6) (bJ cL))) (f2 cJ (fV 6) (fC (.int 0))) (bK (cT (fV 5) cL)))))
def R7:VS:=
   (cE (P2 2 3 4 (xO (fC (.dct [] []))) (xO (bJ cL)) (xO (bJ cL)))
   (cE (U5 (OS (f1 Z9 (f2 cJ (fV 0) (fC (.int 1))))) (gN 5)
   YN)
   (cE (aU 3 (xO (f1 RO (bM [2] 1 (OS (f1 Z9 (f2 cJ (fV 0) (fC (.int 1))))) (gN 1) Y3 (f2 cJ (fO 0) (fV 1))))))
   (cE (aU 7 (xV (f1 RN (bM [2] 2 (ZT (cM 1 [] W9 (aE (fV 0) cB))) (KR 2 (bL (gN 1) (bL (gN 2) XY))) (fB (f2 XE (f2 cJ (fO 0) (fV 1)) (f2 cJ (fO 0) (fV 2)))) (bK (cT (f2 cJ (fO 0) (fV 2)) (cT (f2 cJ (fO 0) (fV 1)) cL)))))))
   (cE (SU (fB (f2 XE (fO 3) (bJ cL)))
   aT)
   (bQ (fO 4)))))))
def X8:aP:=ZQ 9 [] R7
def bC:VS:=
   (cE (aU 9 (xV (bM [8] 1 (ZT (fO 4)) (gN 1) (fB (f2 (bI bb) (fV 0) (fV 1))) (fV 1))))
   (YL (XO (fB (f2 XE (fO 7) (bJ cL))) (XO (fB (f2 oGt (fV 8) (f2 cJ (fO 7) (f1 L7 (fC (.int 1)))))) (XO (fB (f2 oLt (f1 Z9 (fO 7)) (fV 3))) (fB (f2 ZF (fV 9) (bJ cL))))))
   (YL (XO (fB (cM 3 [] ZN (aE (fV 2) (aE (f2 aV (f1 Z9 (fO 7)) (fC (.int 1))) (aE (f2 aV (f1 ZP (fO 7)) (bK (cT (fV 8) cL))) cB))))) (fB (f2 oGt (cM 3 [1] cI (aE (fV 0) (aO 1 (aE (fC (.int 5)) cB)))) (fC (.int 0)))))
   (VY 7 UP (cT (fV 8) cL))
   aY)
   aY))
def WG:VS:=
   (cE (aU 7 (xO (EC (fB (f2 oGt (fV 5) (fC (.int 0)))) (bJ (cT (cM 3 [1] cI (aE (fV 0) (aO 1 (aE (fV 5) cB)))) cL)) (bJ cL))))
   (cE (U5 (OS (fV 5)) (gN 8)
   bC)
   (YL (XO (fB (f2 ZF (f1 Z9 (fO 7)) (fV 3))) (fB (f2 ZF (bM [7] 1 (ZT (fO 4)) (gN 1) (fB (f2 (bI bb) (f2 cJ (fO 0) (fC (.int 0))) (fV 1))) (fV 1)) (bJ cL))))
   (YL (fB (f2 JY (cM 2 [] X8 (aE (fV 2) (aE (f2 aV (fO 4) (bJ (cT (f1 ZP (fO 7)) cL))) cB))) (fC .non)))
   (VY 4 UP (cT (f1 ZP (fO 7)) cL))
   aY)
   aY)))
def QR:VS:=
   (cE (UT 4 5 (xO (bJ cL)) (xV (f1 Z9 (f2 cJ (fV 2) (fC (.int 1))))))
   (cE (U5 (OS (cM 3 [1] cI (aE (fV 0) (aO 1 (aE (fC (.int 11)) cB))))) (gN 6)
   WG)
   (bQ (f1 ZP (f1 VW (fO 4))))))
def VO:aP:=ZQ 10 [1] QR
def XU:VS:=
   (cE (VY 3 mExt (cT (f1 VH (fV 4)) cL))
   (YL (IV (fB (f2 XE (f1 VH (fV 4)) (f1 WA (fV 4)))) (U0 (fB (cM 3 [] ZN (aE (fV 0) (aE (fV 1) (aE (fV 4) cB)))))))
   (bQ (fC (.bl bb)))
   aY))
def QO:VS:=
   (cE (aU 3 (xO (bJ cL)))
   (cE (U5 (ZT (fV 2)) (gN 4)
   XU)
   (bQ (RA (f2 ZF (f1 VH (fV 2)) (f1 VW (fV 2))) (f2 ZF (f1 VE (fO 3)) (f1 Z9 (fO 3)))))))
def X9:aP:=ZQ 5 [] QO
def RG:VS:=
   (YL (fB (f2 Q8 (cM 3 [] aQ (aE (fV 2) (aE (fC (.int 2)) (aE (bK (cT (bK (cT (fV 13) (cT (fV 13) cL))) cL)) cB)))) (fC (.bl bb))))
   (bQ (fC (.bl bb)))
   aY)
def RJ:VS:=
   (YL (fB (f2 oGt (fV 4) (fC (.int 0))))
   (cE (aU 7 (xV (f2 cJ (f2 cJ (f2 cJ (fV 2) (fC (.int 1))) (cM 3 [1] cI (aE (fV 0) (aO 1 (aE (fV 4) cB))))) (fC (.int 0)))))
   (cE (aU 8 (xV (bM [2,7] 1 (OS (fV 4)) (gN 2) (fB (f2 ZF (f2 cJ (f2 cJ (f2 cJ (fV 0) (fC (.int 1))) (fV 2)) (fC (.int 0))) (fV 1))) (fV 2))))
   (cE (aU 9 (xV (bJ (cT (f1 ZP (K1 (f1 WA (bM [0,1,8] 1 (OS (f2 aV (fV 3) (fC (.int 1)))) (gN 3) Y3 (cM 3 [1] aX (aE (fV 0) (aO 1 (aE (fV 2) cB)))))) JZ (K3 (fV 3)))) cL))))
   (cE (aU 10 (xO (f2 FA (f1 VH (fV 5)) (EC (fB (f2 ZF (cM 3 [1] cI (aE (fV 0) (aO 1 (aE (fC (.int 2)) cB)))) (fC (.int 0)))) (fV 9) (bJ cL)))))
   (cE (YL (XO (fB (f2 XE (fO 10) (bJ cL))) (fB (f2 ZF (cM 3 [1] cI (aE (fV 0) (aO 1 (aE (fC (.int 2)) cB)))) (fC (.int 0)))))
   (cE (UT 11 12 (xV (cM 3 [1] cI (aE (fV 0) (aO 1 (aE (f1 Z9 (fO 10)) cB))))) (xV (cM 3 [1] cI (aE (fV 0) (aO 1 (aE (fV 3) cB))))))
   (FU 10 (fV 11) (f2 aV (f2 aV (K1 (f2 cJ (fO 10) (fV 11)) JZ (K3 (fV 12))) (bK (cT (cM 3 [1] cI (aE (fV 0) (aO 1 (aE (fV 4) cB)))) cL))) (K1 (f2 cJ (fO 10) (fV 11)) (K3 (f2 aV (fV 12) (fC (.int 1)))) JZ))))
   aY)
   (cE (YL (fB (f2 oGt (cM 3 [1] cI (aE (fV 0) (aO 1 (aE (fC (.int 4)) cB)))) (fC (.int 0))))
   (aU 10 (xO (f1 VW (fO 10))))
   aY)
   (YL (U0 (fB (cM 2 [] YU (aE (cM 3 [] aQ (aE (fV 2) (aE (fV 3) (aE (f1 ZP (fO 10)) cB)))) (aE (cM 3 [] X9 (aE (fV 2) (aE (fV 3) (aE (f1 ZP (fO 10)) cB)))) cB)))))
   (bQ (fC (.bl bb)))
   aY)))))))
   aY)
def Yi:VS:=
   (cE (aU 1 (xO (bJ cL)))
   (cE (UT 2 3 (xV (cM 3 [1] Y0 (aE (fV 0) (aO 1 (aE (fC (.int 10)) cB))))) (xV (f2 aV (fC (.int 2)) (cM 3 [1] cI (aE (fV 0) (aO 1 (aE (fC (.int 3)) cB)))))))
   (cE (UT 4 5 (xV (f1 Z9 (f2 cJ (fV 2) (fC (.int 1))))) (xV (bK cL)))
   (cE (aU 5 (xV (cM 4 [1] VO (aE (fV 0) (aO 1 (aE (fV 2) (aE (fV 3) cB)))))))
   (cE (YL (IV (fB (f2 Q8 (cM 3 [] aQ (aE (fV 2) (aE (fV 3) (aE (fV 5) cB)))) (fC (.bl ba)))) (U0 (fB (cM 3 [] X9 (aE (fV 2) (aE (fV 3) (aE (fV 5) cB)))))))
   (bQ (fC (.bl bb)))
   aY)
   (cE (U5 (OS (fC (.int 4))) (gN 6)
   RJ)
   (cE (U5 (OS (fV 4)) (gN 13)
   RG)
   (cE (YL (XO (fB (f2 XE (fV 5) (bK cL))) (fB (f2 Q8 (cM 3 [] aQ (aE (fV 2) (aE (fV 3) (aE (f2 aV (fV 5) (K1 (fV 5) (K3 (f1 L7 (fC (.int 1)))) JZ)) cB)))) (fC (.bl bb)))))
   (bQ (fC (.bl bb)))
   aY)
   (cE (aU 14 (xV (bJ (cT (fC .non) (cT (fC (.int 5)) (cT (f2 aV (f1 VH (fV 5)) (bJ (cT (fC (.int 0)) cL))) (cT (bJ (cT (bK cL) cL)) (cT (fC (.str "")) (cT (bK (cT (bK cL) cL)) (cT (bK (cT (bK (cT (fC (.int 0)) cL)) cL)) (cT (bK (cT (bK (cT (fC (.str "0")) (cT (fC (.str "1")) cL))) cL)) (cT (bK (cT (bK (cT (fC (.int 0)) (cT (fC .non) cL))) cL)) (cT (bK (cT (bK (cT (fC (.int 0)) (cT (fV 4) cL))) cL)) (cT (bK (cT (fC (.int 0)) (cT (fC (.int 1)) cL))) cL))))))))))))))
   (bQ (RA (f2 FC (cM 3 [] aQ (aE (fV 2) (aE (fV 3) (aE (bK cL) cB)))) (fC (.bl ba))) (f2 FC (cM 3 [] aQ (aE (fV 2) (aE (fC (.int 2)) (aE (cM 3 [1] aX (aE (fV 0) (aO 1 (aE (fV 14) cB)))) cB)))) (fC (.bl bb))))))))))))))
def IM:aP:=ZQ 15 [] Yi
end L2
namespace RR
open PySem L2
section
open PySem.Spec PyProof.Rows
def mkDg{P:Az}{w:Wv}{K:Au}{mg:Wy->Option Wr}{base:Wz}{x:Wy}{st:Xf}{f:Ws}{ps:List Wy}{sp:Sp}{k:Nat}(X:∀x a,Te K Xb x=b0 (b0 (.ref a))->mg x=b0 (.ref a))(p:A4 K x st f)(ok:∀{i:Hx},Fun K x x st f i->N5 P w K mg base CX0 k f i ps sp)(m:∀{kV doc h:Wr}{j:Option Ws}{e ct:Wr}(g:List Wr),g.length=ps.length->Vj (Ro x x (WJ st) (YY st) (bS st) .none kV doc h j e ct) ⟨g,[]⟩=pure (ps.zip g)):Def P w K mg base x k ps sp f:=by obtain⟨n,od,kV,doc,h,j,e,ct,l,a,b,c,d⟩:=p;have U:=Zc (st:=st) b c d;exact⟨X _ _ a,⟨_,ok U,U.binds λ_ _ _ _ _ _=>m⟩,d⟩
def okWg(P:Az)(w:Wv)(K:Au)(mg:Wy->Option Wr)(base:Wz){x q:Wy}{st:Xf}{f:Ws}{d:Hx}(N ps:List Wy)(k:Nat)(g:VS)(ml:List Nat)(F:Fun K x q st f d)(S:WC N ps (bS st))(e:∀{a:Wr}{A:Bz}{outer:List Env}{s:Af}{H:Hp}{E:XK}(_:WC N ps (bS st)) (b:WR k (A.deeper (Mb q (bS st) s.heap.objs.size f a))) (_:(A.deeper (Mb q (bS st) s.heap.objs.size f a)).units+64<cLine) (_:(A.deeper (Mb q (bS st) s.heap.objs.size f a)).units+1<cLine),NL (G3 CX0 P w K mg base N q (bS st) f a A outer s H E).nox (YY st) (RE K ml g))(c:ps.length<=N.length:=by decide):N5 P w K mg base CX0 (k+1) f d ps (spV K ml ps.length (ZQ N.length ml g)):=
 Fun.okV F S c λa A outer s H E b=>e S b b.units (nQ b)
end
abbrev Gn(K:Au)(x:Wy)(v:Wr):Prop:=Te K Xb x=b0 (b0 v)
def tS(xs:List (Wy×Nat)):Xc:=⟨.type "tuple",b4,.seq (xs.map λz=>Nh z.1 z.2).toArray 0,#[]⟩
theorem Len1{b:Type}{P:List b->Prop}(z:∀a,P [a]):∀c:List b,c.length=1->P c
 |[a],_=>z a
theorem Len2{c:Type}{P:List c->Prop}(z:∀a b,P [a,b]):∀d:List c,d.length=2->P d
 |[a,b],_=>z a b
theorem Len3{d:Type}{P:List d->Prop}(z:∀a b c,P [a,b,c]):∀e:List d,e.length=3->P e
 |[a,b,c],_=>z a b c
theorem Len4{e:Type}{P:List e->Prop}(z:∀a b c d,P [a,b,c,d]):∀f:List e,f.length=4->P f
 |[a,b,c,d],_=>z a b c d
theorem Len5{f:Type}{P:List f->Prop}(z:∀a b c d e,P [a,b,c,d,e]):∀g:List f,g.length=5->P g
 |[a,b,c,d,e],_=>z a b c d e
theorem Len6{g:Type}{P:List g->Prop}(z:∀a b c d e f,P [a,b,c,d,e,f]):∀h:List g,h.length=6->P h
 |[a,b,c,d,e,f],_=>z a b c d e f
structure Txt(w:Wv)(K:Au)(mg:Wy->Option Wr):Prop where
 fnm:∀x a,Gn K x (.ref a)->mg x=b0 (.ref a)
 fni:∀x i t,Gn K x (.int i t)->mg x=b0 (.int i t)
 p_x0:A4 K "is_whole" (top 7) 59
 p_x1:A4 K "parts_of" (top 16) 76
 p_x2:A4 K "makes_word" (top 17) 83
 p_x3:A4 K "place_of" (top 18) 90
 p_x4:A4 K "names_of" (top 19) 95
 p_x5:A4 K "may_name" (top 20) 102
 p_x6:A4 K "fits" (top 21) 109
 p_x7:A4 K "is_row" (top 22) 114
 p_x8:A4 K "is_block" (top 23) 121
 p_x9:A4 K "is_lanes" (top 27) 128
 p_x10:A4 K "may_follow" (top 28) 135
 p_x11:A4 K "is_pack" (top 29) 140
 p_x12:A4 K "rows_within" (top 30) 145
 p_x13:A4 K "fits_plan" (top 31) 150
 p_x14:A4 K "check_lanes" (top 32) 157
 p_x15:A4 K "is_plan" (top 33) 164
 p_x16:A4 K "_law_cell_at" (top 35) 171
 p_x17:A4 K "_law_mixed" (top 36) 178
 p_x18:A4 K "_law_draw" (top 37) 185
 p_x19:A4 K "_law_pick" (top 38) 192
 p_x20:A4 K "_law_same_truth" (top 39) 199
 p_x21:A4 K "_law_place" (top 40) 206
 p_x22:A4 K "_law_row" (top 41) 211
 p_x24:A4 K "_law_next" (top 43) 225
 p_x23:A4 K "_law_rows" (top 42) 218
 p_x26:A4 K "_law_names" (top 45) 237
 p_x27:A4 K "_law_may" (top 46) 242
 p_x28:A4 K "_law_must" (top 47) 247
 p_x32:A4 K "_law_mixed_order" (top 51) 267
 p_x33:A4 K "_law_renamed" (top 52) 272
 p_x25:A4 K "_law_block" (top 44) 230
 p_x29:A4 K "_law_is_pack" (top 48) 252
 p_x30:A4 K "_law_order" (top 49) 257
 p_x31:A4 K "_law_plan" (top 50) 262
 p_x34:A4 K "_law_good" (top 53) 279
 n_len:mg "len"=b4
 n_range:mg "range"=b4
 n_min:mg "min"=b4
 n_max:mg "max"=b4
 Y9:mg "list"=b4
 n_tuple:mg "tuple"=b4
 n_sorted:mg "sorted"=b4
 n_isinstance:mg "isinstance"=b4
 n_bool:mg "bool"=b4
 n_int:mg "int"=b4
 n_str:mg "str"=b4
 n_enumerate:mg "enumerate"=b4
 n_zip:mg "zip"=b4
 n_all:mg "all"=b4
 n_any:mg "any"=b4
 n_dict:mg "dict"=b4
 n_set:mg "set"=b4
 g_MOST_WORD:Gn K "MOST_WORD" (.int 999 241)
 o_a9:K.lookup 52=b0 (tS [("plus",243),("minus",244),("times",245),("least",246),("most",247),("less",248),("over",249)])
 g_DEEDS:Gn K "DEEDS" (.ref 52)
 g_MOST_SURE:Gn K "MOST_SURE" (.int 64 262)
 g_MOST_ROWS:Gn K "MOST_ROWS" (.int 40 264)
 g_MOST_PLACE:Gn K "MOST_PLACE" (.int 63 266)
 o_a15:K.lookup 60=b0 (tS [("row",268),("row",269)])
 g_DEED_PARTS:Gn K "DEED_PARTS" (.ref 60)
 o_a23:K.lookup 62=b0 (tS [("word",272)])
 o_a27:K.lookup 63=b0 (tS [("row",274),("row",275),("row",276)])
 o_a29:K.lookup 64=b0 (tS [("place",278)])
 o_a33:K.lookup 65=b0 (tS [("place",280),("row",281),("row",282)])
 o_a36:K.lookup 66=b0 (tS [("place",284),("row",285)])
 o_a40:K.lookup 67=b0 (tS [("place",287),("row",288),("row",289)])
 o_a41:K.lookup 61=b0 ⟨.type "dict",b4,.dict #[⟨Fs w.params "number",.str "number" 271,.ref 62⟩,⟨Fs w.params "pick",.str "pick" 273,.ref 63⟩,⟨Fs w.params "load",.str "load" 277,.ref 64⟩,⟨Fs w.params "take",.str "take" 279,.ref 65⟩,⟨Fs w.params "store",.str "store" 283,.ref 66⟩,⟨Fs w.params "put",.str "put" 286,.ref 67⟩] 6,#[]⟩
 g_OTHER_PARTS:Gn K "OTHER_PARTS" (.ref 61)
 o_a50:K.lookup 68=b0 (tS [("load",297),("take",298)])
 g_READERS:Gn K "READERS" (.ref 68)
 o_a53:K.lookup 69=b0 (tS [("store",300),("put",301)])
 g_WRITERS:Gn K "WRITERS" (.ref 69)
 g_LEAST_LANES:Gn K "LEAST_LANES" (.int 2 366)
 g_MOST_LANES:Gn K "MOST_LANES" (.int 4 368)
 p_x35:A4 K "law" (top 54) 284
section
open PySem.Spec PyProof.Rows
def SM(P:Az){w:Wv}{K:Au}{mg:Wy->Option Wr}(base:Wz){x:Wy}{st:Xf}{f:Ws}(N ps:List Wy)(k:Nat)(g:VS)(ml:List Nat)(T:Txt w K mg)(p:A4 K x st f)(h:∀{a:Wr}{A:Bz}{outer:List Env}{s:Af}{H:Hp}{E:XK}(_:WC N ps (bS st)) (j:WR k (A.deeper (Mb x (bS st) s.heap.objs.size f a))) (_:(A.deeper (Mb x (bS st) s.heap.objs.size f a)).units+64<cLine) (_:(A.deeper (Mb x (bS st) s.heap.objs.size f a)).units+1<cLine),NL (G3 CX0 P w K mg base N x (bS st) f a A outer s H E).nox (YY st) (RE K ml g))(S:WC N ps (bS st):=by exact mkSc)(c:ps.length<=N.length:=by decide)(e:∀{kV doc d:Wr}{i:Option Ws}{a ct:Wr}(b:List Wr),b.length=ps.length->Vj (Ro x x (WJ st) (YY st) (bS st) .none kV doc d i a ct) ⟨b,[]⟩=pure (ps.zip b):=by first|exact Len1 λ_=>rfl|exact Len2 λ_ _=>rfl|exact Len3 λ_ _ _=>rfl|exact Len4 λ_ _ _ _=>rfl|exact Len5 λ_ _ _ _ _=>rfl|exact Len6 λ_ _ _ _ _ _=>rfl):Y2 P w K mg base x (k+1) ps ml (ZQ N.length ml g) f:=
 mkDg T.fnm p (λF=>okWg P w K mg base N ps k g ml F S h c) e
end
section
variable{P:Az}{w:Wv}{K:Au}{mg:Wy->Option Wr}{base:Wz}(T:Txt w K mg)
include T
def vI{x:Wy}{i:Int}{t:Nat}(g:Gn K x (.int i t)):∃u v,mg x=b0 u/\bP v u/\∀N H M,bE K N H M v (.int i):=⟨_,.int i,T.fni _ _ _ g,⟨_,rfl⟩,λ_ _ _=>.int _⟩
omit T in
def rS{N:Ws->Prop}{H:Hp}{M:Ws->Prop}{a:Ws}{xs:List (Wy×Nat)}(o:K.lookup a=b0 (tS xs))(hl:xs.length<=9:=by decide):bE K N H M (.ref a) (.tup (xs.map λz=>.str z.1)):=by
 refine .tup (xs:=xs.map λz=>.str z.1) (.inr ⟨_,_,_,o,rfl,rfl,by show(xs.map _).length<=_;rw[Bf];exact Fl hl (by decide),?_,by cases xs<;>rfl⟩) ?_;show bT _ (xs.map λz => Nh z.1 z.2);clear o hl;induction xs with
 |nil=>exact .nil
 |cons z c b=>exact .cons ⟨_,rfl⟩ b
 clear o hl;induction xs with
 |nil=>exact .nil
 |cons z c b=>exact .cons (.str _) b
def vS{x:Wy}{a:Ws}{xs:List (Wy×Nat)}(g:Gn K x (.ref a))(o:K.lookup a=b0 (tS xs))(hl:xs.length<=9:=by decide):∃u v,mg x=b0 u/\bP v u/\∀N H M,bE K N H M v (.tup (xs.map λz=>.str z.1)):=⟨_,.ref a,T.fnm _ _ g,rfl,λ_ _ _=>rS o hl⟩
def KZ:∃u v,mg "OTHER_PARTS"=b0 u/\bP v u/\∀N H M,bE K N H M v Q4:=
 ⟨_,.ref 61,T.fnm _ _ T.g_OTHER_PARTS,rfl,λ_ _ _=>(.ktb (D:=[("number",.ref 62),("pick",.ref 63),("load",.ref 64),("take",.ref 65),("store",.ref 66),("put",.ref 67)]) ⟨(by decide),_,_,_,T.o_a41,⟨rfl,rfl,rfl⟩,rfl,(.cons rfl rfl (.cons rfl rfl (.cons rfl rfl (.cons rfl rfl (.cons rfl rfl (.cons rfl rfl .nil))))))⟩ (.cons (rS T.o_a23) (.cons (rS T.o_a27) (.cons (rS T.o_a29) (.cons (rS T.o_a33) (.cons (rS T.o_a36) (.cons (rS T.o_a40) .nil)))))))⟩
abbrev Nx0:List Wy:=["thing","low","high"]
abbrev Nx1:List Wy:=["deed"]
abbrev Nx2:List Wy:=["row"]
abbrev Nx4:List Wy:=["row","deed","rest"]
abbrev Nx5:List Wy:=["thing","able"]
abbrev Nx6:List Wy:=["part","thing","able"]
abbrev Nx7:List Wy:=["thing","able","deed","rest","parts"]
abbrev Nx8:List Wy:=["thing","sure","rows","able","row"]
abbrev Qx8:List Wy:=["thing"]
abbrev Nx10:List Wy:=["rows","first","second","deed","place"]
abbrev Qx10:List Wy:=["rows","first","second"]
abbrev Nx11:List Wy:=["block","lanes","thing","rows"]
abbrev CI:List Wy:=["block","lanes","thing"]
abbrev Nx12:List Wy:=["tuples"]
abbrev Nx13:List Wy:=["block","lanes","thing","packed"]
abbrev Nx14:List Wy:=["block","lanes"]
abbrev Nx16:List Wy:=["_law_script","_law_k","_law_rest","_law_again"]
abbrev Qx16:List Wy:=["_law_script","_law_k"]
abbrev Nx17:List Wy:=["_law_script","_law_k","_law_bound","_law_drawn"]
abbrev Qx17:List Wy:=["_law_script","_law_k","_law_bound"]
abbrev Nx18:List Wy:=["_law_script","_law_town","_law_bound"]
abbrev Nx19:List Wy:=["_law_script","_law_town","_law_some"]
abbrev Nx20:List Wy:=["_law_got","_law_due"]
abbrev Nx21:List Wy:=["_law_script","_law_town","_law_seen","_law_deed","_law_room"]
noncomputable abbrev Nx22:List Wy:=["_law_script","_law_town","_law_made","_law_seen","_law_room","_law_kind","_law_a","_law_b","_law_c"]
abbrev Qx22:List Wy:=["_law_script","_law_town","_law_made","_law_seen","_law_room"]
noncomputable abbrev Nx24:List Wy:=["_law_script","_law_town","_law_rows_here","_law_made","_law_seen","_law_room","_law_last","_law_first","_law_names_here","_law_name","_law_at"]
abbrev Qx24:List Wy:=["_law_script","_law_town","_law_rows_here","_law_made","_law_seen","_law_room"]
abbrev Nx23:List Wy:=["_law_script","_law_town","_law_many","_law_room","_law_rows_here","_law_made","_law_seen","_law_again"]
abbrev Qx23:List Wy:=["_law_script","_law_town","_law_many","_law_room"]
abbrev Nx26:List Wy:=["_law_row_here"]
abbrev Nx27:List Wy:=["_law_block_here","_law_row_here","_law_here"]
abbrev Qx27:List Wy:=["_law_block_here","_law_row_here"]
noncomputable abbrev Nx28:List Wy:=["_law_block_here","_law_made","_law_cells","_law_two","_law_there","_law_one","_law_here","_law_writes","_law_reasons"]
abbrev Qx28:List Wy:=["_law_block_here"]
abbrev Nx32:List Wy:=["_law_script","_law_town","_law_block_here","_law_pairs","_law_left","_law_made","_law_ready"]
abbrev Qx32:List Wy:=["_law_script","_law_town","_law_block_here"]
abbrev Nx33:List Wy:=["_law_row_here","_law_names_here","_law_first"]
abbrev Qx33:List Wy:=["_law_row_here","_law_names_here"]
abbrev Nx25:List Wy:=["_law_script","_law_town","_law_most","_law_room","_law_sure","_law_block_here","_law_order_there","_law_names_here"]
abbrev Qx25:List Wy:=["_law_script","_law_town","_law_most"]
abbrev Nx29:List Wy:=["_law_block_here","_law_broad","_law_some","_law_rows_here"]
abbrev Qx29:List Wy:=["_law_block_here","_law_broad","_law_some"]
abbrev Nx30:List Wy:=["_law_block_here","_law_plan_here","_law_home","_law_left","_law_made","_law_row_here","_law_pack","_law_waits","_law_ready"]
abbrev Qx30:List Wy:=["_law_block_here","_law_plan_here"]
abbrev Nx31:List Wy:=["_law_script","_law_town","_law_block_here","_law_broad","_law_plan_here","_law_many","_law_again","_law_some","_law_row_here","_law_used"]
abbrev Qx31:List Wy:=["_law_script","_law_town","_law_block_here","_law_broad"]
abbrev Nx34:List Wy:=["_law_block_here","_law_broad","_law_thing","_law_some","_law_pack"]
abbrev Qx34:List Wy:=["_law_block_here","_law_broad","_law_thing"]
noncomputable abbrev Nx35:List Wy:=["_law_script","_law_town","_law_block_here","_law_broad","_law_many","_law_plan_here","_law_again","_law_deed","_law_alike","_law_spare","_law_some","_law_at","_law_k","_law_row_here","_law_odd"]
abbrev Qx35:List Wy:=["_law_script"]
def D_x0:Y2 P w K mg base "is_whole" 1 Nx0 [] bA 59:=
 SM P base Nx0 Nx0 0 QM [] T T.p_x0 λb d c a=>by
  exact(cU (bN (VN (V3 (ZH (IG T.n_isinstance (vv 0) (vty T.n_bool fS))) (XI (YT (ZH (IG T.n_isinstance (vv 0) (vty T.n_int pZ)))))))
   (cR (cG ZI))
   cC) (cR (cG (nX Xs Xs s_le s_le (vv 1) (vv 0) (vv 2)))))
def D_x1:Y2 P w K mg base "parts_of" 1 Nx1 [] ZO 76:=
 SM P base Nx1 Nx1 0 LN [] T T.p_x1 λc d b a=>by
  exact(cU (bN (b8 (WL b) (ZM (neg:=bb)) (vv 0) (ZE (by rfl) (vS T T.g_DEEDS T.o_a9)) (by with_unfolding_all rfl))
   (cR (cG (ZE (by rfl) (vS T T.g_DEED_PARTS T.o_a15))))
   cC) (cR (cG (nK rfl a (ZE (by rfl) (KZ T)) (vv 0) ⟨rfl,rfl,rfl,rfl⟩))))
def D_x2:Y2 P w K mg base "makes_word" 1 Nx2 [] WB 83:=
 SM P base Nx2 Nx2 0 T7 [] T T.p_x2 λc d b a=>by exact(cR (cG (X3 (M4 b) (ZM (neg:=ba)) (Z0 a (vv 0) cW) (ZE (by rfl) (vS T T.g_WRITERS T.o_a53)) (by with_unfolding_all rfl))))
def D_x3:Y2 P w K mg base "place_of" 1 Nx2 [] YC 90:=
 SM P base Nx2 Nx2 0 T9 [] T T.p_x3 λc d b a=>by exact(cR (cG (N0 (VN (V3 (b8 (WL b) (ZM (neg:=bb)) (Z0 a (vv 0) cW) (ZE (by rfl) (vS T T.g_READERS T.o_a50)) (by with_unfolding_all rfl)) (XI (b8 (WL b) (ZM (neg:=bb)) (Z0 a (vv 0) cW) (ZE (by rfl) (vS T T.g_WRITERS T.o_a53)) (by with_unfolding_all rfl))))) (Z0 a (vv 0) cW) SX)))
def D_x4:Y2 P w K mg base "names_of" 2 Nx2 [] YB 95:=
 SM P base Nx4 Nx2 1 LM [] T T.p_x4 λb e d c=>by exact(cU (B9 (i:=1) (j:=2) rfl rfl b.nd rfl rfl (by decide) (Lk rfl) (Lk rfl) (vv 0)) (cR (cG (cF (bB ["part","given"] [] 2 (D9 rfl (by rfl) T.n_zip (cP (bW (D_x1 T) e (cS (vv 1) cN))) (vv 2)) (λa _ _ _ _=>⟨(V1 (K:=K) rfl rfl (bF (cH a) (bF (cH a) X4))),(XG (XH d (vv 0) cD)),(vv 1)⟩))))))
def D_x5:Y2 P w K mg base "may_name" 2 Nx5 [] TW 102:=
 SM P base Nx5 Nx5 1 QU [] T T.p_x5 λc b d a=>by exact(cR (cG (WW (bW (D_x0 T) b (cS (vv 0) (cS cW (cS (cP (XN Q0 MJ (YS T.n_len (vv 1)) cW)) cN)))) (V0 (Z0 a (vv 1) (vv 0))))))
def D_x6:Y2 P w K mg base "fits" 3 Nx6 [] RZ 109:=
 SM P base Nx6 Nx6 2 LK [] T T.p_x6 λd a b c=>by
  exact(cU (bN (XH b (vv 0) cD)
   (cR (cG (bW (D_x0 T) a (cS (vv 1) (cS cW (cS (cP (ZE (by rfl) (vI T T.g_MOST_WORD))) cN))))))
   cC) (cU (bN (XH b (vv 0) cD)
   (cR (cG (bW (D_x0 T) a (cS (vv 1) (cS cW (cS (cP (ZE (by rfl) (vI T T.g_MOST_PLACE))) cN))))))
   cC) (cR (cG (bW (D_x5 T) a (cS (vv 1) (cS (vv 2) cN)))))))
def D_x7:Y2 P w K mg base "is_row" 4 Nx5 [] OV 114:=
 SM P base Nx7 Nx5 3 LL [] T T.p_x7 λa c b e=>by
  exact(cU (bN (VN (V3 (YT (ZH (IG T.n_isinstance (vv 0) (vty T.n_tuple aC)))) (XI (XH b (YS T.n_len (vv 0)) cW))))
   (cR (cG ZI))
   cC) (cU (B9 (i:=2) (j:=3) rfl rfl a.nd rfl rfl (by decide) (Lk rfl) (Lk rfl) (vv 0)) (cU (bG a.nd (aF (cP (N0 (ZH (IG T.n_isinstance (vv 2) (vty T.n_str qq))) (bW (D_x1 T) c (cS (vv 2) cN)) SX)))) (cU (bN (VN (V3 (b8 fK eU (vv 4) SX) (XI (b8 (UA b) UF (YS T.n_len (vv 4)) (YS T.n_len (vv 3))))))
   (cR (cG ZI))
   cC) (cR (cG (KH (kAll rfl) BU (by rfl) T.n_all GV (cF (bB ["able","part","given"] [1] 2 (D9 rfl (by rfl) T.n_zip (vv 4) (vv 3)) (λd _ _ _ _=>⟨(V1 (K:=K) rfl rfl (bF (cH d) (bF (cH d) X4))),ZG,(cP (bW (D_x6 T) c (cS (vv 1) (cS (vv 2) (cS (vv 0) cN)))))⟩))))))))))
def D_x8:Y2 P w K mg base "is_block" 5 Qx8 [] aW 121:=
 SM P base Nx8 Qx8 4 QK [] T T.p_x8 λa b d c=>by
  exact(cU (bN (VN (V3 (YT (ZH (IG T.n_isinstance (vv 0) (vty T.n_tuple aC)))) (XI (b8 (UA d) UF (YS T.n_len (vv 0)) cW))))
   (cR (cG ZI))
   cC) (cU (eP (vv 0) (V1 (K:=K) rfl rfl (bF (cH a.nd) (bF (cH a.nd) X4)))) (cU (bN (YT (ZH (bW (D_x0 T) b (cS (vv 1) (cS cW (cS (cP (ZE (by rfl) (vI T T.g_MOST_SURE))) cN))))))
   (cR (cG ZI))
   cC) (cU (bN (VN (V3 (YT (ZH (IG T.n_isinstance (vv 2) (vty T.n_tuple aC)))) (XI (b8 MA DW (YS T.n_len (vv 2)) (ZE (by rfl) (vI T T.g_MOST_ROWS))))))
   (cR (cG ZI))
   cC) (cU (bG a.nd (X5 (bX (cK cO)))) (cU (WX Df rfl (ZR rfl (vv 2)) (cH a.nd)
   (cU (bN (YT (ZH (bW (D_x7 T) b (cS (vv 4) (bO (pv 3) cN)))))
   (cR (cG ZI))
   cC)
   (cR (ZA Bo Bp aR YG (pv 3) (cK (cX (bW (D_x2 T) b (cS (vv 4) cN)) cO)))))) (cR (cG ZI))))))))
def D_x9:Y2 P w K mg base "is_lanes" 2 Qx8 [] TR 128:=
 SM P base Qx8 Qx8 1 QL [] T T.p_x9 λc b d a=>by exact(cR (cG (bW (D_x0 T) b (cS (vv 0) (cS (cP (ZE (by rfl) (vI T T.g_LEAST_LANES))) (cS (cP (ZE (by rfl) (vI T T.g_MOST_LANES))) cN))))))
def jD:Y2 P w K mg base "may_follow" 2 Qx10 [] XR 135:=
 SM P base Nx10 Qx10 1 T8 [] T T.p_x10 λc d b a=>by
  exact(cU (bG c.nd (aF (cP (Z0 a (Z0 a (vv 0) (vv 1)) cW)))) (cU (bN (VN (V3 (b8 cZ s_ge (vv 1) (vv 2)) (V3 (XH b (vv 3) cD) (XI (b8 (UA b) UF (Z0 a (Z0 a (vv 0) (vv 2)) cW) (vv 3))))))
   (cR (cG ZI))
   cC) (cU (bG c.nd (aF (cP (bW (D_x3 T) d (cS (cP (Z0 a (vv 0) (vv 1))) cN))))) (cR (cG (rZ (X3 fK eU (vv 4) SX) (V0 (veq b (bW (D_x3 T) d (cS (cP (Z0 a (vv 0) (vv 2))) cN)) (aM Y5 Z4 (vv 4) cW)))))))))
def pB:Y2 P w K mg base "is_pack" 3 CI [] aJ 140:=
 SM P base Nx11 CI 2 V8 [] T T.p_x11 λe c d a=>by
  exact(cU (bG e.nd (aF (cP (Z0 a (vv 0) cW)))) (cU (bN (VN (V3 (YT (ZH (IG T.n_isinstance (vv 2) (vty T.n_tuple aC)))) (XI (b8 (UA d) UF (YS T.n_len (vv 2)) (vv 1)))))
   (cR (cG ZI))
   cC) (cU (bN (YT (ZH (KH (kAll rfl) BU (by rfl) T.n_all GV (cF (bB ["rows","row"] [3] 1 (ZR rfl (vv 2)) (λb _ _ _ _=>⟨(cH b),ZG,(cP (bW (D_x0 T) c (cS (vv 1) (cS cW (cS (cP (XN Q0 MJ (YS T.n_len (vv 0)) cW)) cN)))))⟩))))))
   (cR (cG ZI))
   cC) (cU (bN (YT (ZH (KH (kAll rfl) BU (by rfl) T.n_all GV (cF (bB ["rows","first","second"] [3] 2 (D9 rfl (by rfl) T.n_zip (vv 2) (cP (UX rfl (vv 2) (UZ cW) UY))) (λb _ _ _ _=>⟨(V1 (K:=K) rfl rfl (bF (cH b) (bF (cH b) X4))),ZG,(cP (bW (jD T) c (cS (vv 0) (cS (vv 1) (cS (vv 2) cN)))))⟩))))))
   (cR (cG ZI))
   cC) (cR (cG (sJ (KH (kAny rfl) hW (by rfl) T.n_any mV (cF (F9 (N':=["thing","rows","row","name"]) (ix:=[2,3]) (nl:=2) rfl rfl (by rfl) rfl (by decide) (ZR rfl (vv 2)) (λh f i g=>⟨(cH (show(["thing","rows","row","name"]:List Wy).Nodup by decide+kernel)),ZG,(ZR rfl (cP (bW (D_x4 T) c (cS (cP (Z0 a (vv 1) (vv 2))) cN)))),(cH (show(["thing","rows","row","name"]:List Wy).Nodup by decide+kernel)),ZG,(cP (X3 (WL d) (ZM (neg:=bb)) (vv 3) (vv 0) (by with_unfolding_all rfl)))⟩)))))))))))
def jI:Y2 P w K mg base "rows_within" 1 Nx12 [] W5 145:=
 SM P base Nx12 Nx12 0 U4 [] T T.p_x12 λb e d a=>by exact(cR (cG (cF (F9 (N':=["rows","row"]) (ix:=[]) (nl:=2) rfl rfl (by rfl) rfl (by decide) (ZR rfl (vv 0)) (λg c h f=>⟨(cH (show(["rows","row"]:List Wy).Nodup by decide+kernel)),ZG,(ZR rfl (vv 0)),(cH (show(["rows","row"]:List Wy).Nodup by decide+kernel)),ZG,(vv 1)⟩)))))
def kR:Y2 P w K mg base "fits_plan" 4 CI [] aB 150:=
 SM P base Nx13 CI 3 W3 [] T T.p_x13 λc b a d=>by
  exact(cU (bN (VN (V3 (YT (ZH (IG T.n_isinstance (vv 2) (vty T.n_tuple aC)))) (XI (YT (ZH (KH (kAll rfl) BU (by rfl) T.n_all GV (cF (bB ["block","lanes","pack"] [0,1] 1 (ZR rfl (vv 2)) (λe _ _ _ _=>⟨(cH e),ZG,(cP (bW (pB T) b (cS (vv 0) (cS (vv 1) (cS (vv 2) cN)))))⟩)))))))))
   (cR (cG ZI))
   cC) (cU (bG c.nd (aF (cP (bW (jI T) b (cS (vv 2) cN))))) (cR (cG (WW (veq a (IH T.n_len T.n_set (vv 3)) (YS T.n_len (vv 3))) (V0 (veq a (cF (N3 SG Y9 (by rfl) T.Y9 WI (vv 2))) (cF (F8 LU PP (by rfl) T.n_sorted UI (vv 2))))))))))
def nZ:Y2 P w K mg base "check_lanes" 6 Nx14 [] W4 157:=
 SM P base Nx14 Nx14 5 U2 [] T T.p_x14 λc a d b=>by
  exact(cU (bN (YT (ZH (bW (D_x8 T) a (cS (vv 0) cN))))
   (cR GB)
   cC) (cR (bN (YT (ZH (bW (D_x9 T) a (cS (vv 1) cN))))
   (cR GB)
   cC)))
def IL:Y2 P w K mg base "is_plan" 7 CI [] aQ 164:=
 SM P base CI CI 6 OE [] T T.p_x15 λc a d b=>by exact(cU (l9 (bW (nZ T) a (cS (vv 0) (cS (vv 1) cN)))) (cR (cG (bW (kR T) a (cS (vv 0) (cS (vv 1) (cS (vv 2) cN)))))))
def jE:Y2 P w K mg base "_law_cell_at" 1 Qx16 [] ZB 171:=
 SM P base Nx16 Qx16 0 U3 [] T T.p_x16 λb d c a=>by
  exact(cU (bN (b8 FD s_lt (vv 1) (YS T.n_len (vv 0)))
   (cR (cG (Z0 a (vv 0) (vv 1))))
   cC) (cU (bN (XH c (vv 0) (cF (bX (cK cO))))
   (cR (cG cW))
   cC) (cU (bG b.nd (aF (cP (Z0 a (vv 0) (XN SN NY (vv 1) (YS T.n_len (vv 0))))))) (cU (WX Df rfl (ZX (by rfl) T.n_range (Yg (mU rfl) lP (by rfl) T.n_min so (XN A0 hJ (vv 1) (YS T.n_len (vv 0))) cW)) (cH b.nd)
   (cR (bG b.nd (aF (cP (XN A0 hJ (vv 2) cW)))))) (cR (cG (aM Y5 Z4 (aM Y5 Z4 (aM HD MT (Z0 a (vv 0) (XN SN NY (vv 1) (YS T.n_len (vv 0)))) cW) (vv 1)) (aM HD MT (vv 2) cW))))))))
def si:Y2 P w K mg base "_law_mixed" 2 Qx17 [] U6 178:=
 SM P base Nx17 Qx17 1 R6 [] T T.p_x17 λa c d b=>by exact(cU (bG a.nd (aF (cP (XN SN NY (aM Y5 Z4 (aM Y5 Z4 (aM HD MT (bW (jE T) c (cS (vv 0) (cS (vv 1) cN))) cW) (aM HD MT cW (vv 1))) cW) cW)))) (cR (cG (XN SN NY (XN SN NY (XN SN NY (XN pS km (vv 3) cW) cW) cW) (vv 2)))))
def YM:Y2 P w K mg base "_law_draw" 3 Nx18 [1] cI 185:=
 SM P base Nx18 Nx18 2 QN [1] T T.p_x18 λc b d a=>by exact(cU (ZA Bo Bp aR YG (pv 1) (cK (cX cW cO))) (cR (cG (bW (si T) b (cS (vv 0) (cS (cP (YS T.n_len (vo 1))) (cS (vv 2) cN)))))))
def OU:Y2 P w K mg base "_law_pick" 4 Nx19 [1] aX 192:=
 SM P base Nx19 Nx19 3 QQ [1] T T.p_x19 λc b d a=>by exact(cR (cG (Z0 a (vv 2) (bW (YM T) b (cS (vv 0) (bO (pv 1) (cS (cP (YS T.n_len (vv 2))) cN)))))))
def m8:Y2 P w K mg base "_law_same_truth" 1 Nx20 [] YU 199:=
 SM P base Nx20 Nx20 0 UL [] T T.p_x20 λc d b a=>by exact(cR (cG (WW (IG T.n_isinstance (vv 0) (vty T.n_bool fS)) (V0 (veq b (vv 0) (vv 1))))))
def EE:Y2 P w K mg base "_law_place" 5 Nx21 [1,2] ZS 206:=
 SM P base Nx21 Nx21 4 SA [1,2] T T.p_x21 λc b d a=>by exact(cU (II a (pv 2) (vv 3) (cP (XN SN NY (aM Y5 Z4 (oz a (pv 2) (vv 3) (cP (bW (YM T) b (cS (vv 0) (bO (pv 1) (cS (vv 4) cN))))) ⟨rfl,rfl,rfl,rfl⟩) (bW (OU T) b (cS (vv 0) (bO (pv 1) (cS (cF (bX (cK (cX cW (cX cW (cX cW (cX cW (cX cW cO)))))))) cN))))) (vv 4))) rfl) (cR (cG (Z0 a (vo 2) (vv 3)))))
def oo:Y2 P w K mg base "_law_row" 6 Qx22 [1,3] RD 211:=
 SM P base Nx22 Qx22 5 OG [1,3] T T.p_x22 λd a b c=>by
  exact(cU (bG d.nd (aF (cP (bW (YM T) a (cS (vv 0) (bO (pv 1) (cS cW cN))))))) (cU (bN (VN (V3 (XH b (vv 2) (cF (bX (cK cO)))) (XI (XH b (vv 5) cW))))
   (cU (bN (XH b (bW (YM T) a (cS (vv 0) (bO (pv 1) (cS cW cN)))) cW)
   (cR (cG (b5 (cX cD (cX (bW (OU T) a (cS (vv 0) (bO (pv 1) (cS (cF (bX (cK (cX cW (cX cW (cX cW (cX cW (cX cW (cX (bW (YM T) a (cS (vv 0) (bO (pv 1) (cS cW cN)))) cO))))))))) cN)))) cO)))))
   cC)
   (cR (cG (b5 (cX cD (cX (bW (EE T) a (cS (vv 0) (bO (pv 1) (bO (pv 3) (cS cD (cS (vv 4) cN)))))) cO))))))
   cC) (cU (eP (cF (bB ["_law_script","_law_town","_law_made","_law_k"] [0,1,2] 1 (ZX (by rfl) T.n_range cW) (λe _ _ _ _=>⟨(cH e),ZG,(cP (Z0 c (vv 2) (Yg (qW rfl) kq (by rfl) T.n_max rn cW (XN Q0 MJ (XN Q0 MJ (YS T.n_len (vv 2)) cW) (bW (YM T) a (cS (vv 0) (bO (pv 1) (cS cW cN))))))))⟩))) (V1 (K:=K) rfl rfl (bF (cH d.nd) (bF (cH d.nd) (bF (cH d.nd) X4))))) (cU (bN (b8 (WL b) (ZM (neg:=bb)) (vv 5) (b5 (cX cW (cX cW cO))) (by with_unfolding_all rfl))
   (cR (cG (b5 (cX cD (cX (bW (EE T) a (cS (vv 0) (bO (pv 1) (bO (pv 3) (cS cD (cS (vv 4) cN)))))) cO)))))
   cC) (cU (bN (XH b (vv 5) cW)
   (cR (cG (b5 (cX cD (cX (bW (EE T) a (cS (vv 0) (bO (pv 1) (bO (pv 3) (cS cD (cS (vv 4) cN)))))) (cX (vv 8) (cX (vv 6) cO)))))))
   cC) (cU (bN (b8 (WL b) (ZM (neg:=bb)) (vv 5) (b5 (cX cW (cX cW cO))) (by with_unfolding_all rfl))
   (cR (cG (b5 (cX cD (cX (bW (EE T) a (cS (vv 0) (bO (pv 1) (bO (pv 3) (cS cD (cS (vv 4) cN)))))) (cX (vv 6) cO))))))
   cC) (cU (bN (XH b (vv 5) cW)
   (cR (cG (b5 (cX cD (cX (bW (EE T) a (cS (vv 0) (bO (pv 1) (bO (pv 3) (cS cD (cS (vv 4) cN)))))) (cX (vv 6) (cX (vv 8) cO)))))))
   cC) (cU (bN (XH b (vv 5) cW)
   (cR (cG (b5 (cX cD (cX (vv 8) (cX (vv 6) (cX (vv 7) cO)))))))
   cC) (cR (cG (b5 (cX (Z0 c (cF (bX (cK (cX cD (cX cD (cX cD (cX cD (cX cD (cX cD (cX cD cO)))))))))) (bW (YM T) a (cS (vv 0) (bO (pv 1) (cS cW cN))))) (cX (vv 6) (cX (vv 7) cO))))))))))))))
def qu:Y2 P w K mg base "_law_next" 5 Qx24 [1,4] YA 225:=
 SM P base Nx24 Qx24 4 T6 [1,4] T T.p_x24 λb d c a=>by
  exact(cU (bG b.nd (aF (cP (Z0 a (vv 2) (SW cW))))) (cU (bG b.nd (aF (cP (N0 (b8 (WL c) (ZM (neg:=bb)) (Z0 a (vv 6) cW) (b5 (cX cD (cX cD (cX cD (cX cD cO))))) (by with_unfolding_all rfl)) cW cW)))) (cU (bG b.nd (X5 (bX (cK cO)))) (cU (WX Df rfl (ZR rfl (cP (UX rfl (vv 6) (UZ (vv 7)) UY))) (cH b.nd)
   (cU (bG b.nd (aF (cP (aM Y5 Z4 (kS rfl (vv 3) (vv 9)) (bW (OU T) d (cS (vv 0) (bO (pv 1) (cS (cF (bX (cK (cX cW (cX cW (cX cW (cX cW (cX (SW cW) (cX cW (cX cW cO)))))))))) cN))))))))
   (cR (ZA Bo Bp aR YG (pv 8) (cK (cX (N0 (VN (V2 (mr Xs FD s_le s_lt cW (vv 10) (YS T.n_len (vv 3))) (WP (b8 (UA c) UF (Z0 a (vv 3) (vv 10)) (XN Q0 MJ (YS T.n_len (vv 2)) cW))))) (Z0 a (vv 3) (vv 10)) (vv 9)) cO)))))) (cU (bN (XH c (vv 7) cW)
   (cR (cG (aM Y5 Z4 (UX rfl (vv 6) UY (UZ cW)) (TQ YK YJ (by rfl) T.n_tuple aC (vo 8)))))
   cC) (cU (II a (pv 4) (Z0 a (vv 6) cW) (cP (XN SN NY (aM Y5 Z4 (Z0 a (vv 6) cW) cW) (vv 5))) rfl) (cR (cG (aM Y5 Z4 (b5 (cX (Z0 a (vv 6) cW) (cX (Z0 a (vo 4) (Z0 a (vv 6) cW)) cO))) (TQ YK YJ (by rfl) T.n_tuple aC (vo 8)))))))))))
def pI:Y2 P w K mg base "_law_rows" 7 Qx23 [1] TU 218:=
 SM P base Nx23 Qx23 6 QT [1] T T.p_x23 λd c b a=>by
  exact(cU (k4 (i:=4) (j:=5) (k:=6) rfl d.nd rfl rfl rfl (by decide) (by decide) (by decide) rfl rfl rfl (X5 (bX (cK cO))) (X5 (bX (cK cO))) (X5 GA) rfl) (cU (MP Df (b8 FD s_lt (YS T.n_len (vo 4)) (vv 2))
   (cU (ZA Bo Bp aR YG (pv 4) (cK (cX (bW (oo T) c (cS (vv 0) (bO (pv 1) (bO (pv 5) (bO (pv 6) (cS (vv 3) cN)))))) cO)))
   (cU (bN (b8 (M4 b) (ZM (neg:=ba)) (Z0 a (Z0 a (vo 4) (SW cW)) cW) (b5 (cX cD (cX cD cO))) (by with_unfolding_all rfl))
   (cR (ZA Bo Bp aR YG (pv 5) (cK (cX (XN Q0 MJ (YS T.n_len (vo 4)) cW) cO))))
   cC)
   (cR (WX Df rfl (ZX (by rfl) T.n_range (bW (OU T) c (cS (vv 0) (bO (pv 1) (cS (cF (bX (cK (cX cW (cX cW (cX cW (cX cW (cX cW cO)))))))) cN))))) (cH d.nd)
   (cR (bN (VN (V2 (b8 FD s_lt (YS T.n_len (vo 4)) (vv 2)) (WP (b8 (UA b) UF (Z0 a (Z0 a (vo 4) (SW cW)) cW) cD))))
   (cU (ZA Bo Bp aR YG (pv 4) (cK (cX (bW (qu T) c (cS (vv 0) (bO (pv 1) (bO (pv 4) (bO (pv 5) (bO (pv 6) (cS (vv 3) cN))))))) cO)))
   (cR (bN (b8 (M4 b) (ZM (neg:=ba)) (Z0 a (Z0 a (vo 4) (SW cW)) cW) (b5 (cX cD (cX cD cO))) (by with_unfolding_all rfl))
   (cR (ZA Bo Bp aR YG (pv 5) (cK (cX (XN Q0 MJ (YS T.n_len (vo 4)) cW) cO))))
   cC)))
   cC))))))) (cR (cG (TQ YK YJ (by rfl) T.n_tuple aC (vo 4))))))
def Zu:Y2 P w K mg base "_law_names" 1 Nx26 [] aN 237:=
 SM P base Nx26 Nx26 0 NQ [] T T.p_x26 λc d b a=>by
  exact(cU (bN (XH b (Z0 a (vv 0) cW) cD)
   (cR (cG (cF (bX (cK cO)))))
   cC) (cR (cG (N0 (b8 (WL b) (ZM (neg:=bb)) (Z0 a (vv 0) cW) (b5 (cX cD (cX cD (cX cD (cX cD cO))))) (by with_unfolding_all rfl)) (cF (N3 SG Y9 (by rfl) T.Y9 WI (KI (UX rfl (vv 0) (UZ cW) UY)))) (cF (N3 SG Y9 (by rfl) T.Y9 WI (KI (UX rfl (vv 0) (UZ cW) UY))))))))
def Xj:Y2 P w K mg base "_law_may" 1 Qx27 [] W8 242:=
 SM P base Nx27 Qx27 0 OF [] T T.p_x27 λc e b a=>by
  exact(cU (bG c.nd (aF (cP (Z0 a (Z0 a (vv 0) cW) (vv 1))))) (cU (bN (b8 (WL b) (ZM (neg:=bb)) (Z0 a (vv 2) cW) (b5 (cX cD (cX cD (cX cD (cX cD cO))))) (by with_unfolding_all rfl))
   (cR (cG (X3 cZ s_ge (Z0 a (vv 2) cW) (Z0 a (vv 0) cW))))
   cC) (cR (cG (WW (veq b (Z0 a (vv 2) cW) cD) (V0 (X3 (M4 b) (ZM (neg:=ba)) (UX rfl (Z0 a (Z0 a (vv 0) cW) (Z0 a (vv 2) cW)) UY (UZ cW)) (cF (bB ["_law_k"] [] 1 (lX (by rfl) T.n_range cW cW) (λd _ _ _ _=>⟨(cH d),ZG,(cP (b5 (cX cD (cX (vv 0) cO))))⟩))) (by with_unfolding_all rfl))))))))
def eN:Y2 P w K mg base "_law_must" 2 Qx28 [] W9 247:=
 SM P base Nx28 Qx28 1 QP [] T T.p_x28 λc d b a=>by
  exact(cU (NB (i:=1) (j:=2) rfl c.nd rfl rfl (by decide) rfl rfl (X5 (bX (cK cO))) (aF (cP (b5 (cX cD (cX cD (cX cD (cX cD cO))))))) rfl) (cU (WX Df rfl (IE rfl (by rfl) T.n_enumerate (cP (Z0 a (vv 0) cW))) (V1 (K:=K) rfl rfl (bF (cH c.nd) (bF (cH c.nd) X4)))
   (cR (WX Df rfl (IE rfl (by rfl) T.n_enumerate (cP (UX rfl (Z0 a (vv 0) cW) UY (UZ (vv 3))))) (V1 (K:=K) rfl rfl (bF (cH c.nd) (bF (cH c.nd) X4)))
   (cU (GC bb c.nd ["_law_row_here"] [] 1 (ZR rfl (cP (b5 (cX (vv 6) (cX (vv 4) cO))))) (λe _ _ _ _=>⟨(cH e),(XG (b8 (WL b) (ZM (neg:=bb)) (Z0 a (vv 0) cW) (b5 (cX cD (cX cD cO))) (by with_unfolding_all rfl))),(vv 0)⟩))
   (cU (bG c.nd (X5 (bX (cK (cX (X3 (WL b) (ZM (neg:=bb)) (vv 5) (bW (Zu T) d (cS (vv 4) cN)) (by with_unfolding_all rfl)) (cX (WW (bW (Xj T) d (cS (vv 0) (cS (vv 5) cN))) (V0 (bW (Xj T) d (cS (vv 0) (cS (vv 3) cN))))) cO))))))
   (cU (ZA Bo Bp aR YG (pv 8) (cK (cX (WW (X3 (WL b) (ZM (neg:=bb)) (Z0 a (vv 6) cW) (vv 2) (by with_unfolding_all rfl)) (WW (X3 (WL b) (ZM (neg:=bb)) (Z0 a (vv 4) cW) (vv 2) (by with_unfolding_all rfl)) (WW (veq b (Z0 a (vv 6) cW) (Z0 a (vv 4) cW)) (V0 (X3 (UA b) UF (vv 7) (cF (bX (cK cO)))))))) cO)))
   (cU (ZA Bo Bp aR YG (pv 8) (cK (cX (WW (bW (Xj T) d (cS (vv 0) (cS (vv 5) cN))) (V0 (X3 (WL b) (ZM (neg:=bb)) (Z0 a (vv 4) cW) (b5 (cX cD (cX cD cO))) (by with_unfolding_all rfl)))) cO)))
   (cU (ZA Bo Bp aR YG (pv 8) (cK (cX (WW (bW (Xj T) d (cS (vv 0) (cS (vv 3) cN))) (V0 (X3 (WL b) (ZM (neg:=bb)) (Z0 a (vv 6) cW) (b5 (cX cD (cX cD cO))) (by with_unfolding_all rfl)))) cO)))
   (cR (bN (b8 (WL b) (ZM (neg:=bb)) ZI (vo 8) (by with_unfolding_all rfl))
   (cR (ZA Bo Bp aR YG (pv 1) (cK (cX (b5 (cX (vv 5) (cX (vv 3) cO))) cO))))
   cC)))))))))) (cR (cG (cF (F8 LU PP (by rfl) T.n_sorted UI (KI (vo 1))))))))
def qr:Y2 P w K mg base "_law_mixed_order" 5 Qx32 [1] Y4 267:=
 SM P base Nx32 Qx32 4 XX [1] T T.p_x32 λd e b a=>by
  exact(cU (CA (i:=3) (j:=4) (k:=5) rfl rfl d.nd rfl rfl rfl (by decide) (by decide) (by decide) (Ju rfl) (Ju rfl) (Lk rfl) (aF (cP (bW (eN T) e (cS (vv 2) cN)))) (X5 (oJ rfl (by rfl) T.Y9 WI (by rfl) T.n_range nA (YS T.n_len (Z0 a (vv 2) cW)))) (X5 (bX (cK cO)))) (cU (MP Df (b8 (UA b) UF (vo 4) (cF (bX (cK cO))))
   (cU (MO bb d.nd ["_law_pairs","_law_left","_law_row_here"] [3,4] 1 (IF rfl (vo 4)) (λc _ _ _ _=>⟨(cH c),(XG (XH b (cF (bB ["_law_left","_law_row_here","_law_one","_law_two"] [1,2] 2 (ZR rfl (vv 0)) (λc _ _ _ _=>⟨(V1 (K:=K) rfl rfl (bF (cH c) (bF (cH c) X4))),(XG (VN (V2 (XH b (vv 3) (vv 1)) (WP (b8 (WL b) (ZM (neg:=bb)) (vv 2) (vo 0) (by with_unfolding_all rfl)))))),cW⟩))) (cF (bX (cK cO))))),(vv 2)⟩))
   (cU (ZA Bo Bp aR YG (pv 5) (cK (cX (bW (OU T) e (cS (vv 0) (bO (pv 1) (cS (vv 6) cN)))) cO)))
   (cR (ZA Nx Ny kO k7 (pv 4) (cK (cX (Z0 a (vo 5) (SW cW)) cO))))))) (cR (B8 (pv 5)))))
def sP:Y2 P w K mg base "_law_renamed" 1 Qx33 [] bR 272:=
 SM P base Nx33 Qx33 0 aG [] T T.p_x33 λc e b a=>by
  exact(cU (bN (XH b (Z0 a (vv 0) cW) cD)
   (cR (cG (vv 0)))
   cC) (cU (bG c.nd (aF (cP (N0 (b8 (WL b) (ZM (neg:=bb)) (Z0 a (vv 0) cW) (b5 (cX cD (cX cD (cX cD (cX cD cO))))) (by with_unfolding_all rfl)) cW cW)))) (cR (cG (aM Y5 Z4 (UX rfl (vv 0) UY (UZ (vv 2))) (TQ YK YJ (by rfl) T.n_tuple aC (cF (bB ["_law_names_here","_law_name"] [1] 1 (ZR rfl (cP (UX rfl (vv 0) (UZ (vv 2)) UY))) (λd _ _ _ _=>⟨(cH d),ZG,(cP (Z0 a (vv 0) (vv 1)))⟩)))))))))
def iW:Y2 P w K mg base "_law_block" 8 Qx25 [1] Y0 230:=
 SM P base Nx25 Qx25 7 VA [1] T T.p_x25 λb a e c=>by
  exact(cU (bG b.nd (aF (cP (bW (OU T) a (cS (vv 0) (bO (pv 1) (cS (cF (bX (cK (cX cW (cX cW (cX cW (cX cW cO))))))) cN))))))) (cU (bG b.nd (aF (cP (bW (OU T) a (cS (vv 0) (bO (pv 1) (cS (cF (bX (cK (cX cW (cX (vv 3) (cX (vv 3) (cX (bW (YM T) a (cS (vv 0) (bO (pv 1) (cS (cP (aM Y5 Z4 (vv 3) cW)) cN)))) cO))))))) cN))))))) (cU (bG b.nd (aF (cP (b5 (cX (vv 4) (cX (bW (pI T) a (cS (vv 0) (bO (pv 1) (cS (cP (bW (YM T) a (cS (vv 0) (bO (pv 1) (cS (cP (aM Y5 Z4 (vv 2) cW)) cN))))) (cS (vv 3) cN))))) cO)))))) (cU (bN (b8 MA DW (bW (YM T) a (cS (vv 0) (bO (pv 1) (cS cW cN)))) cW)
   (cR (cG (vv 5)))
   cC) (cU (bG b.nd (aF (cP (bW (qr T) a (cS (vv 0) (bO (pv 1) (cS (vv 5) cN))))))) (cU (bG b.nd (aF (cF (oR rfl rfl (by rfl) T.n_dict qP (cF (bB ["_law_number","_law_row_here"] [] 2 (IE rfl (by rfl) T.n_enumerate (vv 6)) (λd _ _ _ _=>⟨(V1 (K:=K) rfl rfl (bF (cH d) (bF (cH d) X4))),ZG,(cP (b5 (cX (vv 1) (cX (vv 0) cO))))⟩))))))) (cR (cG (b5 (cX (vv 4) (cX (TQ YK YJ (by rfl) T.n_tuple aC (cF (bB ["_law_block_here","_law_names_here","_law_row_here"] [5,7] 1 (ZR rfl (vv 6)) (λd _ _ _ _=>⟨(cH d),ZG,(cP (bW (sP T) a (cS (cP (Z0 c (Z0 c (vv 0) cW) (vv 2))) (cS (vv 1) cN))))⟩)))) cO)))))))))))
def gU:Y2 P w K mg base "_law_is_pack" 2 Qx29 [] ZN 252:=
 SM P base Nx29 Qx29 1 W6 [] T T.p_x29 λd e c a=>by
  exact(cU (bG d.nd (aF (cF (bB ["_law_block_here","_law_one"] [0] 1 (ZR rfl (vv 2)) (λb _ _ _ _=>⟨(cH b),ZG,(cP (Z0 a (Z0 a (vv 0) cW) (vv 1)))⟩))))) (cU (bN (VN (V3 (b8 (UA c) UF (YS T.n_len (vv 2)) (vv 1)) (V3 (b8 (UA c) UF (IH T.n_len T.n_set (cF (bB ["_law_row_here"] [] 1 (ZR rfl (vv 3)) (λb _ _ _ _=>⟨(cH b),ZG,(cP (Z0 a (vv 0) cW))⟩)))) cW) (XI (XH c (Z0 a (Z0 a (vv 3) cW) cW) cD)))))
   (cR (cG ZI))
   cC) (cU (bN (b8 (WL c) (ZM (neg:=bb)) (Z0 a (Z0 a (vv 3) cW) cW) (b5 (cX cD (cX cD (cX cD (cX cD cO))))) (by with_unfolding_all rfl))
   (cR (bN (b8 (UA c) UF (cF (bB ["_law_row_here"] [] 1 (ZR rfl (vv 3)) (λb _ _ _ _=>⟨(cH b),ZG,(cP (Z0 a (vv 0) cW))⟩))) (cF (bB ["_law_rows_here","_law_k"] [3] 1 (ZX (by rfl) T.n_range (vv 1)) (λb _ _ _ _=>⟨(cH b),ZG,(cP (aM Y5 Z4 (Z0 a (Z0 a (vv 0) cW) cW) (vv 1)))⟩))))
   (cR (cG ZI))
   cC))
   cC) (cR (cG (veq c (cF (bB ["_law_some","_law_row_here"] [2] 1 (ZR rfl (vv 3)) (λb _ _ _ _=>⟨(cH b),(XG (b8 (UA c) UF (cF (bB ["_law_some","_law_name"] [0] 1 (ZR rfl (cP (bW (Zu T) e (cS (vv 1) cN)))) (λb _ _ _ _=>⟨(cH b),(XG (b8 (WL c) (ZM (neg:=bb)) (vv 1) (vv 0) (by with_unfolding_all rfl))),(vv 1)⟩))) (cF (bX (cK cO))))),(vv 1)⟩))) (cF (bX (cK cO)))))))))
def lc:Y2 P w K mg base "_law_order" 3 Qx30 [] X8 257:=
 SM P base Nx30 Qx30 2 R7 [] T T.p_x30 λd e b a=>by
  exact(cU (CA (i:=2) (j:=3) (k:=4) rfl rfl d.nd rfl rfl rfl (by decide) (by decide) (by decide) (Ju rfl) (Ju rfl) (Lk rfl) (X5 GA) (X5 (bX (cK cO))) (X5 (bX (cK cO)))) (cU (WX Df rfl (ZX (by rfl) T.n_range (YS T.n_len (Z0 a (vv 0) cW))) (cH d.nd)
   (cU (GC bb d.nd ["_law_row_here","_law_one"] [5] 1 (ZR rfl (vv 1)) (λc _ _ _ _=>⟨(cH c),(XG (b8 (WL b) (ZM (neg:=bb)) (vv 0) (vv 1) (by with_unfolding_all rfl))),(vv 1)⟩))
   (cR (II a (pv 2) (vv 5) (cP (N0 (b8 (UA b) UF (vv 6) (cF (bX (cK cO)))) (Z0 a (vv 6) cW) (b5 (cX (vv 5) cO)))) rfl)))) (cU (bG d.nd (X5 (mx T.n_sorted T.n_set b (cF (bB ["_law_home","_law_row_here"] [2] 1 (ZX (by rfl) T.n_range (YS T.n_len (Z0 a (vv 0) cW))) (λc _ _ _ _=>⟨(cH c),ZG,(cP (Z0 a (vo 0) (vv 1)))⟩)))))) (cU (bG d.nd (aF (cF (nF T.n_sorted T.n_set b (cF (bB ["_law_home","_law_one","_law_two"] [2] 2 (ZR rfl (cP (bW (eN T) e (cS (vv 0) cN)))) (λc _ _ _ _=>⟨(V1 (K:=K) rfl rfl (bF (cH c) (bF (cH c) X4))),(XG (b8 (UA b) UF (Z0 a (vo 0) (vv 1)) (Z0 a (vo 0) (vv 2)))),(cP (b5 (cX (Z0 a (vo 0) (vv 2)) (cX (Z0 a (vo 0) (vv 1)) cO))))⟩))))))) (cU (MP Df (b8 (UA b) UF (vo 3) (cF (bX (cK cO))))
   (cU (MO bb d.nd ["_law_left","_law_waits","_law_node"] [3,7] 1 (IF rfl (vo 3)) (λc _ _ _ _=>⟨(cH c),(XG (XH b (cF (bB ["_law_left","_law_node","_law_later","_law_first"] [0,2] 2 (ZR rfl (vv 1)) (λc _ _ _ _=>⟨(V1 (K:=K) rfl rfl (bF (cH c) (bF (cH c) X4))),(XG (VN (V2 (XH b (vv 2) (vv 1)) (WP (b8 (WL b) (ZM (neg:=bb)) (vv 3) (vo 0) (by with_unfolding_all rfl)))))),cW⟩))) (cF (bX (cK cO))))),(vv 2)⟩))
   (cU (bN (XH b (vv 8) (cF (bX (cK cO))))
   (cR (cG SX))
   cC)
   (cU (ZA Bo Bp aR YG (pv 4) (cK (cX (Z0 a (vv 8) cW) cO)))
   (cR (ZA Nx Ny (sO b) (lV rfl) (pv 3) (cK (cX (Z0 a (vv 8) cW) cO)))))))) (cR (B8 (pv 4))))))))
def li:Y2 P w K mg base "_law_plan" 4 Qx31 [1] VO 262:=
 SM P base Nx31 Qx31 3 QR [1] T T.p_x31 λc d b a=>by
  exact(cU (NB (i:=4) (j:=5) rfl c.nd rfl rfl (by decide) rfl rfl (X5 (bX (cK cO))) (aF (cP (YS T.n_len (Z0 a (vv 2) cW)))) rfl) (cU (WX Df rfl (ZX (by rfl) T.n_range (bW (YM T) d (cS (vv 0) (bO (pv 1) (cS cW cN))))) (cH c.nd)
   (cU (bG c.nd (X5 (rN (b8 MA DW (vv 5) cW) (bX (cK (cX (bW (YM T) d (cS (vv 0) (bO (pv 1) (cS (vv 5) cN)))) cO))) (bX (cK cO)))))
   (cU (WX Df rfl (ZX (by rfl) T.n_range (vv 5)) (cH c.nd)
   (cU (MO bb c.nd ["_law_row_here","_law_pack"] [8] 1 (IF rfl (vo 4)) (λe _ _ _ _=>⟨(cH e),(XG (b8 (WL b) (ZM (neg:=bb)) (vv 0) (vv 1) (by with_unfolding_all rfl))),(vv 1)⟩))
   (cR (bN (VN (V2 (b8 (UA b) UF (vo 7) (cF (bX (cK cO)))) (V2 (b8 MA DW (vv 8) (Z0 a (vo 7) (SW cW))) (V2 (b8 FD s_lt (YS T.n_len (vo 7)) (vv 3)) (WP (XH b (vv 9) (cF (bX (cK cO)))))))))
   (cR (bN (VN (V2 (ZH (bW (gU T) d (cS (vv 2) (cS (cP (aM Y5 Z4 (YS T.n_len (vo 7)) cW)) (cS (cP (aM Y5 Z4 (TQ YK YJ (by rfl) T.n_tuple aC (vo 7)) (b5 (cX (vv 8) cO)))) cN))))) (WP (b8 MA DW (bW (YM T) d (cS (vv 0) (bO (pv 1) (cS cW cN)))) cW))))
   (cR (ZA Bo Bp aR YG (pv 7) (cK (cX (vv 8) cO))))
   cC))
   cC))))
   (cR (bN (VN (V2 (XH b (YS T.n_len (vo 7)) (vv 3)) (WP (XH b (cF (pW ["_law_some","_law_pack"] [7] 1 (IF rfl (vo 4)) (λe _ _ _ _=>⟨(cH e),(XG (b8 (WL b) (ZM (neg:=bb)) (Z0 a (vo 0) cW) (vv 1) (by with_unfolding_all rfl))),(vv 1)⟩))) (cF (bX (cK cO)))))))
   (cR (bN (b8 jv p7 (bW (lc T) d (cS (vv 2) (cS (cP (aM Y5 Z4 (vo 4) (cF (bX (cK (cX (TQ YK YJ (by rfl) T.n_tuple aC (vo 7)) cO)))))) cN))) SX)
   (cR (ZA Bo Bp aR YG (pv 4) (cK (cX (TQ YK YJ (by rfl) T.n_tuple aC (vo 7)) cO))))
   cC))
   cC))))) (cR (cG (TQ YK YJ (by rfl) T.n_tuple aC (cF (F8 LU PP (by rfl) T.n_sorted UI (KI (vo 4)))))))))
def eJ:Y2 P w K mg base "_law_good" 3 Qx34 [] X9 279:=
 SM P base Nx34 Qx34 2 QO [] T T.p_x34 λb d a c=>by
  exact(cU (bG b.nd (X5 (bX (cK cO)))) (cU (WX Df rfl (ZR rfl (vv 2)) (cH b.nd)
   (cU (ZA PySem.F.slot_list_extend PySem.F.type_list_extend (jA (K:=K) rfl) mW (pv 3) (cK (cX (cF (N3 SG Y9 (by rfl) T.Y9 WI (vv 4))) cO)))
   (cR (bN (VN (V3 (b8 (UA a) UF (cF (N3 SG Y9 (by rfl) T.Y9 WI (vv 4))) (cF (KJ T.n_sorted T.n_set a (vv 4)))) (XI (YT (ZH (bW (gU T) d (cS (vv 0) (cS (vv 1) (cS (vv 4) cN)))))))))
   (cR (cG ZI))
   cC)))) (cR (cG (WW (veq a (cF (N3 SG Y9 (by rfl) T.Y9 WI (vv 2))) (cF (F8 LU PP (by rfl) T.n_sorted UI (vv 2)))) (V0 (veq a (IH T.n_len T.n_set (vo 3)) (YS T.n_len (vo 3)))))))))
def nU{f:Ws}{g:Hx}(F:Fun K "law" "law" (top 54) f g):N5 P w K mg base CX0 9 f g Qx35 (spV K [] 1 IM):=
 okWg P w K mg base Nx35 Qx35 8 Yi [] F mkSc λc a d b=>by
  refine cU ?_ ?_;exact(bG c.nd (X5 (bX (cK cO))));refine cU ?_ ?_;exact(l8 (i:=2) (j:=3) rfl rfl c.nd rfl rfl (by decide) (Ju rfl) (Lk rfl) (aF (cP (bW (iW T) a (cS (vv 0) (bO (pv 1) (cS cW cN)))))) (aF (cP (aM Y5 Z4 cW (bW (YM T) a (cS (vv 0) (bO (pv 1) (cS cW cN))))))));refine cU ?_ ?_;exact(NB (i:=4) (j:=5) rfl c.nd rfl rfl (by decide) rfl rfl (aF (cP (YS T.n_len (Z0 b (vv 2) cW)))) (aF (cP (b5 cO))) rfl);refine cU ?_ ?_;exact(bG c.nd (aF (cP (bW (li T) a (cS (vv 0) (bO (pv 1) (cS (vv 2) (cS (vv 3) cN))))))));refine cU ?_ ?_;exact(bN (VN (V3 (b8 HL DX (bW (IL T) a (cS (vv 2) (cS (vv 3) (cS (vv 5) cN)))) ZI) (XI (YT (ZH (bW (eJ T) a (cS (vv 2) (cS (vv 3) (cS (vv 5) cN)))))))))
  (cR (cG ZI))
  cC)
  refine cU ?_ ?_;exact (WX Df rfl (ZX (by rfl) T.n_range cW) (cH c.nd)
  (cR (bN (b8 MA DW (vv 4) cW)
  (cU (bG c.nd (aF (cP (Z0 b (Z0 b (Z0 b (vv 2) cW) (bW (YM T) a (cS (vv 0) (bO (pv 1) (cS (vv 4) cN))))) cW))))
  (cU (bG c.nd (aF (cF (bB ["_law_block_here","_law_deed","_law_row_here"] [2,7] 1 (ZX (by rfl) T.n_range (vv 4)) (λe _ _ _ _=>⟨(cH e),(XG (XH d (Z0 b (Z0 b (Z0 b (vv 0) cW) (vv 2)) cW) (vv 1))),(vv 2)⟩)))))
  (cU (bG c.nd (aF (cF (bX (cK (cX (TQ YK YJ (by rfl) T.n_tuple aC (UX rfl (cF (KJ T.n_sorted T.n_set d (cF (bB ["_law_script","_law_town","_law_alike","_law_k"] [0,1,8] 1 (ZX (by rfl) T.n_range (aM Y5 Z4 (vv 3) cW)) (λe _ _ _ _=>⟨(cH e),ZG,(cP (bW (OU T) a (cS (vv 0) (bO (pv 1) (cS (vv 2) cN)))))⟩))))) UY (UZ (vv 3)))) cO))))))
  (cU (bG c.nd (X5 (lg rfl (cF (N3 SG Y9 (by rfl) T.Y9 WI (vv 5))) (KI (N0 (XH d (bW (YM T) a (cS (vv 0) (bO (pv 1) (cS cW cN)))) cW) (vv 9) (cF (bX (cK cO))))))))
  (cU (bN (VN (V2 (b8 (UA d) UF (vo 10) (cF (bX (cK cO)))) (WP (XH d (bW (YM T) a (cS (vv 0) (bO (pv 1) (cS cW cN)))) cW))))
  (cU (NB (i:=11) (j:=12) rfl c.nd rfl rfl (by decide) rfl rfl (aF (cP (bW (YM T) a (cS (vv 0) (bO (pv 1) (cS (cP (YS T.n_len (vo 10))) cN)))))) (aF (cP (bW (YM T) a (cS (vv 0) (bO (pv 1) (cS (vv 3) cN)))))) rfl)
  (cR (k5 rfl (pv 10) (vv 11) (cP (aM Y5 Z4 (aM Y5 Z4 (UX rfl (Z0 b (vo 10) (vv 11)) UY (UZ (vv 12))) (b5 (cX (bW (YM T) a (cS (vv 0) (bO (pv 1) (cS (vv 4) cN)))) cO))) (UX rfl (Z0 b (vo 10) (vv 11)) (UZ (aM Y5 Z4 (vv 12) cW)) UY))))))
  cC)
  (cU (bN (b8 MA DW (bW (YM T) a (cS (vv 0) (bO (pv 1) (cS cW cN)))) cW)
  (cR (bG c.nd (X5 (F8 LU PP (by rfl) T.n_sorted UI (KI (vo 10))))))
  cC)
  (cR (bN (YT (ZH (bW (m8 T) a (cS (cP (bW (IL T) a (cS (vv 2) (cS (vv 3) (cS (cP (TQ YK YJ (by rfl) T.n_tuple aC (vo 10))) cN))))) (cS (cP (bW (eJ T) a (cS (vv 2) (cS (vv 3) (cS (cP (TQ YK YJ (by rfl) T.n_tuple aC (vo 10))) cN))))) cN)))))
  (cR (cG ZI))
  cC))))))))
  cC)))
  refine cU ?_ ?_;exact (WX Df rfl (ZX (by rfl) T.n_range (vv 4)) (cH c.nd)
  (cR (bN (b8 HL DX (bW (IL T) a (cS (vv 2) (cS cW (cS (cP (b5 (cX (b5 (cX (vv 13) (cX (vv 13) cO))) cO))) cN)))) ZI)
  (cR (cG ZI))
  cC)))
  refine cU ?_ ?_;exact(bN (VN (V2 (b8 (UA d) UF (vv 5) (b5 cO)) (WP (b8 HL DX (bW (IL T) a (cS (vv 2) (cS (vv 3) (cS (cP (aM Y5 Z4 (vv 5) (UX rfl (vv 5) (UZ (SW cW)) UY))) cN)))) ZI))))
  (cR (cG ZI))
  cC)
  refine cU ?_ ?_;exact(@bG _ _ _ _ _ _ _ _ _ c.nd (@aF _ _ _ _ _ _ (@cF _ _ _ _ _ _ (@bX _ _ _ _ _ _ _ (@cK _ _ _ _ _ _ _ (@cX _ _ _ _ _ _ _ _ _ _ _ _ SX (@cX _ _ _ _ _ _ _ _ _ _ _ _ cW (@cX _ _ _ _ _ _ _ _ _ _ _ _ (@aM _ _ _ _ _ _ _ _ _ _ _ _ _ _ _ _ _ Y5 Z4 (@cF _ _ _ _ _ _ (@N3 _ _ _ _ _ _ _ _ _ _ _ _ _ SG Y9 (by rfl) T.Y9 WI (@vv _ _ _ _ _ 5 rfl (by first|exact Lk rfl|exact Ju (Lk rfl)|exact Ju (Ju rfl)) (by decide) (by decide)) (by decide) (by decide) rfl)) (@cF _ _ _ _ _ _ (@bX _ _ _ _ _ _ _ (@cK _ _ _ _ _ _ _ (@cX _ _ _ _ _ _ _ _ _ _ _ _ cW cO rfl rfl rfl) rfl))) rfl) (@cX _ _ _ _ _ _ _ _ _ _ _ _ (@cF _ _ _ _ _ _ (@bX _ _ _ _ _ _ _ (@cK _ _ _ _ _ _ _ (@cX _ _ _ _ _ _ _ _ _ _ _ _ (@b5 _ _ _ _ _ _ _ _ _ cO) cO rfl rfl rfl) rfl))) (@cX _ _ _ _ _ _ _ _ _ _ _ _ cD (@cX _ _ _ _ _ _ _ _ _ _ _ _ (@b5 _ _ _ _ _ _ _ _ _ (@cX _ _ _ _ _ _ _ _ _ _ _ _ (@b5 _ _ _ _ _ _ _ _ _ cO) cO rfl rfl rfl)) (@cX _ _ _ _ _ _ _ _ _ _ _ _ (@b5 _ _ _ _ _ _ _ _ _ (@cX _ _ _ _ _ _ _ _ _ _ _ _ (@b5 _ _ _ _ _ _ _ _ _ (@cX _ _ _ _ _ _ _ _ _ _ _ _ cW cO rfl rfl rfl)) cO rfl rfl rfl)) (@cX _ _ _ _ _ _ _ _ _ _ _ _ (@b5 _ _ _ _ _ _ _ _ _ (@cX _ _ _ _ _ _ _ _ _ _ _ _ (@b5 _ _ _ _ _ _ _ _ _ (@cX _ _ _ _ _ _ _ _ _ _ _ _ cD (@cX _ _ _ _ _ _ _ _ _ _ _ _ cD cO rfl rfl rfl) rfl rfl rfl)) cO rfl rfl rfl)) (@cX _ _ _ _ _ _ _ _ _ _ _ _ (@b5 _ _ _ _ _ _ _ _ _ (@cX _ _ _ _ _ _ _ _ _ _ _ _ (@b5 _ _ _ _ _ _ _ _ _ (@cX _ _ _ _ _ _ _ _ _ _ _ _ cW (@cX _ _ _ _ _ _ _ _ _ _ _ _ SX cO rfl rfl rfl) rfl rfl rfl)) cO rfl rfl rfl)) (@cX _ _ _ _ _ _ _ _ _ _ _ _ (@b5 _ _ _ _ _ _ _ _ _ (@cX _ _ _ _ _ _ _ _ _ _ _ _ (@b5 _ _ _ _ _ _ _ _ _ (@cX _ _ _ _ _ _ _ _ _ _ _ _ cW (@cX _ _ _ _ _ _ _ _ _ _ _ _ (@vv _ _ _ _ _ 4 rfl (by first|exact Lk rfl|exact Ju (Lk rfl)|exact Ju (Ju rfl)) (by decide) (by decide)) cO rfl rfl rfl) rfl rfl rfl)) cO rfl rfl rfl)) (@cX _ _ _ _ _ _ _ _ _ _ _ _ (@b5 _ _ _ _ _ _ _ _ _ (@cX _ _ _ _ _ _ _ _ _ _ _ _ cW (@cX _ _ _ _ _ _ _ _ _ _ _ _ cW cO rfl rfl rfl) rfl rfl rfl)) cO rfl rfl rfl) rfl rfl rfl) rfl rfl rfl) rfl rfl rfl) rfl rfl rfl) rfl rfl rfl) rfl rfl rfl) rfl rfl rfl) rfl rfl rfl) rfl rfl rfl) rfl rfl rfl) rfl)))) rfl (by first|exact .inl rfl|exact .inr rfl) (by decide) rfl (by first|exact .inl rfl|exact .inr rfl|assumption));exact cR (cG (WW (X3 Yu Zj (bW (IL T) a (cS (vv 2) (cS (vv 3) (cS (cP (b5 cO)) cN)))) ZI) (V0 (X3 Yu Zj (bW (IL T) a (cS (vv 2) (cS cW (cS (cP (bW (OU T) a (cS (vv 0) (bO (pv 1) (cS (vv 14) cN))))) cN)))) ZI))))
end
end RR
namespace L2
open PySem
section
variable{ds es:List cY}{neg:Bool}{ns as made order:List Int}{room xf:Int}{δ xk xl:Ev}{xg:List Kd}{M:Int->Prop}{sn:cY}{ps:List (Int×Int)}
def ZZ(a b:String):Ay a=Ay b↔a=b:=by
 refine⟨λh=>?_,λh=>by rw[h]⟩;rw[Kf,Kf]at h;injection h with h;have g:a.toList.map Sz=b.toList.map Sz:=by simpa using h
 have f:a.toList=b.toList:=by
  have inj:∀(l m:List Char),l.map Sz=m.map Sz->l=m:=by
   intro l;induction l with
   |nil=>intro m h;cases m with
    |nil=>rfl
    |cons=>cases h
   | cons c l d => intro m h;cases m with
    |nil=>cases h
    |cons e m=>
     simp only[Av,Hf]at h;rw[d m h.2,Char.toNat_inj.mp h.1]
  exact inj _ _ g
 exact String.toList_inj.mp f
def np(a:String):Wg (Ay a)=ba:=by
 unfold Wg;rw[Kf];simp only[List.all_toArray,Wc,Eo,Op,decide_eq_true_eq];intro c _;have:=c.valid;rcases this with h|⟨_,h⟩;show c.val.toNat<1114112;have:c.val.toNat<55296:=h
 lia;exact h
def OM(k:Nat)(d:cY):Prop:=d.isD=ba/\d.pd.canLay0=ba/\d.pd.depth<=k
def ZV{k:Nat}{i:Int}:OM k (.int i):=⟨rfl,rfl,Ch _⟩
def fI{k:Nat}{i:Bool}:OM k (.bl i):=⟨rfl,rfl,Ch _⟩
def YZ{k:Nat}{a:String}:OM k (.str (Ay a)):=⟨rfl,by simp[cY.pd,Hq,np],Ch _⟩
theorem HK{k:Nat}:∀{ds:List cY},(∀d∈ds,OM k d)->ER ds=ba/\Kl (pds ds)=ba/\Ga (pds ds)<=k
 |[],_=>⟨rfl,rfl,Ch _⟩
 |d::ds,h=>by obtain⟨g,f,j⟩:=h d Ag;obtain⟨c,b,i⟩:=HK λe a=>h e (Ai _ a);refine⟨by simp[ER,g,c],by simp[pds,Kl,f,b],?_⟩;simp only[pds,Ga];lia
def VJ{k:Nat}(h:∀d∈ds,OM k d):OM (k+1) (.tup ds):=by obtain⟨a,b,c⟩:=HK h;exact⟨by simpa[cY.isD]using a,by simpa[cY.pd,Hq]using b,by simp only[cY.pd,Lb];lia⟩
def bY{k:Nat}(h:∀d∈ds,OM k d):OM (k+1) (.lst ds):=by obtain⟨a,b,c⟩:=HK h;exact⟨by simpa[cY.isD]using a,by simpa[cY.pd,Hq]using b,by simp only[cY.pd,Lb];lia⟩
def OM.ok{k:Nat}{d:cY}(h:OM k d)(a:k<=64:=by decide):GL d=ba:=by
 unfold GL Fp;simp only[h.1,h.2.1,Ls,Ah,decide_eq_true_eq];have:=h.2.2;lia
@[simp] theorem uN{a:String}:GL (.str (Ay a))=ba:=(YZ (k:=0)).ok
def aL{k:Nat}:∀d∈([]:List cY),OM k d:=λ_ h=>nomatch h
def Z7{k:Nat}{d:cY}(h:OM k d)(t:∀d∈ds,OM k d):∀e∈d::ds,OM k e:=λe a=>by
 rcases Ak.mp a with z|z;rw[z];exact h;exact t e z
@[simp] theorem C1{i j:Int}:NF (.int i) (.int j)=decide (i=j):=by show(i==j)=_;rw[Qj]
@[simp] theorem uo{a b:String}:NF (.str (Ay a)) (.str (Ay b))=decide (a=b):=by show(Ay a==Ay b)=_;rw[Qj];simp only[ZZ]
@[simp] theorem DD{i j:Int}:ZF (.int i) (.int j)=b0 (.bl (decide (i=j))):=by unfold ZF;simp
@[simp] theorem w6{i j:Int}:XE (.int i) (.int j)=b0 (.bl (!decide (i=j))):=by unfold XE;simp
@[simp] theorem wg{a b:String}:ZF (.str (Ay a)) (.str (Ay b))=b0 (.bl (decide (a=b))):=by unfold ZF;simp
@[simp] theorem xc{a b:String}:XE (.str (Ay a)) (.str (Ay b))=b0 (.bl (!decide (a=b))):=by unfold XE;simp
def L5{j k:Nat}{d e:cY}(h:OM j d)(h':OM k e)(b:j<=64:=by decide)(a:k<=64:=by decide):ZF d e=b0 (.bl (NF d e)):=by unfold ZF;rw[h.ok b,h'.ok a];rfl
def UQ{j k:Nat}{d e:cY}(h:OM j d)(h':OM k e)(b:j<=64:=by decide)(a:k<=64:=by decide):XE d e=b0 (.bl (!NF d e)):=by unfold XE;rw[h.ok b,h'.ok a];rfl
def NV{j k:Nat}{d:cY}(h:OM j d)(h':∀e∈ds,OM k e)(b:j<=64:=by decide)(a:k+1<=64:=by decide):bI neg d (.tup ds)=b0 (.bl (if neg then !SZ d ds else SZ d ds)):=by unfold bI;simp[h.ok b,(VJ h').ok a]
def L6{j k:Nat}{d:cY}(h:OM j d)(h':∀e∈ds,OM k e)(b:j<=64:=by decide)(a:k+1<=64:=by decide):bI neg d (.lst ds)=b0 (.bl (if neg then !SZ d ds else SZ d ds)):=by unfold bI;simp[h.ok b,(bY h').ok a]
@[simp] theorem tW{d:cY}:SZ d []=bb:=(rfl)
@[simp] theorem Yk{d e:cY}:SZ d (e::ds)=(NF e d || SZ d ds):=(rfl)
@[simp] theorem Xo{a b c:String}:bI neg (.str (Ay a)) (.tup [.str (Ay b),.str (Ay c)])=b0 (.bl (if neg then !(decide (b=a) || decide (c=a))else decide (b=a) || decide (c=a))):=by rw[NV (j:=0) YZ (Z7 (YZ (k:=0)) (Z7 YZ aL))];simp
@[simp] theorem Yo{a b c d e:String}:bI neg (.str (Ay a)) (.tup [.str (Ay b),.str (Ay c),.str (Ay d),.str (Ay e)])=b0 (.bl (if neg then !(decide (b=a) || (decide (c=a) || (decide (d=a) || decide (e=a))))else decide (b=a) || (decide (c=a) || (decide (d=a) || decide (e=a))))):=by rw[NV (j:=0) YZ (Z7 (YZ (k:=0)) (Z7 YZ (Z7 YZ (Z7 YZ aL))))];simp
@[simp] theorem wO{a b c:Int}:bI neg (.int a) (.tup [.int b,.int c])=b0 (.bl (if neg then !(decide (b=a) || decide (c=a))else decide (b=a) || decide (c=a))):=by rw[NV (j:=0) ZV (Z7 (ZV (k:=0)) (Z7 ZV aL))];simp
def WY(ns:List Int):cY:=.lst (ns.map .int)
def X6(n:Nat):cY:=.lst (Cb n (.int 0))
theorem JQ:∀ns:List Int,ER (ns.map cY.int)=ba
 |[]=>rfl
 |n::ns=>by simp[ER,cY.isD,JQ ns]
theorem FF:∀ns:List Int,pds (ns.map cY.int)=ns.map Sm
 |[]=>rfl
 |n::ns=>by simp[pds,cY.pd,FF ns]
def lD(ns:List Int):GL (.lst (ns.map .int))=ba:=by unfold GL;simp only[cY.isD,JQ,cY.pd,FF,Ls];exact FX ns
def QH(ns:List Int):ZF (.lst (ns.map .int)) (.lst [])=b0 (.bl ns.isEmpty):=by unfold ZF;rw[lD,show GL (.lst [])=ba from by decide+kernel];cases ns<;>rfl
theorem JN:∀n:Nat,TJ (Cb n (.int 0))=ba
 |0=>rfl
 |n+1=>by simp[List.replicate_succ,TJ,cY.hard,JN n]
@[simp] theorem tN(n:Nat):SI (X6 n)=ba:=JN n
theorem JF:∀(ds:List cY) (a b:cY) (r:Int) (s:Sl),∃e c,XQ (gN 3) (aU 2 (xV (f2 AY (fV 2) (fC (.int 1000003))))) ds [.va a,.va b,.va (.int r),s]=b0 (.nx [.va a,.va b,.va (.int e),c])
 |[],a,b,r,s=>⟨r,s,rfl⟩
 |d::ds,a,b,r,s=>by obtain⟨e,c,h⟩:=JF ds a b (r/1000003) (.va d);exact⟨e,c,by simp[cDiv,h]⟩
def M0{i:Int}(d:0<=i)(c:i<ns.length):∃r∈ns,U8 (ns.map cY.int) i=b0 (.int r):=by obtain⟨x,a,e⟩:=CN (xs:=ns.map cY.int) d (by simpa using c);obtain⟨r,b,rfl⟩:=Aw.mp a;exact⟨r,b,e⟩
def sA(ns:List Int)(k:Nat)(hl:ns.length<=63)(u:k<1000000):∃r,ZB [WY ns,.int k]=b0 (.int r,[]):=by
 unfold ZB;rw[bZ];unfold U3 TH WY;by_cases h:(k:Int)<ns.length;obtain ⟨r,_,e⟩ := M0 (ns := ns) (i := k) (by lia) h;exact⟨r,by simp[bU,h,e]⟩
 ·cases ns with
  |nil=>
   have p:¬((k:Int)<0):=by lia
   have e:ZF (.lst []) (.lst [])=b0 (.bl ba):=QH [];exact⟨0,by simp[bU,p,e]⟩
  |cons m j=>
   generalize a:m::j=ns at*;have f:(0:Int)<ns.length:=by rw[<-a];simp
   have o:=Ii (k:Int) (show(ns.length:Int)≠0 by lia);have d:=Cf (k:Int) f;obtain⟨r,_,e⟩:=M0 (ns:=ns) o d;have n:ns.isEmpty=bb:=by rw[<-a];rfl
   have t:0<=(k:Int)/ns.length:=Int.ediv_nonneg (by lia) (by lia);have l: -4611686018427387904<=(if(60:Int)<(k:Int)/ns.length then 60 else(k:Int)/ns.length)/\(if(60:Int)<(k:Int)/ns.length then 60 else(k:Int)/ns.length)<4611686018427387904:=by split<;>lia
   obtain⟨g,s,q⟩:=JF (a7 0 (if(60:Int)<(k:Int)/ns.length then 60 else(k:Int)/ns.length).toNat) (.lst (ns.map .int)) (.int k) r .no;have c:0<ns.length:=by lia
   have b:(ns.length:Int)<1073741824:=by lia
   exact⟨r*31+k+g*101,by simp[bU,h,QH,n,f,c,b,e,cDiv,l,q,cMul]⟩
noncomputable def cel(ns:List Int)(k:Nat):Int:=match ZB [WY ns,.int k]with
 |some (.int r,_)=>r
 |_=>0
def pT(ns:List Int)(k:Nat)(hl:ns.length<=63)(a:k<1000000):ZB [WY ns,.int k]=b0 (.int (cel ns k),[]):=by obtain⟨r,e⟩:=sA ns k hl a;unfold cel;rw[e]
noncomputable def UG(ns:List Int)(n:Nat)(b:Int):Int:=((cel ns (n+1)*1103515245+7919*(((n+1:Nat)):Int)+12345) % 2147483647) ^ 5 % 2147483647 % 999983 % b
def U9(ns:List Int)(n:Nat){b:Int}(h:0<b):0<=UG ns n b:=Ii _ (by lia)
def Xl(ns:List Int)(n:Nat){b:Int}(h:0<b):UG ns n b<b:=Cf _ h
def nL(ns:List Int)(n:Nat)(b:Int)(hl:ns.length<=63)(f:n<900000)(d:0<b):U6 [WY ns,.int ((n+1:Nat):Int),.int b]=b0 (.int (UG ns n b),[]):=by
 have e:=pT ns (n+1) hl (by lia);unfold U6;rw[bZ];unfold R6 UG;have i:=Ii (cel ns (n+1)*1103515245+7919*((n+1:Nat):Int)+12345) (show(2147483647:Int)≠0 by decide);have h:=Cf (cel ns (n+1)*1103515245+7919*((n+1:Nat):Int)+12345) (show(0:Int)<2147483647 by decide);generalize c:(cel ns (n+1)*1103515245+7919*((n+1:Nat):Int)+12345) % 2147483647=z at*;have a:z.natAbs<18446744073709551616:=by lia
 generalize g:((n+1:Nat):Int)=k at*;simp[bU,e,cMul,cPow,c,a,d]
def aA(ns:List Int)(n:Nat)(b:Int)(hl:ns.length<=63)(f:n<900000)(g:0<b):cI [WY ns,X6 n,.int b]=b0 (.int (UG ns n b),[X6 (n+1)]):=by
 have e:=nL ns n b hl f g;unfold cI;rw[bZ];unfold QN;have c:X6 n=.lst (Cb n (.int 0)):=rfl;have a:X6 (n+1)=.lst (Cb n (.int 0)++[.int 0]):=by unfold X6;rw[List.replicate_succ']
 rw[a,c];have d:n<16777216:=by lia
 push_cast at e
 simp[bU,d,e]
def WO(ns:List Int)(n:Nat)(xs:List cY)(hl:ns.length<=63)(b:n<900000)(d:0<xs.length):∃x∈xs,aX [WY ns,X6 n,.lst xs]=b0 (x,[X6 (n+1)]):=by
 have a:(0:Int)<xs.length:=by lia
 obtain⟨x,c,e⟩:=CN (xs:=xs) (U9 ns n a) (Xl ns n a);refine⟨x,c,?_⟩;unfold aX;rw[bZ];unfold QQ;simp[bU,aA ns n _ hl b a,e]
def Xm(ns:List Int)(n:Nat)(b:Int)(hl:ns.length<=63)(c:n<900000)(d:0<b)(a:Ev):cM 3 [1] cI (aE (fV 0) (aO 1 (aE (fC (.int b)) cB))) (.va (WY ns):: .ow (X6 n)::a)=b0 (.int (UG ns n b),.va (WY ns):: .ow (X6 (n+1))::a):=by simp[aA ns n b hl c d]
abbrev Sn(m:Nat)(d:cY):Prop:=∃(a:List bH) (b:List Int),d=.dct a (b.map .int)/\a.length=b.length/\a.Nodup/\a.length<=m
abbrev K6(n:Nat)(d:cY):Prop:=Sn (8*n) d
def K6.mono{n m:Nat}{d:cY}(h:K6 n d)(g:n<=m):K6 m d:=by obtain⟨b,a,f,e,c,i⟩:=h;exact⟨b,a,f,e,c,by lia⟩
theorem Yp:∀(ks:List bH) (vs:List Int) (k:bH) (q:Int),∃r,(a6 ks (vs.map .int) k).getD (.int q)=.int r
 |[],_,_,q=>⟨q,by simp[a6]⟩
 |_::_,[],_,q=>⟨q,by simp[a6]⟩
 | k' :: ks,v :: vs,k,q => by
  by_cases h:k'=k;exact⟨v,by simp[a6,h]⟩;obtain⟨r,e⟩:=Yp ks vs k q;exact⟨r,by simp only[Av,a6,if_neg h];exact e⟩
theorem putI:∀(ks:List bH) (vs:List Int) (k:bH) (p:Int),ks.length=vs.length->ks.Nodup->∃(a:List bH) (b:List Int),Y6 ks (vs.map .int) k (.int p)=(a,b.map .int)/\a.length=b.length/\a.Nodup/\a.length<=ks.length+1/\(∀z∈a,z=k∨z∈ks)/\a6 a (b.map .int) k=b0 (.int p)
 |[],[],k,p,_,_=>⟨[k],[p],by simp[Y6],rfl,by simp,by simp,by simp,by simp[a6]⟩
 | k' :: ks,v :: vs,k,p,hl,c => by
  by_cases h:k'=k;subst h;exact⟨k'::ks,p::vs,by simp[Y6],by simpa using hl,c,by simp,by simp,by simp[a6]⟩;obtain ⟨a,b,e,j,i,l,d,g⟩ := putI ks vs k p (by simpa using hl) (Ct.mp c).2;refine⟨k'::a,v::b,by simp only[Av,Y6,if_neg h,e],by simp[j],?_,by simp;lia,?_,by simp only[Av,a6,if_neg h];exact g⟩;refine Ct.mpr ⟨λz => ?_,i⟩;rcases d _ z with y|y;exact h y;exact(Ct.mp c).1 y;intro z f;rcases Ak.mp f with y|y;exact .inr (by rw[y];exact Ag);exact(d z y).imp id (Ai _)
def FJ(ns:List Int)(n:Nat)(sn:cY)(x:Wy)(room:Int)(hl:ns.length<=63)(v:n<800000)(hs:K6 n sn)(i:0<room):∃p d,0<=p/\p<room/\K6 (n+2) d/\ZS [WY ns,X6 n,sn,.str x,.int room]=b0 (.int p,[X6 (n+2),d]):=by
 obtain⟨g,j,rfl,t,l,A⟩:=hs;obtain⟨a,o⟩:=Yp g j (.inr x) (UG ns n room);obtain⟨y,k,u⟩:=WO ns (n+1) [.int 1,.int 1,.int 1,.int 0,.int 3] hl (by lia) (by simp);obtain⟨b,rfl⟩:∃b,y=.int b:=by simp only[Ak,Br,or_false]at k;rcases k with h|h|h|h|h<;>exact⟨_,h⟩
 obtain⟨f,c,e,s,r,z,w,q⟩:=putI g j (.inr x) ((a+b) % room) t l;refine⟨(a+b) % room,.dct f (c.map .int),Ii _ (by lia),Cf _ i,⟨f,c,rfl,s,r,by lia⟩,?_⟩;have m:g.length<16777216:=by lia
 unfold ZS;rw[bZ];unfold SA;simp[bU,aA ns n room hl (by lia) i,o,u,i,m,l,e,q]
inductive Z6(M:Int->Prop):cY->Prop
 |number {n:Int}:0<=n->n<=999->Z6 M (.tup [.str "number",.int n])
 |two {x:String}{a b:Int}:x∈["over","plus","minus","times","least","most","less"]->M a->M b->Z6 M (.tup [.str x,.int a,.int b])
 |pick {c a b:Int}:M c->M a->M b->Z6 M (.tup [.str "pick",.int c,.int a,.int b])
 |load {p:Int}:0<=p->p<=63->Z6 M (.tup [.str "load",.int p])
 |take {p c a:Int}:0<=p->p<=63->M c->M a->Z6 M (.tup [.str "take",.int p,.int c,.int a])
 |store {p a:Int}:0<=p->p<=63->M a->Z6 M (.tup [.str "store",.int p,.int a])
 |put {p a c:Int}:0<=p->p<=63->M a->M c->Z6 M (.tup [.str "put",.int p,.int a,.int c])
def oU(ns:List Int)(n:Nat)(made:List Int)(hl:ns.length<=63)(l:n<800000)(o:0<made.length)(s:Sl):∃a b c,a∈made/\b∈made/\c∈made∧Z2 3 1 (gN 3) Y3 (f2 cJ (fV 2) (f2 oMax (fC (.int 0)) (f2 L8 (f2 L8 (f1 Z9 (fV 2)) (fC (.int 1))) (cM 3 [1] cI (aE (fV 0) (aO 1 (aE (fC (.int 6)) cB))))))) [.int 0,.int 1,.int 2] [] [.va (WY ns),.ow (X6 n),.va (.lst (made.map .int))]=b0 ([.int a,.int b,.int c],[.va (WY ns),.ow (X6 (n+3)),.va (.lst (made.map .int))]):=by
 have one:∀m,∃a∈made,U8 (made.map cY.int) (if(made.length:Int)-1-UG ns m 6>0 then(made.length:Int)-1-UG ns m 6 else 0)=b0 (.int a):=λm=>by
  have:=U9 ns m (b:=6) (by decide)
  exact M0 (by split<;>lia) (by split<;>lia)
 obtain⟨a,h,f⟩:=one n;obtain⟨b,g,e⟩:=one (n+1);obtain⟨c,hc,d⟩:=one (n+2);refine⟨a,b,c,h,g,hc,?_⟩;have k:=aA ns n 6 hl (by lia) (by decide);have j:=aA ns (n+1) 6 hl (by lia) (by decide);have i:=aA ns (n+2) 6 hl (by lia) (by decide);simp only[gt_iff_lt,Int.sub_pos]at f e d;simp[k,j,i,f,e,d]
def ED(x:String):Prop:=x= "load" ∨x= "take" ∨x= "store" ∨x= "put"
def PlOK(room:Int)(a:cY):Prop:=∀(x:String) (p:Int) (t:List cY),a=.tup (.str x:: .int p::t)->ED x->p<room
def PV{p:Int}{x:String}{t:List cY}(h:p<room):PlOK room (.tup (.str x:: .int p::t)):=λy q u e _=>by simp only[cY.tup.injEq,Hf,cY.int.injEq]at e;lia
def DL{x:String}{t:List cY}(h:¬ED x):PlOK room (.tup (.str x::t)):=λy q u e a=>by simp only[cY.tup.injEq,Hf,cY.str.injEq,ZZ]at e;rw[<-e.1]at a;exact absurd a h
def B4{x:String}(a:x∈["over","plus","minus","times","least","most","less"]):¬ED x:=λh=>by simp only[Ak,Br,or_false]at a;rcases a with rfl|rfl|rfl|rfl|rfl|rfl|rfl<;>rcases h with h|h|h|h<;>exact absurd h (by decide)
def aD{b a:VS}(h:b δ=b0 (.nx xk)):cE b a δ=a xk:=by rw[DU,h,qS_n]
def qQ(ns:List Int)(n:Nat)(made:List Int)(sn:cY)(room:Int)(hl:ns.length<=63)(hn:n<700000)(hs:K6 n sn)(L:0<room)(T:room<=64):∃k v d,n<=v/\v<=n+10/\K6 v d/\Z6 (· ∈made) k/\PlOK room k/\RD [WY ns,X6 n,.lst (made.map .int),sn,.int room]=b0 (k,[X6 v,d]):=by
  have t:=Xm ns n 13 hl (by lia) (by decide);have k0:=U9 ns n (b:=13) (by decide);have k1:=Xl ns n (b:=13) (by decide);generalize UG ns n 13=e at*;unfold RD;rw[bZ];unfold OG;by_cases N:made.isEmpty=ba∨e=0
  · have A := Xm ns (n + 1) 2 hl (by lia) (by decide)
    have m:made.isEmpty=ba∨(made.isEmpty=bb/\e=0):=by
      cases F:made.isEmpty with
      |true=>exact .inl rfl
      | false => rcases N with h | h
                 rw[F]at h;cases h;exact .inr ⟨rfl,h⟩
    by_cases z:UG ns (n+1) 2=0
    · have O := Xm ns (n + 2) 1000 hl (by lia) (by decide)
      obtain⟨y,w,r⟩:=WO ns (n+3) [.int 0,.int 1,.int 2,.int 5,.int 999,.int (UG ns (n+2) 1000)] hl (by lia) (by simp);obtain⟨b,rfl,I,H⟩:∃b,y=.int b/\0<=b/\b<=999:=by
        have:=U9 ns (n+2) (b:=1000) (by decide)
        have:=Xl ns (n+2) (b:=1000) (by decide)
        simp only[Ak,Br,or_false]at w;rcases w with h|h|h|h|h|h<;>exact⟨_,h,by lia,by lia⟩
      refine⟨.tup [.str "number",.int b],n+4,sn,by lia,by lia,hs.mono (by lia),.number I H,DL (by unfold ED;decide),?_⟩;rcases m with h|⟨h,J⟩;simp[bU,↓t,QH,h,↓A,z,↓O,r];simp[bU,↓t,QH,h,J,↓A,z,↓O,r]
    obtain ⟨p,d,j,i,f,g⟩ := FJ ns (n + 2) sn "load" room hl (by lia) (hs.mono (by lia)) L;refine⟨.tup [.str "load",.int p],n+4,d,by lia,by lia,f,.load j (by lia),PV i,?_⟩;rcases m with h|⟨h,J⟩;simp[bU,↓t,QH,h,↓A,z,g];simp[bU,↓t,QH,h,J,↓A,z,g]
  · obtain⟨F,G⟩:=not_or.mp N
    have o:made.isEmpty=bb:=by simpa using F
    have X:0<made.length:=by
      cases made with
      |nil=>cases o
      |cons=>simp
    obtain⟨a,b,c,q,M,hc,V⟩:=oU ns (n+1) made hl (by lia) X .no;rw[show bU [1,3] 9 [WY ns,X6 n,.lst (made.map .int),sn,.int room]=[.va (WY ns),.ow (X6 n),.va (.lst (made.map .int)),.ow sn,.va (.int room),.no,.no,.no,.no] from rfl,aD (xk:=[.va (WY ns),.ow (X6 (n+1)),.va (.lst (made.map .int)),.ow sn,.va (.int room),.va (.int e),.no,.no,.no]) (by simp[↓t]),aD (xk:=[.va (WY ns),.ow (X6 (n+1)),.va (.lst (made.map .int)),.ow sn,.va (.int room),.va (.int e),.no,.no,.no]) (by simp[QH,o,G]),aD (xk:=[.va (WY ns),.ow (X6 (n+4)),.va (.lst (made.map .int)),.ow sn,.va (.int room),.va (.int e),.va (.int a),.va (.int b),.va (.int c)]) (by simp[b7,V])];have U:(e=1∨e=2)∨e=3∨(e=4∨e=5)∨e=6∨e=7∨(8<=e/\e<=12):=by lia
    have u:∀x:Wy,∃p d,0<=p/\p<=63/\p<room/\K6 (n+6) d/\∀s B,cM 5 [1,2] ZS (aE (fV 0) (aO 1 (aO 3 (aE (fC (.str x)) (aE (fV 4) cB))))) (.va (WY ns):: .ow (X6 (n+4))::s:: .ow sn:: .va (.int room)::B)=b0 (.int p,.va (WY ns):: .ow (X6 (n+6))::s:: .ow d:: .va (.int room)::B):=λx=>by obtain⟨p,d,j,i,f,g⟩:=FJ ns (n+4) sn x room hl (by lia) (hs.mono (by lia)) L;exact⟨p,d,j,by lia,i,f,λs B=>by simp[g]⟩
    rcases U with h|h|h|h|h|h
    · have D : (decide (1 = e) || decide (2 = e)) = ba := by rcases h with rfl | rfl <;> decide
      obtain⟨p,d,j,i,l,f,g⟩:=u "load";exact⟨.tup [.str "load",.int p],n+6,d,by lia,by lia,f,.load j i,PV l,by simp[↓g,D]⟩
    subst h;obtain⟨p,d,j,i,l,f,g⟩:=u "take";exact⟨.tup [.str "take",.int p,.int c,.int a],n+6,d,by lia,by lia,f,.take j i hc q,PV l,by simp[↓g]⟩
    · have C : (decide (4 = e) || decide (5 = e)) = ba := by rcases h with rfl | rfl <;> decide
      have E:¬e=3:=by lia
      have m1:¬1=e:=by lia
      have m2:¬2=e:=by lia
      obtain⟨p,d,j,i,l,f,g⟩:=u "store";exact⟨.tup [.str "store",.int p,.int a],n+6,d,by lia,by lia,f,.store j i q,PV l,by simp[↓g,E,m1,m2,C]⟩
    subst h;obtain⟨p,d,j,i,l,f,g⟩:=u "put";exact⟨.tup [.str "put",.int p,.int a,.int c],n+6,d,by lia,by lia,f,.put j i q hc,PV l,by simp[↓g]⟩;subst h;exact⟨.tup [.str "pick",.int c,.int a,.int b],n+4,sn,by lia,by lia,hs.mono (by lia),.pick hc q M,DL (by unfold ED;decide),by simp⟩;have W := Xm ns (n + 4) 7 hl (by lia) (by decide);have q0:=U9 ns (n+4) (b:=7) (by decide);have q1:=Xl ns (n+4) (b:=7) (by decide);obtain⟨y,w,r⟩:=CN (xs:=["over","plus","minus","times","least","most","less"].map λs:String=>cY.str (Ay s)) q0 (by simpa using q1);obtain⟨x,K,rfl⟩:=Aw.mp w;simp only[Av,Dj]at r;have n1:¬e=1:=by lia
    have n2:¬e=2:=by lia
    have E:¬e=3:=by lia
    have Z:¬e=4:=by lia
    have Y:¬e=5:=by lia
    have Q:¬e=6:=by lia
    have P:¬e=7:=by lia
    have m1:¬1=e:=by lia
    have m2:¬2=e:=by lia
    have S:¬4=e:=by lia
    have R:¬5=e:=by lia
    exact⟨.tup [.str x,.int a,.int b],n+5,sn,by lia,by lia,hs.mono (by lia),.two K q M,DL (B4 K),by simp[E,Q,P,m1,m2,S,R,↓W,r]⟩
inductive Kd where
 |w|p|n
 deriving DecidableEq
def Nm(xg:List Kd)(k:Kd)(a:Int):Prop:=0<=a/\xg[a.toNat]?=b0 k
def Nm.lt{k:Kd}{a:Int}(h:Nm xg k a):a<xg.length:=by
 have:=(Ap.mp h.2).1
 have:=h.1
 lia
def Nm.snoc{k j:Kd}{a:Int}(h:Nm xg k a):Nm (xg++[j]) k a:=⟨h.1,by rw[Ax (Ap.mp h.2).1];exact h.2⟩
def Nm.new{k:Kd}:Nm (xg++[k]) k xg.length:=⟨by lia,by simp⟩
noncomputable def M6(k:Kd):cY->Kd
 |.tup (.str x::_)=>if x= "store" ∨x= "put" then .n else k
 |_=>.n
def Z6.imp{g:Int->Prop}{e:cY}(h:Z6 M e)(f:∀a,M a->g a):Z6 g e:=by
 cases h with
 |number a b=>exact .number a b
 |two a b c=>exact .two a (f _ b) (f _ c)
 |pick a b c=>exact .pick (f _ a) (f _ b) (f _ c)
 |load a b=>exact .load a b
 |take a b c d=>exact .take a b (f _ c) (f _ d)
 |store a b c=>exact .store a b (f _ c)
 |put a b c d=>exact .put a b (f _ c) (f _ d)
def Z6.hard{a:cY}(h:Z6 M a):a.hard=ba:=by
 cases h<;>simp[cY.hard,TJ]
@[simp] theorem wv{i:Int}:L7 (.int i)=b0 (.int (-i)):=(rfl)
def UJ{k:Nat}(h:k<=ds.length):X7 ds (b0 (k:Int)) b4=ds.drop k:=by unfold X7;rw[HT.HX,HT.P0,Uo h,Cv (by simp)]
def T3{k:Nat}:X7 ds b4 (b0 (k:Int))=ds.take k:=by
 unfold X7;rw[HT.HX,HT.P0];simp only[Nd,Nat.sub_zero];by_cases h:k<=ds.length;rw[Uo h];rw[Tr (by lia),Cv (by lia),Cv (by lia)]
@[simp] theorem v8{d:cY}:X7 (d::ds) (b0 1) b4=ds:=UJ (k:=1) (by simp)
@[simp] theorem vP{d e:cY}:X7 (d::e::ds) (b0 2) b4=ds:=UJ (k:=2) (by simp)
@[simp] theorem um:X7 ds b4 (b0 2)=ds.take 2:=T3 (k:=2)
@[simp] theorem tY:X7 ds b4 (b0 1)=ds.take 1:=T3 (k:=1)
@[simp] theorem uC{a:Type}{xs:List a}{x:a}:U8 (xs++[x]) (-1)=b0 x:=by
 unfold U8 HB;rw[if_neg (by decide),if_pos (by simp;lia)];have e:(-1+((xs++[x]).length:Int)).toNat=xs.length:=by simp;lia
 show(xs++[x])[(-1+((xs++[x]).length:Int)).toNat]?=b0 x;rw[e];simp
@[simp] theorem vO{a:Type}{x:a}{xs:List a}:U8 (x::xs) 0=b0 x:=by rw[YR (by decide) (by simp)];rfl
@[simp] theorem tw{a:Type}{x y:a}{xs:List a}:U8 (x::y::xs) 1=b0 y:=by rw[YR (by decide) (by simp;lia)];rfl
@[simp] theorem ul{a:Type}{x y z:a}{xs:List a}:U8 (x::y::z::xs) 2=b0 z:=by rw[YR (by decide) (by simp;lia)];rfl
def mC{k:Kd}{x:String}{t:List cY}(a:x∉["store","put"]):M6 k (.tup (.str x::t))=k:=by simp only[Ak,Br,or_false,not_or]at a;simp[M6,ZZ,a]
def rF{k:Kd}{x:String}{t:List cY}(a:x= "store" ∨x= "put"):M6 k (.tup (.str x::t))=.n:=by
 rcases a with rfl|rfl<;>simp[M6,ZZ]
def PZ{a:cY}(h:Z6 M a):∃(x:String) (t:List cY),a=.tup (.str x::t)/\x∉["wide","gather","shuffle"]:=by
 cases h with
 |two b _ _=>
  simp only[Ak,Br,or_false]at b;rcases b with rfl|rfl|rfl|rfl|rfl|rfl|rfl<;>exact⟨_,_,rfl,by decide⟩
 |_=>exact⟨_,_,rfl,by decide⟩
@[simp] theorem GF(n lo a:Int):bA [.int n,.int lo,.int a]=b0 (.bl (decide (lo<=n)&&decide (n<=a)),[]):=by unfold bA;rw[bZ];unfold QM;simp[bU];by_cases h:lo<=n<;>simp[h]
def nO{x:String}(h:x∈["over","plus","minus","times","least","most","less"]):ZO [.str x]=b0 (.tup [.str "row",.str "row"],[]):=by simp only[Ak,Br,or_false]at h;rcases h with rfl|rfl|rfl|rfl|rfl|rfl|rfl<;>kernel_rfl
@[simp] theorem uS:ZO [.str "number"]=b0 (.tup [.str "word"],[]):=by kernel_rfl
@[simp] theorem uf:ZO [.str "pick"]=b0 (.tup [.str "row",.str "row",.str "row"],[]):=by kernel_rfl
@[simp] theorem uz:ZO [.str "load"]=b0 (.tup [.str "place"],[]):=by kernel_rfl
@[simp] theorem vW:ZO [.str "take"]=b0 (.tup [.str "place",.str "row",.str "row"],[]):=by kernel_rfl
@[simp] theorem wj:ZO [.str "store"]=b0 (.tup [.str "place",.str "row"],[]):=by kernel_rfl
@[simp] theorem vC:ZO [.str "put"]=b0 (.tup [.str "place",.str "row",.str "row"],[]):=by kernel_rfl
def Ab(b:List Bool)(a:Int):Prop:=0<=a/\b[a.toNat]?=b0 ba
def kx{b:List Bool}{a:Int}(h:Ab b a):TW [.int a,.lst (b.map .bl)]=b0 (.bl ba,[]):=by
 have d:=(Ap.mp h.2).1;have c:=h.1;have f:a<=(b.length:Int)-1:=by lia
 have e:U8 (b.map cY.bl) a=b0 (.bl ba):=by rw[YR c (by simp;lia)];simp[h.2]
 unfold TW;rw[bZ];unfold QU;simp[bU,c,f,e]
def YO{b:List Bool}{a:Int}(h:Ab b a):RZ [.str "row",.int a,.lst (b.map .bl)]=b0 (.bl ba,[]):=by unfold RZ;rw[bZ];unfold LK;simp[bU,kx h]
def jm{d:cY}{a:Int}(h:0<=a)(h':a<=999):RZ [.str "word",.int a,d]=b0 (.bl ba,[]):=by unfold RZ;rw[bZ];unfold LK;simp[bU,NO,h,h']
def T5{d:cY}{a:Int}(h:0<=a)(h':a<=63):RZ [.str "place",.int a,d]=b0 (.bl ba,[]):=by unfold RZ;rw[bZ];unfold LK;simp[bU,OZ,h,h']
@[simp] theorem vw:N8 []=b0 []:=(rfl)
@[simp] theorem gR{b:Bool}:N8 (.bl b::ds)=(N8 ds).map λa=>b::a:=(rfl)
@[simp] theorem M8{g:List Bool->Bool}:E9 g (.lst ds)=(N8 ds).map λa=>.bl (g a):=(rfl)
@[simp] theorem uk:XJ [] es=[]:=(rfl)
@[simp] theorem vL:XJ ds []=[]:=by cases ds<;>rfl
@[simp] theorem ww{d e:cY}:XJ (d::ds) (e::es)=.tup [d,e]::XJ ds es:=(rfl)
def mw{e:List Bool}{f:cY}(h:Z6 (Ab e) f):OV [f,.lst (e.map .bl)]=b0 (.bl ba,[]):=by
 unfold OV;rw[bZ];unfold LL;cases h with
 |number a b=>simp[bU,b7,jm a b]
 |two g a b=>simp[bU,b7,nO g,YO a,YO b]
 |pick a b c=>simp[bU,b7,YO a,YO b,YO c]
 |load a b=>simp[bU,b7,T5 a b]
 |take a b c d=>simp[bU,b7,T5 a b,YO c,YO d]
 |store a b c=>simp[bU,b7,T5 a b,YO c]
 |put a b c d=>simp[bU,b7,T5 a b,YO c,YO d]
theorem Y1(a:Nat)(c:VF)(δ:Ev)(f:cY->cY)(b:δ.length=a):∀(ds xh:List cY),(∀d∈ds,c (δ++[Sl.va d])=b0 (f d,δ++[Sl.va d]))->xh.length+ds.length<16777216->Z2 a 1 (gN a) Y3 c ds xh δ=b0 (xh++ds.map f,δ)
 |[],xh,_,_=>by simp
 |d::ds,xh,h,hl=>by
  have j:(δ++[Sl.no]).set a (.va d)=δ++[Sl.va d]:=by rw[Il _ _ (by lia)];simp[b]
  have k:(δ++[Sl.va d]).take a=δ:=by rw[Ep (by lia),Cv (by lia)]
  have l:xh.length<16777216:=by simp at hl;lia
  have g:=Y1 a c δ f b ds (xh++[f d]) (λe i=>h e (Ai _ i)) (by simp at hl⊢;lia);simp only[O8,Yd,PB,j,FP,CO,Yc,h d Ag,Xq,if_pos l,k,g];simp
def lH(k:Nat):(a7 0 k).length=k:=by simp[a7]
def GK(n:Nat):List bH:=(Ao n).map λ(i:Nat)=>(.inl (i:Int):bH)
def oC(n:Nat):GK (n+1)=GK n++[.inl (n:Int)]:=by simp[GK,List.range_succ]
def HG(n:Nat):(GK n).length=n:=by simp[GK]
def Za(n:Nat):(GK n).Nodup:=Kr _ (λa b h e=>h (by injection e with e;lia)) Jb
def rM(n:Nat):(.inl (n:Int):bH)∉GK n:=λh=>by
 obtain⟨i,a,e⟩:=Aw.mp h;have:=Bj.mp a;injection e with e;lia
theorem BG:∀(ks:List bH) (a:List cY) (k:bH) (d:cY),ks.length=a.length->k∉ks->Y6 ks a k d=(ks++[k],a++[d])
 |[],[],k,d,_,_=>by simp[Y6]
 |k'::ks,w::a,k,d,hl,b=>by have f:¬k'=k:=λe=>b (by rw[e];exact Ag);have c:=BG ks a k d (by simpa using hl) λh=>b (Ai _ h);simp[Y6,f,c]
def jW{n:Nat}{a:List cY}(d:cY)(h:a.length=n):Y6 (GK n) a (.inl (n:Int)) d=(GK (n+1),a++[d]):=by rw[BG _ _ _ _ (by rw[HG,h]) (rM n),oC]
theorem LX:∀(ks:List bH) (a:List cY) (i:Nat) (k:bH),ks.Nodup->ks.length=a.length->ks[i]?=b0 k->a6 ks a k=a[i]?
 |[],_,i,k,_,_,e=>by simp at e
 |k'::ks,[],i,k,_,hl,_=>by simp at hl
 |k'::ks,w::a,0,k,_,_,e=>by simp at e;simp[a6,e]
 |k'::ks,w::a,i+1,k,c,hl,e=>by
  have d:ks[i]?=b0 k:=by simpa using e
  have b:¬k'=k:=λz=>(Ct.mp c).1 (by rw[z];exact Fg d);have:=LX ks a i k (Ct.mp c).2 (by simpa using hl) d;simp[a6,b,this]
def mS{n:Nat}{b:List cY}{a:Int}(hl:b.length=n)(c:0<=a)(d:a<n):a6 (GK n) b (.inl a)=U8 b a:=by rw[LX (GK n) b a.toNat (.inl a) (Za n) (by rw[HG,hl]) ?_,YR c (by lia)];unfold GK;rw[Di,List.getElem?_range (by lia)];simp only[Mj];congr 2;lia
noncomputable def cnt:cY->Nat
 |.tup (.str x::_)=>if x= "number" ∨x= "load" then 0 else if x= "store" then 1 else if x= "pick" then 3 else 2
 |_=>0
def dne{x:String}(b:x∈["over","plus","minus","times","least","most","less"]){y:String}(a:(["over","plus","minus","times","least","most","less"].contains y)=bb):(¬x=y)/\¬y=x:=by
 have h:¬x=y:=λe=>by subst e;rw[Qa.mpr b]at a;cases a
 exact⟨h,λe=>h e.symm⟩
def L3{d:cY}(h:Z6 M d):∃as:List Int,(∀a∈as,M a)/\as.length=cnt d/\aN [d]=b0 (.lst (as.map .int),[])/\YB [d]=b0 (.lst (as.map .int),[]):=by
 cases h with
 | @number n _ _=>
  refine⟨[],(λ_ h=>nomatch h),by kernel_rfl,?_,?_⟩;kernel_rfl;kernel_rfl
 | @two x a b f e g=>
  refine⟨[a,b],by simp[e,g],?_,?_,?_⟩
  ·simp only[Ak,Br,or_false]at f
   rcases f with rfl|rfl|rfl|rfl|rfl|rfl|rfl<;>kernel_rfl
  ·simp only[Ak,Br,or_false]at f
   rcases f with rfl|rfl|rfl|rfl|rfl|rfl|rfl<;>kernel_rfl
  ·simp only[Ak,Br,or_false]at f
   rcases f with rfl|rfl|rfl|rfl|rfl|rfl|rfl<;>kernel_rfl
 | @pick c a b hc e g=>
  refine⟨[c,a,b],by simp[hc,e,g],by kernel_rfl,?_,?_⟩;kernel_rfl;kernel_rfl
 | @load p _ _=>
  refine⟨[],(λ_ h=>nomatch h),by kernel_rfl,?_,?_⟩;kernel_rfl;kernel_rfl
 | @take p c a _ _ hc e=>
  refine⟨[c,a],by simp[hc,e],by kernel_rfl,?_,?_⟩;kernel_rfl;kernel_rfl
 | @store p a _ _ e=>
  refine⟨[a],by simp[e],by kernel_rfl,?_,?_⟩;kernel_rfl;kernel_rfl
 | @put p a c _ _ e hc=>
  refine⟨[a,c],by simp[e,hc],by kernel_rfl,?_,?_⟩;kernel_rfl;kernel_rfl
inductive Bl:List Kd->List cY->List Kd->Prop
 |nil {xg:List Kd}:Bl xg [] xg
 |cons {xg ah:List Kd}{row:cY}{rows:List cY}:Z6 (Nm xg .w) row->Bl (xg++[M6 .w row]) rows ah->Bl xg (row::rows) ah
def Bl.snoc{c:List Kd}{rows:List cY}{b:cY}(h:Bl xg rows c)(r:Z6 (Nm c .w) b):Bl xg (rows++[b]) (c++[M6 .w b]):=by
 induction h with
 |nil=>exact .cons r .nil
 |cons a _ d=>exact .cons a (d r)
def Bl.len{a:List Kd}{rows:List cY}(h:Bl xg rows a):a.length=xg.length+rows.length:=by
 induction h with
 |nil=>simp
 |cons _ _ b=>simp only[b,Bm,Ba,Jr];lia
def Bl.all{e:List Kd}{rows:List cY}(h:Bl xg rows e):∀d∈rows,Z6 (Nm e .w) d:=by
 induction h with
 |nil=>intro d b;cases b
 | @cons xg e g rows a t c=>
  intro d b;rcases Ak.mp b with rfl|b;refine a.imp λx i => ?_
  have:∀{k k':List Kd}{f:List cY},Bl k f k'->Nm k .w x->Nm k' .w x:=by
   intro k k' f h;induction h with
   |nil=>exact id
   |cons _ _ c=>exact λz=>c z.snoc
  exact this t i.snoc;exact c d b
theorem ZJ:∀ns:List Int,Z3 (ns.map .int)=b0 ns
 |[]=>rfl
 |i::ns=>by show(Z3 (ns.map .int)).map (λns=>i::ns)=_;rw[ZJ ns];rfl
theorem A8{n:Int}:∀{ns:List Int},n∈ns->∃j:Nat,UB n ns=b0 j/\j<ns.length
 | i :: ns,h => by
  unfold UB;by_cases e:i=n;rw[if_pos e];exact⟨0,rfl,by simp⟩;rw[if_neg e];obtain⟨j,a,b⟩:=A8 (ns:=ns) (by
   rcases Ak.mp h with z|z;exact absurd z.symm e;exact z)
  exact⟨j+1,by rw[a];rfl,by simp;lia⟩
def nst(ns:List Int)(n:Nat)(rows:List cY)(made:List Int)(sn:cY)(room:Int)(last:cY)(fi:Int)(bs:List Int)(b a:Sl):Ev:=
 [.va (WY ns),.ow (X6 n),.va (.lst rows),.va (.lst (made.map .int)),.ow sn,.va (.int room),.va last,.va (.int fi),.ow (.lst (bs.map .int)),b,a]
def sx(ns:List Int)(n:Nat)(rows:List cY)(made:List Int)(sn:cY)(room:Int)(last:cY)(fi:Int)(bs:List Int)(a:Int)(g:Sl)(hl:ns.length<=63)(u:n<700000)(h:a∈made)(v:bs.length<100):∃b∈made,∃t,YV (nst ns n rows made sn room last fi bs (.va (.int a)) g)=b0 (.nx (nst ns (n+1) rows made sn room last fi (bs++[b]) (.va (.int a)) t)):=by
 obtain⟨j,r,o⟩:=A8 h;obtain⟨x,k,f⟩:=WO ns n [.int 1,.int 1,.int 1,.int 1,.int (-1),.int 0,.int 2] hl (by lia) (by simp);obtain⟨p,rfl⟩:∃p,x=.int p:=by simp only[Ak,Br,or_false]at k;rcases k with rfl|rfl|rfl|rfl|rfl|rfl|rfl<;>exact⟨_,rfl⟩
 have e:DE (.lst (made.map .int)) (.int a)=b0 (.int j):=by show(Z3 (made.map .int)).bind (λns=>(UB a ns).map λj=>cY.int j)=_;rw[ZJ,An,r];rfl
 have c:bs.length<16777216:=by lia
 by_cases d:0<=(j:Int)+p/\(j:Int)+p<made.length;obtain⟨q,m,eq⟩:=M0 (ns:=made) d.1 d.2;by_cases l:q=(rows.length:Int)-1;refine⟨a,h,.va (.int (j+p)),?_⟩;unfold YV;simp[nst,e,f,d.1,d.2,eq,l,c];refine⟨q,m,.va (.int (j+p)),?_⟩;unfold YV;simp[nst,e,f,d.1,d.2,eq,l,c];refine⟨a,h,.va (.int (j+p)),?_⟩;unfold YV;by_cases i:0<=(j:Int)+p;have s : ¬ (j : Int) + p < made.length := λz => d ⟨i,z⟩;simp[nst,e,f,i,s,c];simp[nst,e,f,i,c]
theorem DB(ns:List Int)(rows:List cY)(made:List Int)(sn:cY)(room:Int)(last:cY)(fi:Int)(hl:ns.length<=63):∀(as:List Int) (n:Nat) (bs:List Int) (g d:Sl),n+as.length<700000->(∀a∈as,a∈made)->bs.length+as.length<100->∃h:List Int,(∀c∈h,c∈made)/\h.length=as.length/\∃f k,XQ (gN 9) YV (as.map .int) (nst ns n rows made sn room last fi bs g d)=b0 (.nx (nst ns (n+as.length) rows made sn room last fi (bs++h) f k))
 |[],n,bs,g,d,_,_,_=>⟨[],by simp,rfl,g,d,by simp⟩
 | a :: as,n,bs,g,d,p,l,q => by
  simp only[Ba]at p q;obtain⟨b,j,i,e⟩:=sx ns n rows made sn room last fi bs a d hl (by lia) (l a Ag) (by lia);obtain⟨h,s,r,f,k,m⟩:=DB ns rows made sn room last fi hl as (n+1) (bs++[b]) (.va (.int a)) i (by lia) (λx o=>l x (Ai _ o)) (by simp;lia);refine⟨b::h,λc hc=>?_,by simp[r],f,k,?_⟩;rcases Ak.mp hc with rfl|hc;exact j;exact s c hc;rw[Av,VT,PB,SR,show(nst ns n rows made sn room last fi bs g d).set 9 (.va (.int a))=nst ns n rows made sn room last fi bs (.va (.int a)) d from rfl,e,SS,m];simp[Sf,Nat.add_comm 1]
def cel4{x:String}(h:ED x):(decide ("load"=x) || (decide ("take"=x) || (decide ("store"=x) || decide ("put"=x))))=ba:=by
 rcases h with rfl|rfl|rfl|rfl<;>decide
def snM{m k:Nat}{d:cY}(h:Sn m d)(g:m<=k):Sn k d:=by obtain⟨b,a,e,f,c,i⟩:=h;exact⟨b,a,e,f,c,by lia⟩
def M7(ns:List Int)(n:Nat)(rows:List cY)(made:List Int)(sn:cY)(room:Int){x:String}{p:Int}{m:Nat}(hl:ns.length<=63)(I:n<600000)(J:m<8000000)(hs:Sn m sn)(o:0<room)(v:ED x)(F:U8 rows (-1)=b0 (.tup (.str x:: .int p::as.map .int)))(y:∀a∈as,a∈made)(M:as.length<=3):∃(q:Int) (b:List Int) (f:cY),0<=q/\q<room/\(∀c∈b,c∈made)/\b.length=as.length/\Sn (m+1) f/\YA [WY ns,X6 n,.lst rows,.lst (made.map .int),sn,.int room]=b0 (.tup (.str x:: .int q::b.map .int),[X6 (n+as.length),f]):=by
 obtain⟨b,D,C,G,s,e⟩:=DB ns rows made sn room (.tup (.str x:: .int p::as.map .int)) 2 hl as n [] .no .no (by lia) y (by simp;lia);simp only[nst,Bg,Dj]at e;obtain⟨j,r,rfl,u,l,H⟩:=hs;obtain⟨g,d,t,B,A,L,K,z⟩:=putI j r (.inr (x:Wy)) ((p+1) % room) u l;have w:j.length<16777216:=by lia
 refine⟨(p+1) % room,b,.dct g (d.map .int),Ii _ (by lia),Cf _ o,D,C,⟨g,d,rfl,B,A,by lia⟩,?_⟩;unfold YA;rw[bZ,T6.eq_1];have h:=cel4 v;have E:X7 (.str x:: .int p::as.map cY.int) (b0 2) b4=as.map cY.int:=by
  have:=UJ (ds:=.str x:: .int p::as.map cY.int) (k:=2) (by simp)
  simpa using this
 have i:2+b.length<=16777216:=by lia
 simp[bU,F,h,E,e,o,w,l,t,z,i]
def off4{x:String}(h:¬ED x):(¬x= "load" /\¬ "load"=x)/\(¬x= "take" /\¬ "take"=x)/\(¬x= "store" /\¬ "store"=x)/\¬x= "put" /\¬ "put"=x:=by refine⟨⟨λz=>h (.inl z),λz=>h (.inl z.symm)⟩,⟨λz=>h (.inr (.inl z)),λz=>h (.inr (.inl z.symm))⟩,⟨λz=>h (.inr (.inr (.inl z))),λz=>h (.inr (.inr (.inl z.symm)))⟩,λz=>h (.inr (.inr (.inr z))),λz=>h (.inr (.inr (.inr z.symm)))⟩
def E4(ns:List Int)(n:Nat)(rows:List cY)(made:List Int)(sn:cY)(room:Int){x:String}(hl:ns.length<=63)(u:n<600000)(l:¬ED x)(s:U8 rows (-1)=b0 (.tup (.str x::as.map .int)))(m:∀a∈as,a∈made)(v:as.length<=3):∃b:List Int,(∀c∈b,c∈made)/\b.length=as.length/\YA [WY ns,X6 n,.lst rows,.lst (made.map .int),sn,.int room]=b0 (.tup (.str x::b.map .int),[X6 (n+as.length),sn]):=by
 obtain⟨b,p,o,t,j,e⟩:=DB ns rows made sn room (.tup (.str x::as.map .int)) 1 hl as n [] .no .no (by lia) m (by simp;lia);simp only[nst,Bg,Dj]at e;refine⟨b,p,o,?_⟩;unfold YA;rw[bZ,T6.eq_1];obtain⟨⟨_,i⟩,⟨_,h⟩,⟨_,g⟩,_,f⟩:=off4 l;have r:X7 (.str x::as.map cY.int) (b0 1) b4=as.map cY.int:=by
  have:=UJ (ds:=.str x::as.map cY.int) (k:=1) (by simp)
  simpa using this
 have q:X7 (.str x::as.map cY.int) b4 (b0 1)=[.str x]:=by
  have:=T3 (ds:=.str x::as.map cY.int) (k:=1)
  simpa using this
 have d:1+b.length<=16777216:=by lia
 simp[bU,s,i,h,g,f,r,q,e,d]
def sj(ns:List Int)(n:Nat)(rows:List cY)(made:List Int)(sn:cY)(room:Int){last:cY}{m:Nat}(hl:ns.length<=63)(r:n<600000)(v:m<8000000)(hs:Sn m sn)(u:0<room)(E:room<=64)(s:U8 rows (-1)=b0 last)(ok:Z6 (· ∈made) last)(D:∀k,last≠ .tup [.str "number",.int k]):∃t A g,n<=A/\A<=n+3/\Sn (m+1) g/\Z6 (· ∈made) t/\YA [WY ns,X6 n,.lst rows,.lst (made.map .int),sn,.int room]=b0 (t,[X6 A,g]):=by
 cases ok with
 |number=>exact absurd rfl (D _)
 | @two x a b C o B=>
  obtain⟨l,i,j,e⟩:=E4 ns n rows made sn room (x:=x) (as:=[a,b]) hl r (B4 C) s (by simp[o,B]) (by simp);match l,j with
  |[c,d],_=>exact⟨_,n+2,sn,by lia,by lia,snM hs (by lia),.two C (i c (by simp)) (i d (by simp)),e⟩
 | @pick c a b hc o B=>
  obtain⟨l,i,j,e⟩:=E4 ns n rows made sn room (x:= "pick") (as:=[c,a,b]) hl r (λz=>by rcases z with z|z|z|z<;>exact absurd z (by decide)) s (by simp[o,B,hc]) (by simp);match l,j with
  |[c,d,f],_=>exact⟨_,n+3,sn,by lia,by lia,snM hs (by lia),.pick (i c (by simp)) (i d (by simp)) (i f (by simp)),e⟩
 | @load p y w=>
  obtain⟨q,l,g,q0,q1,i,j,h,e⟩:=M7 ns n rows made sn room (x:= "load") (p:=p) (as:=[]) hl r v hs u (.inl rfl) s (by simp) (by simp);match l,j with
  |[],_=>exact⟨_,n+0,g,by lia,by lia,h,.load q0 (by lia),e⟩
 | @take p c a y w hc o=>
  obtain⟨q,l,g,q0,q1,i,j,h,e⟩:=M7 ns n rows made sn room (x:= "take") (p:=p) (as:=[c,a]) hl r v hs u (.inr (.inl rfl)) s (by simp[hc,o]) (by simp);match l,j with
  |[c,d],_=>exact⟨_,n+2,g,by lia,by lia,h,.take q0 (by lia) (i c (by simp)) (i d (by simp)),e⟩
 | @store p a y w o=>
  obtain⟨q,l,g,q0,q1,i,j,h,e⟩:=M7 ns n rows made sn room (x:= "store") (p:=p) (as:=[a]) hl r v hs u (.inr (.inr (.inl rfl))) s (by simp[o]) (by simp);match l,j with
  |[c],_=>exact⟨_,n+1,g,by lia,by lia,h,.store q0 (by lia) (i c (by simp)),e⟩
 | @put p a c y w o hc=>
  obtain⟨q,l,g,q0,q1,i,j,h,e⟩:=M7 ns n rows made sn room (x:= "put") (p:=p) (as:=[a,c]) hl r v hs u (.inr (.inr (.inr rfl))) s (by simp[o,hc]) (by simp);match l,j with
  |[c,d],_=>exact⟨_,n+2,g,by lia,by lia,h,.put q0 (by lia) (i c (by simp)) (i d (by simp)),e⟩
structure RI(rows:List cY)(made:List Int)(xg:List Kd):Prop where
 bl:Bl [] rows xg
 ex:∀a,a∈made↔Nm xg .w a
 ml:made.length<=rows.length
def RI.len{rows:List cY}(h:RI rows made xg):xg.length=rows.length:=by
 have:=h.bl.len
 simpa using this
def sF{k:Kd}{a:Int}:Nm (xg++[k]) .w a↔Nm xg .w a∨(k=.w/\a=xg.length):=by
 constructor;intro h;have c:=h.1;have hl:=h.lt;rw[Bm,Ea]at hl;by_cases b:a.toNat<xg.length;exact .inl ⟨c,by have:=h.2;rwa[Ax b]at this⟩;have b : a.toNat = xg.length := by lia
 have e:=h.2;rw[b]at e;simp at e;exact .inr ⟨e,by lia⟩;rintro (h|⟨rfl,rfl⟩);exact h.snoc;exact Nm.new
def RI.more{rows:List cY}{b:cY}(h:RI rows made xg)(r:Z6 (· ∈made) b):RI (rows++[b]) (if M6 .w b=.w then made++[(rows.length:Int)]else made) (xg++[M6 .w b]):=by
 refine⟨h.bl.snoc (r.imp λa c=>(h.ex a).mp c),λa=>?_,?_⟩;rw[sF,<- h.ex a,h.len];split;rename_i e;simp[e];rename_i e;simp[e]
 ·have:=h.ml
  split<;>simp<;>lia
theorem RI.last{b:List cY}{last:cY}{made:List Int}{xg:List Kd}(h:RI (b++[last]) made xg):Z6 (· ∈made) last:=(h.bl.all last (by simp)).imp λa c=>(h.ex a).mpr c
def NK(ns:List Int)(n:Nat)(b room:Int)(rows:List cY)(made:List Int)(sn:cY)(a:Sl):Ev:=
 [.va (WY ns),.ow (X6 n),.va (.int b),.va (.int room),.ow (.lst rows),.ow (.lst (made.map .int)),.ow sn,a]
theorem RM:∀vs:List Int,TJ (vs.map .int)=ba
 |[]=>rfl
 |_::vs=>by show((cY.int _).hard&&TJ (vs.map .int))=ba;rw[RM vs];rfl
def BW{m:Nat}(h:Sn m sn):SI sn=ba:=by obtain⟨b,a,rfl,_⟩:=h;exact RM a
def AL{a:cY}(x:String)(t:List cY)(e:a=.tup (.str x::t)):M6 .w a=.w↔ ¬(x= "store" ∨x= "put"):=by
 subst e;by_cases h:x= "store" ∨x= "put";rw[rF h];simp[h];have : x ∉ ["store","put"] := by simpa using h
 rw[mC this];simp[h]
def kG(ns:List Int)(n:Nat)(v room:Int){rows:List cY}{m:Nat}(C:Sl)(hl:ns.length<=63)(K:n<600000)(L:m<8000000)(hs:Sn m sn)(J:0<room)(A:room<=64)(R:RI rows made xg)(D:rows≠[])(hlen:rows.length<1000):∃s E M h a,RI s E M/\rows.length<=s.length/\((rows.length:Int)<=v->(s.length:Int)<=v)/\s.length<=rows.length+1/\n<=h/\h<=n+3/\Sn (m+1) a/\YW (NK ns n v room rows made sn C)=b0 (.nx (NK ns h v room s E a C)):=by
 obtain⟨g,last,rfl⟩:∃g last,rows=g++[last]:=⟨rows.dropLast,rows.getLast D,(List.dropLast_concat_getLast D).symm⟩;have ok:=R.last;have r:=R0 g last;have B:made.length<16777216:=by have:=R.ml;lia
 have f:(g++[last]).length<16777216:=by lia
 generalize N:g++[last]=rows at*;obtain⟨x,t,q,_⟩:=PZ ok;by_cases o:(rows.length:Int)<v;by_cases l:x= "number";refine ⟨rows,made,xg,n,sn,R,Al _,id,by lia,by lia,by lia,snM hs (by lia),?_⟩;unfold YW;simp[NK,o,r,q,l];obtain ⟨w,h,a,I,H,i,c,e⟩ := sj ns n rows made sn room hl K L hs J A r ok (λk z => by rw [q]at z;simp [ZZ]at z;exact l z.1);obtain⟨y,u,p,_⟩:=PZ c;have JO:=R0 rows w;refine⟨_,_,_,h,a,R.more c,by simp,by simp;lia,by simp,I,H,i,?_⟩;unfold YW;have key:=AL y u p;have b:=c.hard;rw[p]at b;have d:=BW i;by_cases j:y= "store" ∨y= "put";rw [if_neg (by rw [key];simp [j])];rcases j with rfl|rfl;simp[NK,o,r,q,l,e,JO,p,f,b,d];simp[NK,o,r,q,l,e,JO,p,f,b,d];rw [if_pos (by rw [key];exact j)];have G:¬ "store"=y:=λz=>j (.inl z.symm);have F:¬ "put"=y:=λz=>j (.inr z.symm);simp[NK,o,r,q,l,e,JO,p,f,b,d,G,F,B];refine ⟨rows,made,xg,n,sn,R,Al _,id,by lia,by lia,by lia,snM hs (by lia),?_⟩;unfold YW;simp[NK,o]
theorem Yx(ns:List Int)(b room:Int)(hl:ns.length<=63)(q:0<room)(i:room<=64):∀(ds:List cY) (n:Nat) {rows:List cY}{made:List Int}{xg:List Kd}{sn:cY}{m:Nat}(g:Sl),n+3*ds.length<600000->m+ds.length<8000000->Sn m sn->RI rows made xg->rows≠[]->rows.length+ds.length<1000->∃f j o h a c,RI f j o/\rows.length<=f.length/\((rows.length:Int)<=b->(f.length:Int)<=b)/\n<=h/\h<=n+3*ds.length/\Sn (m+ds.length) a/\XQ (gN 7) YW ds (NK ns n b room rows made sn g)=b0 (.nx (NK ns h b room f j a c))
 |[],n,rows,made,xg,sn,m,g,_,_,l,R,_,_=>⟨rows,made,xg,n,sn,g,R,Al _,id,by lia,by simp,l,by simp⟩
 |d::ds,n,rows,made,xg,sn,m,g,v,w,l,R,r,u=>by simp only[Ba]at v w u;obtain⟨F,E,D,t,s,B,p,A,K,a4,J,K2,x⟩:=kG ns n b room (.va d) hl (by lia) (by lia) l q i R r (by lia);obtain⟨f,j,o,h,a,c,C,I,y,H,G,k,e⟩:=Yx ns b room hl q i ds t (.va d) (by lia) (by lia) K2 B (λz=>by rw[z]at p;simp at p;exact r p) (by lia);refine⟨f,j,o,h,a,c,C,by lia,λz=>y (A z),by lia,by simp only[Ba];lia,snM k (by simp only[Ba];lia),?_⟩;rw[VT,PB,SR,show(NK ns n b room rows made sn g).set 7 (.va d)=NK ns n b room rows made sn (.va d) from rfl,x,SS,e]
def rV(ns:List Int)(n:Nat)(o room:Int){rows:List cY}(B:Sl)(hl:ns.length<=63)(S:n<500000)(hs:K6 n sn)(E:0<room)(p:room<=64)(R:RI rows made xg)(I:(rows.length:Int)<o)(K:o<=40):∃m r A l a d,RI m r A/\rows.length<m.length/\(m.length:Int)<=o/\n<=l/\l<=n+20/\K6 l a/\WH (NK ns n o room rows made sn B)=b0 (.nx (NK ns l o room m r a d)):=by
 obtain⟨s,C,H,U,T,K2,f,_,e⟩:=qQ ns n made sn room hl (by lia) hs E p;obtain⟨x,D,w⟩:=WO ns C [.int 0,.int 1,.int 1,.int 2,.int 3] hl (by lia) (by simp);obtain⟨k,rfl,Q,P⟩:∃k:Nat,x=.int k/\0<=k/\k<=3:=by
  simp only[Ak,Br,or_false]at D;rcases D with rfl|rfl|rfl|rfl|rfl;exact⟨0,rfl,by lia,by lia⟩;exact⟨1,rfl,by lia,by lia⟩;exact⟨1,rfl,by lia,by lia⟩;exact⟨2,rfl,by lia,by lia⟩;exact⟨3,rfl,by lia,by lia⟩
 have N:=R.more f;have h:rows.length<16777216:=by lia
 have v:made.length<16777216:=by have:=R.ml;lia
 have J:(a7 0 k).length=k:=lH k;obtain⟨m,r,A,l,a,d,O,M,L,W,V,t,c⟩:=Yx ns o room hl E p (a7 0 k) (C+1) B (by lia) (by lia) K2 N (by simp) (by simp;lia);refine⟨m,r,A,l,a,d,O,by simp at M;lia,L (by simp;lia),by lia,by lia,snM t (by lia),?_⟩;obtain⟨y,u,j,_⟩:=PZ f;have JO:=R0 rows s;have key:=AL y u j;have b:=f.hard;rw[j]at b;have g:=BW K2;have i:(-4611686018427387904:Int)<=k/\(k:Int)<4611686018427387904:=by lia
 unfold WH;by_cases q:y= "store" ∨y= "put";rw [if_neg (by rw [key];simp [q])]at c;simp only[NK]at c;rw[j]at c;rcases q with rfl|rfl;simp[NK,e,JO,j,h,b,g,w,i,c];simp[NK,e,JO,j,h,b,g,w,i,c];rw [if_pos (by rw [key];exact q)]at c;simp only[NK,Ed,Av,Dj]at c;rw[j]at c;have G:¬ "store"=y:=λz=>q (.inl z.symm);have F:¬ "put"=y:=λz=>q (.inr z.symm);simp[NK,e,JO,j,h,b,g,w,i,G,F,v,c]
def MQ{t:VB}{g:VS}{k:Nat}(h:t δ=b0 (ba,xk))(a:g xk=b0 (.nx xl)):aZ t g (k+1) δ=aZ t g k xl:=by show((t δ).bind λp=>if p.1=ba then(g p.2).bind (again (aZ t g k))else b0 (.nx p.2))=_;rw[h,An];show(if ba=ba then(g xk).bind (again (aZ t g k))else _)=_;rw[if_pos rfl,a];rfl
def QA{t:VB}{g:VS}{k:Nat}(h:t δ=b0 (bb,xk)):aZ t g (k+1) δ=b0 (.nx xk):=by show((t δ).bind λp=>if p.1=ba then(g p.2).bind (again (aZ t g k))else b0 (.nx p.2))=_;rw[h];rfl
theorem eV(ns:List Int)(a room:Int)(hl:ns.length<=63)(p:0<room)(i:room<=64)(j:a<=40):∀(f:Nat) (n:Nat) {rows:List cY}{made:List Int}{xg:List Kd}{sn:cY}(d:Sl),a-rows.length<=f->(rows.length:Int)<=a->n+20*f<500000->K6 n sn->RI rows made xg->∃k l m h b c,RI k l m/\(k.length:Int)=a/\n<=h/\h<=n+20*f/\aZ (fB (f2 oLt (f1 Z9 (fO 4)) (fV 2))) WH (f+1) (NK ns n a room rows made sn d)=b0 (.nx (NK ns h a room k l b c))
 |0,n,rows,made,xg,sn,d,v,u,t,o,R=>by
  refine⟨rows,made,xg,n,sn,d,R,by lia,by lia,by lia,QA ?_⟩;have:¬(rows.length:Int)<a:=by lia
  simp[NK,this]
 | f + 1,n,rows,made,xg,sn,d,v,u,t,o,R => by
  by_cases g:(rows.length:Int)<a;obtain ⟨D,C,B,s,r,q,z,H,y,G,a4,K2,w⟩ := rV ns n a room d hl (by lia) o p i R g j;obtain⟨k,l,m,h,b,c,A,x,F,E,e⟩:=eV ns a room hl p i j f s q (by lia) y (by lia) K2 z;refine⟨k,l,m,h,b,c,A,x,by lia,by lia,?_⟩;rw[MQ (xk:=NK ns n a room rows made sn d) (by simp[NK,g]) w,e];refine ⟨rows,made,xg,n,sn,d,R,by lia,by lia,by lia,QA ?_⟩;simp[NK,g]
def jn(ns:List Int)(n:Nat)(b room:Int)(hl:ns.length<=63)(o:n<400000)(i:0<room)(f:room<=64)(j:0<=b)(g:b<=40):∃rows xg c,Bl [] rows xg/\(rows.length:Int)=b/\n<=c/\c<=n+20*40/\TU [WY ns,X6 n,.int b,.int room]=b0 (.tup rows,[X6 c]):=by obtain⟨rows,d,xg,c,h,m,R,l,k,p,e⟩:=eV ns b room hl i f g b.toNat n (rows:=[]) (made:=[]) (xg:=[]) (sn:=.dct [] []) .no (by simp;lia) (by simpa using j) (by lia) ⟨[],[],rfl,rfl,List.nodup_nil,Ch _⟩ ⟨.nil,λa=>by simp[Nm],by simp⟩;refine⟨rows,xg,c,R.bl,l,k,by lia,?_⟩;have e:=RV e;simp only[NK,Dj]at e;unfold TU;rw[bZ,QT.eq_1];simp[bU,e]
def nW{f g:VF}{i j:Int}(c:f δ=b0 (.int i,xk))(b:g xk=b0 (.int j,xl))(a:(-4611686018427387904<=i/\i<4611686018427387904)/\ -4611686018427387904<=j/\j<4611686018427387904):iR2 f g δ=b0 (a7 i (j-i).toNat,xl):=by unfold iR2;rw[c,An,b,An];exact if_pos a
theorem XV(a:Nat)(g:VB)(p:cY->Bool)(j:VF)(f:cY->cY)(δ:Ev)(b:δ.length=a):∀(ds xh:List cY),(∀d∈ds,g (δ++[Sl.va d])=b0 (p d,δ++[Sl.va d])/\(p d=ba->j (δ++[Sl.va d])=b0 (f d,δ++[Sl.va d])))->xh.length+ds.length<16777216->Z2 a 1 (gN a) g j ds xh δ=b0 (xh++(ds.filter p).map f,δ)
 |[],xh,_,_=>by simp
 | d :: ds,xh,h,hl => by
  have n:(δ++[Sl.no]).set a (.va d)=δ++[Sl.va d]:=by rw[Il _ _ (by lia)];simp[b]
  have o:(δ++[Sl.va d]).take a=δ:=by rw[Ep (by lia),Cv (by lia)]
  have q:xh.length<16777216:=by simp at hl;lia
  obtain⟨i,m⟩:=h d Ag;cases c:p d with
  |true=>
   have k:=XV a g p j f δ b ds (xh++[f d]) (λe l=>h e (Ai _ l)) (by simp at hl⊢;lia);have m:=m c;rw[c]at i;simp only[O8,Yd,PB,n,FP,i,Yc,m,Xq,if_pos q,o,k];simp[c]
  |false=>
   have k:=XV a g p j f δ b ds xh (λe l=>h e (Ai _ l)) (by simp at hl⊢;lia);rw[c]at i;simp only[O8,Yd,PB,n,FP,i,Zt,o,k];simp[c]
def Z6.ints{d:cY}(h:Z6 M d):∃(x:String) (a:Int) (as:List Int),d=.tup (.str x:: .int a::as.map .int)/\(x= "over" ->∃b,as=[b]/\M b):=by
 cases h with
 | @number n _ _=>exact⟨"number",n,[],rfl,λz=>absurd z (by decide)⟩
 | @two x a b f g e=>exact⟨x,a,[b],rfl,λ_=>⟨b,rfl,e⟩⟩
 | @pick c a b _ _ _=>exact⟨"pick",c,[a,b],rfl,λz=>absurd z (by decide)⟩
 | @load p _ _=>exact⟨"load",p,[],rfl,λz=>absurd z (by decide)⟩
 | @take p c a _ _ _ _=>exact⟨"take",p,[c,a],rfl,λz=>absurd z (by decide)⟩
 | @store p a _ _ _=>exact⟨"store",p,[a],rfl,λz=>absurd z (by decide)⟩
 | @put p a c _ _ _ _=>exact⟨"put",p,[a,c],rfl,λz=>absurd z (by decide)⟩
theorem aK{k:Nat}:∀as:List Int,∀d∈as.map cY.int,OM k d
 |[],d,h=>nomatch h
 |a::as,d,h=>by
  rcases Ak.mp h with rfl|h;exact ZV;exact aK as d h
def BQ{b:cY}(h:Z6 M b):OM 1 b:=by obtain⟨x,a,c,rfl,_⟩:=h.ints;exact VJ (Z7 YZ (Z7 ZV (aK c)))
def Zk{rows:List cY}(y:Bl [] rows xg){i:Int}(K:0<=i)(J:i<rows.length):∃b,W8 [.tup [.int xf,.tup rows],.int i]=b0 (.bl b,[]):=by
 have B:xg.length=rows.length:=by simpa using y.len
 obtain⟨c,P,z⟩:∃c∈rows,U8 rows i=b0 c:=by
  have m:i.toNat<rows.length:=by lia
  exact⟨rows[i.toNat],Hn m,by rw[YR K J];simp[m]⟩
 have ok:=y.all c P;obtain⟨x,a,T,rfl,t⟩:=ok.ints;unfold W8;rw[bZ];unfold OF;by_cases A:ED x;have m1:=cel4 A;exact⟨_,by simp[bU,z,m1];rfl⟩;obtain⟨⟨_,H⟩,⟨_,G⟩,⟨_,F⟩,_,E⟩:=off4 A;by_cases u:x= "over";obtain⟨b,rfl,n⟩:=t u;subst u;have R:=n.1;have S:=n.lt;obtain⟨L,s,N⟩:∃c∈rows,U8 rows b=b0 c:=by
  have m:b.toNat<rows.length:=by lia
  exact⟨rows[b.toNat],Hn m,by rw[YR R (by lia)];simp[m]⟩
 obtain⟨p,r,o,rfl,_⟩:=(y.all L s).ints;have O:X7 (.str p:: .int r::o.map cY.int) b4 (b0 2)=[.str p,.int r]:=by
  have:=T3 (ds:=.str p:: .int r::o.map cY.int) (k:=2)
  simpa using this
 have M:∀h,iR2 (fC (.int 1)) (fC (.int 1000)) h=b0 (a7 1 ((1000:Int)-1).toNat,h):=λh=>nW (f:=fC (.int 1)) (g:=fC (.int 1000)) (δ:=h) (xk:=h) (xl:=h) (i:=1) (j:=1000) rfl rfl (by lia);have D:=Y1 0 (bK (cT (fC (.str "number")) (cT (fV 0) cL))) [] (λd=>.tup [.str "number",d]) rfl (a7 1 ((1000:Int)-1).toNat) [] (λd _=>by simp) (by simp[a7]);have v:∀l,∃b,bI l (.tup [.str p,.int r]) (.lst ((a7 1 ((1000:Int)-1).toNat).map λd=>.tup [.str "number",d]))=b0 (.bl b):=λl=>⟨_,L6 (j:=1) (k:=1) (VJ (Z7 YZ (Z7 ZV aL))) (λe I=>by
  obtain⟨d,C,rfl⟩:=Aw.mp I;obtain⟨q,rfl⟩:∃q,d=.int q:=by unfold a7 at C;obtain⟨q,_,rfl⟩:=Aw.mp C;exact⟨_,rfl⟩
  exact VJ (Z7 YZ (Z7 ZV aL)))⟩
 obtain⟨Q,w⟩:=v ba;simp only[Bg]at D;generalize (a7 1 ((1000:Int)-1).toNat).map (λd=>cY.tup [.str "number",d])=big,a7 1 ((1000:Int)-1).toNat=rg at*;exact⟨Q,by simp -implicitDefEqProofs [bU,z,N,O,b7,M,D,w]⟩;exact⟨bb,by simp[bU,z,H,G,F,E,u]⟩
def ZL(p:Int×Int):cY:=.tup [.int p.1,.int p.2]
def LA:cY:=.tup [.str "load",.str "take",.str "store",.str "put"]
def OJ(a:cY)(ps:List (Int×Int))(j:Int)(there:Sl)(e d c b:Sl):Ev:=
 [.va a,.ow (.lst (ps.map ZL)),.va LA,.va (.int j),there,e,d,c,b]
def pq{bs:List Bool}:bI bb (.bl ba) (.lst (bs.map .bl))=b0 (.bl (bs.any id)):=by
 rw[L6 (j:=0) (k:=0) fI (λe c=>by obtain⟨b,_,rfl⟩:=Aw.mp c;exact fI)];induction bs with
 |nil=>rfl
 |cons b bs a=>
  have e:NF (.bl b) (.bl ba)=b:=by cases b<;>rfl
  simp only[Av,Yk,Hi,id,e];simp only[Aj,if_false,Option.some.injEq,cY.bl.injEq]at a⊢;rw[a]
theorem eW{i:Int}:∀{as:List Int},i∈as->SZ (.int i) (as.map .int)=ba
 |q::as,h=>by
  simp only[Av,Yk];rcases Ak.mp h with rfl|h;simp;simp[eW h]
noncomputable def wrT:cY->Bool
 |.tup (.str x::_)=>decide (Ay "store"=x) || decide (Ay "put"=x)
 |_=>bb
def MK{b a:VS}{r:Option Ou}(d:b δ=b0 (.nx xk))(c:a xk=r):cE b a δ=r:=by rw[DU,d,qS_n,c]
def mo{rows:List cY}(v:Bl [] rows xg)(ps:List (Int×Int)){i j:Int}{here there:cY}(Z:0<=i)(Y:i<rows.length)(W:0<=j)(V:j<rows.length)(hh:here∈rows)(ht:there∈rows)(hn:aN [there]=b0 (.lst (as.map .int),[]))(P I:Sl)(hp:ps.length<1000000):∃(c:Bool) (O N:Sl),(i∈as->c=ba)/\WE (OJ (.tup [.int xf,.tup rows]) ps j (.va there) (.va (.int i)) (.va here) P I)=b0 (.nx (OJ (.tup [.int xf,.tup rows]) (ps++if c then[(i,j)]else[]) j (.va there) (.va (.int i)) (.va here) O N)):=by
 obtain⟨f,M⟩:=Zk (xf:=xf) v Z Y;obtain⟨l,L⟩:=Zk (xf:=xf) v W V;have t:=v.all here hh;have s:=v.all there ht;have U:=BQ t;have T:=BQ s;obtain⟨x,a,q,K,_⟩:=t.ints;obtain⟨y,b,p,J,_⟩:=s.ints;have F:bI bb (.int i) (.lst (as.map .int))=b0 (.bl (SZ (.int i) (as.map .int))):=by rw[L6 (j:=0) (k:=0) ZV (aK as)];simp
 have X:=eW (i:=i) (as:=as);generalize SZ (.int i) (as.map .int)=n at*;have H:∃w:List cY,Z2 0 1 (gN 0) (fB (f2 (bI bb) (f2 cJ (fV 0) (fC (.int 0))) (bK (cT (fC (.str "store")) (cT (fC (.str "put")) cL))))) (fV 0) [here,there] [] []=b0 (w,[])/\∀d∈w,OM 1 d:=by
  have c:=XV 0 (fB (f2 (bI bb) (f2 cJ (fV 0) (fC (.int 0))) (bK (cT (fC (.str "store")) (cT (fC (.str "put")) cL))))) wrT (fV 0) id [] rfl [here,there] [] (λd u=>by
   simp only[Ak,Br,or_false]at u;rcases u with rfl|rfl;rw[K];simp[wrT,ZZ];rw[J];simp[wrT,ZZ]) (by simp)
  refine⟨_,c,λd u=>?_⟩;simp only[Bg,List.map_id_fun,id,Dt,Ak,Br,or_false]at u;rcases u.1 with rfl|rfl;exact U;exact T
 obtain⟨w,H,S⟩:=H;have E:XE (.lst w) (.lst [])=b0 (.bl (!NF (.lst w) (.lst []))):=UQ (j:=2) (k:=0+1) (bY S) (bY aL);generalize (!NF (.lst w) (.lst []))=m at*;have D:ps.length<16777216:=by lia
 have B:∃h,bI bb (.str x) LA=b0 (.bl h):=⟨_,Yo⟩;have z:∃e,bI bb (.str y) LA=b0 (.bl e):=⟨_,Yo⟩;have C:∃h,bI bb (.str x) (.tup [.str "store",.str "put"])=b0 (.bl h):=⟨_,Xo⟩;have A:∃e,bI bb (.str y) (.tup [.str "store",.str "put"])=b0 (.bl e):=⟨_,Xo⟩;obtain⟨h,B⟩:=B;obtain⟨e,z⟩:=z;obtain⟨r,C⟩:=C;obtain⟨o,A⟩:=A;subst K J;have g:=pq (bs:=[n,f&&l,h&&(e&&(decide (a=b)&&m)),f&&o,l&&r]);simp only[Av,Dj]at g;refine⟨[n,f&&l,h&&(e&&(decide (a=b)&&m)),f&&o,l&&r].any id,.va (.lst w),.ow (.lst [.bl n,.bl (f&&l),.bl (h&&(e&&(decide (a=b)&&m))),.bl (f&&o),.bl (l&&r)]),?_,?_⟩;intro hi;rw[X hi];rfl
 ·unfold WE
  refine MK (xk:=OJ (.tup [.int xf,.tup rows]) ps j (.va (.tup (.str y:: .int b::p.map .int))) (.va (.int i)) (.va (.tup (.str x:: .int a::q.map .int))) (.va (.lst w)) I) (by simp[OJ,b7,H]) ?_;refine MK (xk:=OJ (.tup [.int xf,.tup rows]) ps j (.va (.tup (.str y:: .int b::p.map .int))) (.va (.int i)) (.va (.tup (.str x:: .int a::q.map .int))) (.va (.lst w)) (.ow (.lst [.bl n,.bl (f&&l)]))) ?_ ?_
  ·clear g
   cases f<;>simp[OJ,hn,F,M,L]
  refine MK (xk:=OJ (.tup [.int xf,.tup rows]) ps j (.va (.tup (.str y:: .int b::p.map .int))) (.va (.int i)) (.va (.tup (.str x:: .int a::q.map .int))) (.va (.lst w)) (.ow (.lst [.bl n,.bl (f&&l),.bl (h&&(e&&(decide (a=b)&&m)))]))) ?_ ?_
  ·clear g
   cases h<;>cases e<;>by_cases G:a=b<;>simp[OJ,B,z,E,G]
  refine MK (xk:=OJ (.tup [.int xf,.tup rows]) ps j (.va (.tup (.str y:: .int b::p.map .int))) (.va (.int i)) (.va (.tup (.str x:: .int a::q.map .int))) (.va (.lst w)) (.ow (.lst [.bl n,.bl (f&&l),.bl (h&&(e&&(decide (a=b)&&m))),.bl (f&&o)]))) ?_ ?_
  ·clear g
   generalize (h&&(e&&(decide (a=b)&&m)))=q3;cases f<;>simp[-Xo,OJ,M,A]
  refine MK (xk:=OJ (.tup [.int xf,.tup rows]) ps j (.va (.tup (.str y:: .int b::p.map .int))) (.va (.int i)) (.va (.tup (.str x:: .int a::q.map .int))) (.va (.lst w)) (.ow (.lst [.bl n,.bl (f&&l),.bl (h&&(e&&(decide (a=b)&&m))),.bl (f&&o),.bl (l&&r)]))) ?_ ?_
  ·clear g
   generalize (h&&(e&&(decide (a=b)&&m)))=q3;cases l<;>simp[-Xo,OJ,L,C]
  generalize (h&&(e&&(decide (a=b)&&m)))=q3 at*;generalize hq1:(f&&l)=q1 at*;generalize hq4:(f&&o)=R at*;generalize hq5:(l&&r)=Q at*;generalize hc:[n,q1,q3,R,Q].any id=c at*;cases c;simp[OJ,g];simp[OJ,g,D,ZL]
def OD(i:Nat)(d:cY)(ds:List cY):XW i (d::ds)=.tup [.int i,d]::XW (i+1) ds:=rfl
abbrev GP(a b:Nat):VG:=KR 2 (bL (gN a) (bL (gN b) XY))
theorem Zd{xf:Int}{rows:List cY}{xg:List Kd}(w:Bl [] rows xg){j:Int}{there:cY}(r:0<=j)(q:j<rows.length)(s:there∈rows){as:List Int}(t:aN [there]=b0 (.lst (as.map .int),[])):∀(hs:List cY) (k:Nat) (ps:List (Int×Int)) (g f b a:Sl),(∀d∈hs,d∈rows)->k+hs.length<=rows.length->ps.length+hs.length<1000000->∃(qs:List (Int×Int)) (E D m l:Sl),(∀p∈qs,p.2=j/\(k:Int)<=p.1/\p.1<k+hs.length)/\(∀i∈as,(k:Int)<=i->i<k+hs.length->(i,j)∈qs)/\qs.length<=hs.length∧XQ (GP 5 6) WE (XW k hs) (OJ (.tup [.int xf,.tup rows]) ps j (.va there) g f b a)=b0 (.nx (OJ (.tup [.int xf,.tup rows]) (ps++qs) j (.va there) E D m l))
 |[],k,ps,g,f,b,a,_,_,_=>⟨[],g,f,b,a,by simp,λi _ K o=>by simp at o;lia,by simp,by simp[XW]⟩
 | h :: hs,k,ps,g,f,b,a,u,H,n => by
  simp only[Ba]at H n;obtain⟨c,m,l,L,e⟩:=mo (xf:=xf) w ps (i:=(k:Int)) (j:=j) (here:=h) (there:=there) (by lia) (by lia) r q (u h Ag) s t b a (by lia);obtain⟨qs,C,B,A,y,q1,q2,q3,G⟩:=Zd w r q s t hs (k+1) (ps++if c then[((k:Int),j)]else[]) (.va (.int k)) (.va h) m l (λd I=>u d (Ai _ I)) (by lia) (by cases c<;>simp<;>lia);refine⟨(if c then[((k:Int),j)]else[])++qs,C,B,A,y,?_,?_,?_,?_⟩;intro p n;simp only[Ba];rcases Bq.mp n with z|z;cases c;simp at z;simp at z;subst z;exact⟨rfl,by simp,by simp;lia⟩;obtain⟨x,N,M⟩:=q1 p z;exact⟨x,by lia,by lia⟩;intro i v K o;simp only[Ba]at o;by_cases J:i=k;subst J;rw[L v];simp;exact Bq.mpr (.inr (q2 i v (by lia) (by lia)))
  ·cases c<;>simp<;>lia
  rw[OD,VT];have F:GP 5 6 (.tup [.int k,h]) (OJ (.tup [.int xf,.tup rows]) ps j (.va there) g f b a)=b0 (OJ (.tup [.int xf,.tup rows]) ps j (.va there) (.va (.int k)) (.va h) b a):=by simp[OJ]
  rw[F,SR,e,SS,G,Cr]
structure Prs(rows:List cY)(ps:List (Int×Int)):Prop where
 lt:∀p∈ps,0<=p.1/\p.1<p.2/\p.2<rows.length
 nm:∀(j:Nat) (row:cY) (as:List Int),rows[j]?=b0 row->aN [row]=b0 (.lst (as.map .int),[])->∀i∈as,0<=i->i<j->(i,(j:Int))∈ps
def mP{bs:List Int}(h:as.map cY.int=bs.map cY.int):as=bs:=by
 induction as generalizing bs with
 |nil=>cases bs with
  |nil=>rfl
  |cons=>simp at h
 | cons a as c => cases bs with
  |nil=>simp at h
  |cons b bs=>
   simp only[Av,Hf,cY.int.injEq]at h;rw[h.1,c h.2]
def tri:Nat->Nat->Nat
 |0,_=>0
 |t+1,k=>k+tri t (k+1)
def Ys{n:Nat}(h:n<=10):tri n 0<64:=by
 have:=Eo.mp (show(Ao 11).all (λn=>decide (tri n 0<64))=ba by decide) n (Bj.mpr (by lia))
 exact of_decide_eq_true this
theorem eZ{xf:Int}{rows:List cY}{xg:List Kd}(C:Bl [] rows xg)(D:rows.length<=10):∀(h:List cY) (k:Nat) (ps:List (Int×Int)) (F:Int) (q g f c b:Sl) (o:Sl),rows.drop k=h->k+h.length=rows.length->ps.length+40*h.length<10000->∃(qs:List (Int×Int)) (R Q w v u s:Sl),(∀p∈qs,0<=p.1/\p.1<p.2/\p.2<rows.length)/\(∀(j:Nat) (a:cY) (as:List Int),k<=j->rows[j]?=b0 a->aN [a]=b0 (.lst (as.map .int),[])->∀i∈as,0<=i->i<j->(i,(j:Int))∈qs)/\(qs.length<=tri h.length k/\qs.length<=40*h.length)∧XQ (GP 3 4) WF (XW k h) [.va (.tup [.int xf,.tup rows]),.ow (.lst (ps.map ZL)),.va LA,o,q,g,f,c,b]=b0 (.nx [.va (.tup [.int xf,.tup rows]),.ow (.lst ((ps++qs).map ZL)),.va LA,R,Q,w,v,u,s])
 |[],k,ps,F,q,g,f,c,b,o,x,E,_=>by
  refine⟨[],o,q,g,f,c,b,by simp,λj a as h3 h4=>?_,by simp[tri],by simp[XW]⟩;have:=(Ap.mp h4).1;simp at E;lia
 | t :: h,k,ps,F,q,g,f,c,b,o,x,E,A => by
  simp only[Ba]at E A;have G:t∈rows:=Iv (by rw[x];exact Ag);have Z:rows[k]?=b0 t:=by
   have:(rows.drop k)[0]?=b0 t:=by rw[x];rfl
   simpa using this
  obtain⟨as,_,_,H,_⟩:=L3 (C.all t G);have l:(rows.take k).length=k:=by rw[Cj];lia
  obtain⟨m,w,v,u,s,q1,q2,q3,e⟩:=Zd (xf:=xf) C (j:=(k:Int)) (by lia) (by lia) G H (rows.take k) 0 ps g f c b (λd hd=>Ln hd) (by lia) (by lia);obtain⟨y,P,O,N,M,L,K,V,U,r3,W⟩:=eZ C D h (k+1) (ps++m) 0 (.va t) w v u s (.va (.int k)) (by rw[<-List.drop_drop,x];rfl) (by lia) (by simp;lia);refine⟨m++y,P,O,N,M,L,K,?_,?_,?_,?_⟩;intro p A;rcases Bq.mp A with z|z;obtain⟨z1,z2,J⟩:=q1 p z;rw[l]at J;exact⟨by lia,by lia,by lia⟩;exact V p z;intro j a bs hj r n i I Y X;by_cases B:j=k;subst B;rw[Z]at r;injection r with r;subst r;rw[H]at n;have:as=bs:=mP (by simpa using n);subst this;exact Bq.mpr (.inl (q2 i I (by lia) (by rw[l];lia)));exact Bq.mpr (.inr (U j a bs (by lia) r n i I Y X));simp only[Bm,Ba,tri];lia;rw[OD,VT];have T:GP 3 4 (.tup [.int k,t]) [.va (.tup [.int xf,.tup rows]),.ow (.lst (ps.map ZL)),.va LA,o,q,g,f,c,b]=b0 (OJ (.tup [.int xf,.tup rows]) ps k (.va t) g f c b):=by simp[OJ]
  have S:WF (OJ (.tup [.int xf,.tup rows]) ps k (.va t) g f c b)=b0 (.nx (OJ (.tup [.int xf,.tup rows]) (ps++m) k (.va t) w v u s)):=by
   unfold WF;have hc:=T3 (ds:=rows) (k:=k);rw[HW];have:LQ (K1 (f2 cJ (fV 0) (fC (.int 1))) JZ (K3 (fV 3))) (OJ (.tup [.int xf,.tup rows]) ps k (.va t) g f c b)=b0 (XW 0 (rows.take k),OJ (.tup [.int xf,.tup rows]) ps k (.va t) g f c b):=by simp[OJ,hc]
   rw[this,qF_s];exact e
  rw[T,SR,S,SS];simp only[OJ];rw[W,Cr]
theorem IC{b:Type}{g:b->cY}{k:b->List Int}:∀xs:List b,(∀a∈xs,tpD (g a)=b0 (k a))->TD (xs.map g)=b0 (xs.map k)
 |[],_=>rfl
 |x::xs,h=>by show(tpD (g x)).bind (λq=>(TD (xs.map g)).map λc=>q::c)=_;rw[IC xs λa d=>h a (Ai _ d),h x Ag];rfl
def FH{a:Type}(z:a)(xs:List a):(Ao xs.length).map (λi=>xs.getD i z)=xs:=by refine Ts (by simp) λi b c=>?_;simp at b;simp[b]
def qh{b:Type}(g:b->cY)(k:b->List Int)(z:b)(xs:List b)(l:∀a∈xs,tpD (g a)=b0 (k a))(f:xs.length<64):∃ys:List b,ys.Perm xs/\VW (.lst (xs.map g))=b0 (.lst (ys.map g)):=by
 have c:=UV (xs.map k);rw[Bf]at c;have lt:∀i∈KW (xs.map k),i<xs.length:=λi d=>Bj.mp (c.mem_iff.mp d);have e:((if(xs.map g).length<64 then(TD (xs.map g)).bind λj=>b0 (cY.lst ((KW j).map λi=>(xs.map g).getD i cY.non))else b4):Option cY)=b0 (.lst (((KW (xs.map k)).map λi=>xs.getD i z).map g)):=by
  rw[if_pos (by simpa using f),IC xs l,An,Cq];congr 2;refine Eb λi d=>?_;have:=lt i d;simp[this]
 have h:=c.map λi=>xs.getD i z;rw[FH]at h;exact⟨_,h,e⟩
def kM(ps:List (Int×Int))(a:ps.length<64):∃qs:List (Int×Int),qs.Perm ps/\VW (.lst (ps.map ZL))=b0 (.lst (qs.map ZL)):=
 qh ZL (λp=>[p.1,p.2]) (0,0) ps (λ_ _=>rfl) a
def AO{rows:List cY}(l:Bl [] rows xg)(a:rows.length<=10):∃ps:List (Int×Int),Prs rows ps/\ps.length<64/\W9 [.tup [.int xf,.tup rows]]=b0 (.lst (ps.map ZL),[]):=by obtain⟨d,w,v,u,t,s,r,q1,q2,q3,e⟩:=eZ (xf:=xf) l a rows 0 [] 0 .no .no .no .no .no .no (by simp) (by simp) (by simp;lia);simp only[Dj,Bg,LA]at e;obtain⟨ps,c,o⟩:=kM d (by have:=Ys a;lia);refine⟨ps,⟨λp h=>q1 p (c.mem_iff.mp h),λj b q n m i k g f=>c.mem_iff.mpr (q2 j b q (by lia) n m i k g f)⟩,by rw[c.length_eq];have:=Ys a;lia,?_⟩;unfold W9;rw[bZ,QP.eq_1];simp[bU,e,o]
theorem VR(c:Nat)(j:VB)(p:cY->Bool)(l:VF)(f:cY->cY)(δ:Ev)(g:δ.length=c):∀(ds xh:List cY),(∀d∈ds,∃a b,d=.tup [a,b]/\j (δ++[Sl.va a,Sl.va b])=b0 (p d,δ++[Sl.va a,Sl.va b])/\(p d=ba->l (δ++[Sl.va a,Sl.va b])=b0 (f d,δ++[Sl.va a,Sl.va b])))->xh.length+ds.length<16777216->Z2 c 2 (GP c (c+1)) j l ds xh δ=b0 (xh++(ds.filter p).map f,δ)
 |[],xh,_,_=>by simp
 | d :: ds,xh,h,hl => by
  obtain⟨a,b,rfl,k,o⟩:=h d Ag;have q:GP c (c+1) (.tup [a,b]) (δ++[Sl.no,Sl.no])=b0 (δ++[Sl.va a,Sl.va b]):=by
   have t:(δ++[Sl.no,Sl.no]).set c (.va a)=δ++[Sl.va a,Sl.no]:=by rw[Il _ _ (by lia)];simp[g]
   have s:(δ++[Sl.va a,Sl.no]).set (c+1) (.va b)=δ++[Sl.va a,Sl.va b]:=by rw[Il _ _ (by lia),g,show c+1-c=1 by lia];rfl
   simp[t,s]
  have r:(δ++[Sl.va a,Sl.va b]).take c=δ:=by rw[Ep (by lia),Cv (by lia)]
  have u:xh.length<16777216:=by simp at hl;lia
  cases i:p (.tup [a,b])with
  |true=>
   have m:=VR c j p l f δ g ds (xh++[f (.tup [a,b])]) (λe n=>h e (Ai _ n)) (by simp at hl⊢;lia);have o:=o i;rw[i]at k;simp only[O8,AW,q,FP,k,Yc,o,Xq,if_pos u,r,m];simp[i]
  |false=>
   have m:=VR c j p l f δ g ds xh (λe n=>h e (Ai _ n)) (by simp at hl⊢;lia);rw[i]at k;simp only[O8,AW,q,FP,k,Zt,r,m];simp[i]
def ost(ns:List Int)(n:Nat)(a:cY)(ps:List (Int×Int))(left made:List Int)(b:Sl):Ev:=
 [.va (WY ns),.ow (X6 n),.va a,.va (.lst (ps.map ZL)),.ow (.lst (left.map .int)),.ow (.lst (made.map .int)),b]
def pw(left:List Int)(r:Int):cY->Bool
 |.tup [.int a,.int b]=>decide (b=r)&&SZ (.int a) (left.map .int)
 |_=>bb
theorem MZ{i:Int}:∀{as:List Int},SZ (.int i) (as.map .int)=ba↔i∈as
 |[]=>by simp
 |a::as=>by rw[Av,Yk,Ih,C1,decide_eq_true_eq,MZ (as:=as),Ak];exact⟨λh=>h.imp Eq.symm id,λh=>h.imp Eq.symm id⟩
def kY(ps:List (Int×Int))(left:List Int)(r:Int)(g:ps.length<16777216):Z2 2 2 (GP 2 3) (XO (fB (f2 ZF (fV 3) (fV 1))) (fB (f2 (bI bb) (fV 2) (fO 0)))) (fC (.int 1)) (ps.map ZL) [] [.ow (.lst (left.map .int)),.va (.int r)]=b0 (((ps.map ZL).filter (pw left r)).map λ_=>.int 1,[.ow (.lst (left.map .int)),.va (.int r)]):=by
 have e:∀a:Int,bI bb (.int a) (.lst (left.map .int))=b0 (.bl (SZ (.int a) (left.map .int))):=λa=>by rw[L6 (j:=0) (k:=0) ZV (aK left)];simp
 have:=VR 2 (XO (fB (f2 ZF (fV 3) (fV 1))) (fB (f2 (bI bb) (fV 2) (fO 0)))) (pw left r) (fC (.int 1)) (λ_=>.int 1) [.ow (.lst (left.map .int)),.va (.int r)] rfl (ps.map ZL) [] (λd i=>by
  obtain⟨⟨a,b⟩,_,rfl⟩:=Aw.mp i;refine⟨.int a,.int b,rfl,?_,λ_=>by simp⟩;have h:=e a;have c:pw left r (ZL (a,b))=(decide (b=r)&&SZ (.int a) (left.map .int)):=rfl;rw[c];generalize left.map cY.int=L at*;by_cases f:b=r;simp[f,h];simp[f]) (by simpa using g)
 simpa using this
def XB:NF (.lst ds) (.lst [])=ds.isEmpty:=by cases ds<;>rfl
def rdD(ps:List (Int×Int))(left:List Int):cY->Bool
 |.int r=>((ps.map ZL).filter (pw left r)).isEmpty
 |_=>bb
theorem MF{x:Int}:∀{ns:List Int},x∈ns->∃j,UB x ns=b0 j/\ns.eraseIdx j=ns.erase x
 | i :: ns,h => by
  unfold UB;by_cases e:i=x;rw[if_pos e];exact⟨0,rfl,by simp[e]⟩;rw[if_neg e];obtain⟨j,b,a⟩:=MF (ns:=ns) (by
   rcases Ak.mp h with z|z;exact absurd z.symm e;exact z)
  refine⟨j+1,by rw[b];rfl,?_⟩;rw[List.eraseIdx_cons_succ,a,List.erase_cons_tail (by simpa using e)]
def lS{x:Int}(h:x∈ns):mRem (ns.map .int) [.int x]=b0 ((ns.erase x).map .int):=by obtain⟨j,b,a⟩:=MF h;show(Z3 (ns.map .int)).bind (λns=>(UB x ns).map λj=>(ns.eraseIdx j).map cY.int)=_;rw[ZJ,An,b,Mj,a]
def BM{left:List Int}{r:Int}:rdD ps left (.int r)=ba↔ ∀p∈ps,p.2=r->p.1∉left:=by
 show((ps.map ZL).filter (pw left r)).isEmpty=ba↔_;rw[Pb,Ph];constructor;intro h p a b hl;have:=h (ZL p) (Aw.mpr ⟨p,a,rfl⟩)
 refine this ?_;show(decide (p.2=r)&&SZ (.int p.1) (left.map .int))=ba;rw[MZ.mpr hl,b];simp;intro h d c z;obtain⟨p,a,rfl⟩:=Aw.mp c;have z:(decide (p.2=r)&&SZ (.int p.1) (left.map .int))=ba:=z;rw[Ah,decide_eq_true_eq,MZ]at z;exact h p a z.1 z.2
def pH(ps:List (Int×Int))(left:List Int)(e:ps.length<16777216)(a:left.length<16777216):Z2 2 1 (gN 2) (fB (f2 ZF (bM [1,2] 2 (ZT (fV 0)) (KR 2 (bL (gN 2) (bL (gN 3) XY))) (XO (fB (f2 ZF (fV 3) (fV 1))) (fB (f2 (bI bb) (fV 2) (fO 0)))) (fC (.int 1))) (bJ cL))) (fV 2) (left.map .int) [] [.va (.lst (ps.map ZL)),.ow (.lst (left.map .int))]=b0 ((left.filter λr=>rdD ps left (.int r)).map .int,[.va (.lst (ps.map ZL)),.ow (.lst (left.map .int))]):=by
 have:=XV 2 (fB (f2 ZF (bM [1,2] 2 (ZT (fV 0)) (KR 2 (bL (gN 2) (bL (gN 3) XY))) (XO (fB (f2 ZF (fV 3) (fV 1))) (fB (f2 (bI bb) (fV 2) (fO 0)))) (fC (.int 1))) (bJ cL))) (rdD ps left) (fV 2) id [.va (.lst (ps.map ZL)),.ow (.lst (left.map .int))] rfl (left.map .int) [] (λd b=>by
  obtain⟨r,_,rfl⟩:=Aw.mp b;refine⟨?_,λ_=>by simp⟩;have w:=kY ps left r e;have c:ZF (.lst (((ps.map ZL).filter (pw left r)).map λ_=>cY.int 1)) (.lst [])=b0 (.bl (rdD ps left (.int r))):=by
   rw[L5 (j:=1) (k:=1) (bY λd b=>by obtain⟨_,_,rfl⟩:=Aw.mp b;exact ZV) (bY aL),XB,Gk];rfl
  generalize ((ps.map ZL).filter (pw left r)).map (λ_=>cY.int 1)=W at*;generalize rdD ps left (.int r)=B at*;generalize left.map cY.int=L at*;generalize ps.map ZL=Q at*;simp[b7,w,c]) (by simpa using a)
 rw[this,Ka];simp[Nz]
def ni(ns:List Int)(n:Nat)(c:cY)(ps:List (Int×Int))(left made:List Int)(j:Sl)(hl:ns.length<=63)(H:n<800000)(g:left≠[])(hs:left.Pairwise (· < ·))(h:∀p∈ps,p.1<p.2)(w:left.length<1000)(u:made.length<1000)(q:ps.length<10000):∃x∈left,(∀p∈ps,p.2=x->p.1∉left)/\∃e,ZK (ost ns n c ps left made j)=b0 (.nx (ost ns (n+1) c ps (left.erase x) (made++[x]) e)):=by
 have o:=pH ps left (by lia) (by lia);have F:0<((left.filter λr=>rdD ps left (.int r)).map cY.int).length:=by
  match left,g,hs with
  |a::t,_,hs=>
   have:a∈((a::t).filter λr=>rdD ps (a::t) (.int r)):=by
    refine Dt.mpr ⟨Ag,BM.mpr λp s A y=>?_⟩;have C:=h p s;rw[A]at C;rcases Ak.mp y with z|z;lia;have:=(De.mp hs).1 _ z
    lia
   rw[Bf];exact Ke this
 obtain⟨d,B,G⟩:=WO ns n ((left.filter λr=>rdD ps left (.int r)).map .int) hl (by lia) F;obtain⟨x,m,rfl⟩:=Aw.mp B;obtain⟨b,f⟩:=Dt.mp m;have v:=lS b;have i:=R0 (made.map cY.int) (.int x);have k:made.length<16777216:=by lia
 refine⟨x,b,BM.mp f,.va (.lst ((left.filter λr=>rdD ps left (.int r)).map .int)),?_⟩;unfold ZK;simp only[ost,Ed,Av,Dj];generalize (left.filter λr=>rdD ps left (.int r)).map cY.int=R at*;generalize (left.erase x).map cY.int=E at*;generalize left.map cY.int=L at*;generalize ps.map ZL=Q at*;have l:(made.map cY.int).length<16777216:=by simpa using k
 generalize made.map cY.int=D at*;simp[b7,o,G,v,i,l]
theorem A3(ns:List Int)(b:cY)(ps:List (Int×Int))(hl:ns.length<=63)(l:∀p∈ps,p.1<p.2)(h:ps.length<10000):∀(f n:Nat) (left made:List Int) (d:Sl),left.length=f->n+f<700000->left.Pairwise (· < ·)->made.length+left.length<1000->(∀p∈ps,p.1∈made∨p.1∈left)->(∀p∈ps,∀k:Nat,made[k]?=b0 p.2->p.1∈made.take k)->∃(order:List Int) (c:Sl),order.Perm (made++left)/\(∀p∈ps,∀k:Nat,order[k]?=b0 p.2->p.1∈order.take k)/\aZ (fB (f2 XE (fO 4) (bJ cL))) ZK (f+1) (ost ns n b ps left made d)=b0 (.nx (ost ns (n+f) b ps [] order c))
 |0,n,left,made,d,o,C,q,D,u,t=>by
  have:left=[]:=Fe.mp o
  subst this;refine⟨made,d,by simp,t,QA ?_⟩;have e:XE (.lst []) (.lst [])=b0 (.bl bb):=by rw[UQ (j:=1) (k:=1) (bY aL) (bY aL),XB];rfl
  simp[ost,e]
 | f + 1,n,left,made,d,o,C,q,D,u,t => by
  have i:left≠[]:=λz=>by rw[z]at o;simp at o
  obtain⟨x,v,B,w,G⟩:=ni ns n b ps left made d hl (by lia) i q l (by lia) (by lia) h;have E:=Nr v;obtain⟨order,c,A,y,F⟩:=A3 ns b ps hl l h f (n+1) (left.erase x) (made++[x]) w (by lia) (by lia) (q.sublist (List.erase_sublist)) (by simp;lia) (λp a=>by
   rcases u p a with z|z;exact .inl (Bq.mpr (.inl z));by_cases g:p.1=x;exact .inl (by simp[g]);exact .inr ((Qq g).mpr z)) (λp a k m=>by
   by_cases s:k<made.length;rw[Ax s]at m;rw[Ep (by lia)];exact t p a k m;have H:=(Ap.mp m).1;simp at H;have:k=made.length:=by lia
   subst this;simp at m;have r:=B p a m.symm;rw[Ut];exact(u p a).resolve_right r)
  refine⟨order,c,?_,y,?_⟩;refine A.trans ?_;rw[Cr,List.singleton_append];exact(Qr v).symm.append_left made;have e:XE (.lst (left.map .int)) (.lst [])=b0 (.bl ba):=by
   rw[UQ (j:=1) (k:=1) (bY (aK left)) (bY aL),XB];cases left with
   |nil=>exact absurd rfl i
   |cons=>rfl
  rw[MQ (xk:=ost ns n b ps left made d) (by simp[ost,e]) G,F,show n+1+f=n+(f+1) by lia]
def lU{f:VF}{j:Int}(h:f δ=b0 (.int j,xk))(b:0<=j)(a:j<=16777216):RL f δ=b0 (.lst (a7 0 j.toNat),xk):=by unfold RL;rw[h,An];exact if_pos ⟨b,a⟩
def FT(k:Nat):List Int:=(Ao k).map λi:Nat=>(i:Int)
def M9(k:Nat):a7 0 k=(FT k).map .int:=by simp[a7,FT]
def RU{k:Nat}{a:Int}:a∈FT k↔0<=a/\a<k:=by
 unfold FT;rw[Aw];constructor;rintro ⟨i,b,rfl⟩;have:=Bj.mp b
 lia;rintro ⟨d,c⟩;exact⟨a.toNat,Bj.mpr (by lia),by lia⟩
def DS(k:Nat):(FT k).Pairwise (· < ·):=Kr _ (λa b h=>by lia) (List.pairwise_lt_range)
def HU(k:Nat):(FT k).length=k:=by simp[FT]
def iO(ns:List Int)(n:Nat){rows:List cY}(hl:ns.length<=63)(m:n<500000)(h:Bl [] rows xg)(b:rows.length<=10):∃(ps:List (Int×Int)) (order:List Int),Prs rows ps/\order.Perm (FT rows.length)/\(∀p∈ps,∀k:Nat,order[k]?=b0 p.2->p.1∈order.take k)/\Y4 [WY ns,X6 n,.tup [.int xf,.tup rows]]=b0 (.lst (order.map .int),[X6 (n+rows.length)]):=by
 obtain⟨ps,P,f,em⟩:=AO (xf:=xf) h b;obtain⟨order,l,d,c,e⟩:=A3 ns (.tup [.int xf,.tup rows]) ps hl (λp a=>(P.lt p a).2.1) (by lia) rows.length n (FT rows.length) [] .no (HU _) (by lia) (DS _) (by simp[HU];lia) (λp a=>.inr (RU.mpr ⟨(P.lt p a).1,by have:=P.lt p a;lia⟩)) (λp a k g=>by simp at g);refine⟨ps,order,P,by simpa using d,c,?_⟩;have e:=RV e;simp only[ost,Dj]at e;have i:RL (f1 Z9 (f2 cJ (fV 2) (fC (.int 1)))) [.va (WY ns),.ow (X6 n),.va (.tup [.int xf,.tup rows]),.no,.no,.no,.no]=b0 (.lst ((FT rows.length).map .int),[.va (WY ns),.ow (X6 n),.va (.tup [.int xf,.tup rows]),.no,.no,.no,.no]):=by rw[<-M9,lU (j:=(rows.length:Int)) (xk:=[.va (WY ns),.ow (X6 n),.va (.tup [.int xf,.tup rows]),.no,.no,.no,.no]) (by simp) (by lia) (by lia)];simp
 unfold Y4;rw[bZ,XX.eq_1];generalize (FT rows.length).map cY.int=L at*;generalize order.map cY.int=O at*;generalize ps.map ZL=Q at*;simp[bU,em,i,e]
def Z6.strong{g:cY}(h:Z6 M g):∃as:List Int,(∀a∈as,M a)/\Z6 (· ∈as) g/\aN [g]=b0 (.lst (as.map .int),[]):=by
 cases h with
 | @number n f e=>exact⟨[],(λ_ h=>nomatch h),.number f e,by kernel_rfl⟩
 | @two x a b i d j=>
  refine⟨[a,b],by simp[d,j],.two i (by simp) (by simp),?_⟩;simp only[Ak,Br,or_false]at i;rcases i with rfl|rfl|rfl|rfl|rfl|rfl|rfl<;>kernel_rfl
 | @pick c a b hc d j=>exact⟨[c,a,b],by simp[hc,d,j],.pick (by simp) (by simp) (by simp),by kernel_rfl⟩
 | @load p f e=>exact⟨[],(λ_ h=>nomatch h),.load f e,by kernel_rfl⟩
 | @take p c a f e hc d=>exact⟨[c,a],by simp[hc,d],.take f e (by simp) (by simp),by kernel_rfl⟩
 | @store p a f e d=>exact⟨[a],by simp[d],.store f e (by simp),by kernel_rfl⟩
 | @put p a c f e d hc=>exact⟨[a,c],by simp[d,hc],.put f e (by simp) (by simp),by kernel_rfl⟩
def DQ{k:cY}(h:Z6 (· ∈as) k){ks:List bH}{vs:List cY}(e:Int->Int)(f:∀a∈as,a6 ks vs (.inl a)=b0 (.int (e a))):∃m,bR [k,.dct ks vs]=b0 (m,[])/\Z6 (λb=>∃a∈as,b=e a) m/\M6 .w m=M6 .w k:=by
 cases h with
 | @number n i g=>
  refine⟨_,?_,.number i g,rfl⟩;unfold bR;rw[bZ];unfold aG;simp[bU]
 | @two x a b j d l=>
  have t:=(dne j (y:= "number") (by decide)).1;have s:=(dne j (y:= "load") (by decide)).2;have r:=(dne j (y:= "take") (by decide)).2;have q:=(dne j (y:= "store") (by decide)).2;have o:=(dne j (y:= "put") (by decide)).2;refine⟨.tup [.str x,.int (e a),.int (e b)],?_,.two j ⟨a,d,rfl⟩ ⟨b,l,rfl⟩,?_⟩;unfold bR;rw[bZ];unfold aG;simp[bU,t,s,r,q,o,b7,f a d,f b l]
  ·simp only[Ak,Br,or_false]at j
   rcases j with rfl|rfl|rfl|rfl|rfl|rfl|rfl<;>rfl
 | @pick c a b hc d l=>
  refine⟨.tup [.str "pick",.int (e c),.int (e a),.int (e b)],?_,.pick ⟨c,hc,rfl⟩ ⟨a,d,rfl⟩ ⟨b,l,rfl⟩,rfl⟩;unfold bR;rw[bZ];unfold aG;simp[bU,b7,f a d,f b l,f c hc]
 | @load p i g=>
  refine⟨.tup [.str "load",.int p],?_,.load i g,rfl⟩;unfold bR;rw[bZ];unfold aG;simp[bU,b7]
 | @take p c a i g hc d=>
  refine⟨.tup [.str "take",.int p,.int (e c),.int (e a)],?_,.take i g ⟨c,hc,rfl⟩ ⟨a,d,rfl⟩,rfl⟩;unfold bR;rw[bZ];unfold aG;simp[bU,b7,f a d,f c hc]
 | @store p a i g d=>
  refine⟨.tup [.str "store",.int p,.int (e a)],?_,.store i g ⟨a,d,rfl⟩,rfl⟩;unfold bR;rw[bZ];unfold aG;simp[bU,b7,f a d]
 | @put p a c i g d hc=>
  refine⟨.tup [.str "put",.int p,.int (e a),.int (e c)],?_,.put i g ⟨a,d,rfl⟩ ⟨c,hc,rfl⟩,rfl⟩;unfold bR;rw[bZ];unfold aG;simp[bU,b7,f a d,f c hc]
theorem Bl.at{xg e:List Kd}{rows:List cY}(h:Bl xg rows e):∀{j:Nat}{b:cY},rows[j]?=b0 b->Z6 (λa=>Nm e .w a/\a<xg.length+j) b/\e[xg.length+j]?=b0 (M6 .w b)/\∀a,Nm xg .w a->Nm e .w a:=by
 have keep:∀{k k':List Kd}{g:List cY},Bl k g k'->∀(i:Nat) (x:Kd),k[i]?=b0 x->k'[i]?=b0 x:=by
  intro k k' g h;induction h with
  |nil=>exact λ_ _ z=>z
  |cons _ _ f=>exact λi x z=>f i x (by rw[Ax (Ap.mp z).1];exact z)
 induction h with
 |nil=>intro j b d;simp at d
 | @cons xg e r rows a t f=>
  intro j b d;cases j with
  |zero=>
   simp at d;subst d;refine⟨a.imp λx c=>⟨⟨c.1,keep t _ _ (c.snoc (j:=M6 .w r)).2⟩,by have:=c.lt;lia⟩,keep t _ _ (by simp),λx c=>⟨c.1,keep t _ _ (c.snoc (j:=M6 .w r)).2⟩⟩
  |succ j=>
   obtain⟨m,l,n⟩:=f (by simpa using d);rw[Bm,Ea]at m l;refine⟨m.imp λx c=>⟨c.1,by have:=c.2;lia⟩,by rw[show xg.length+(j+1)=xg.length+1+j by lia];exact l,λx c=>n x c.snoc⟩
noncomputable def swD:cY->cY
 |.tup [a,b]=>.tup [b,a]
 |_=>.non
def kvz:Nat->List Int->List (bH×cY)
 |_,[]=>[]
 |k,x::a=>(.inl x,.int (k:Int))::kvz (k+1) a
theorem ES:∀(xs:List Int) (k:Nat),PH ((XW k (xs.map .int)).map swD)=b0 (kvz k xs)
 |[],_=>rfl
 |x::xs,k=>by rw[Av,OD,Av];show(kprD (.tup [.int x,.int (k:Int)])).bind (λp=>(PH ((XW (k+1) (xs.map .int)).map swD)).map λa=>p::a)=_;rw[ES xs (k+1)];rfl
theorem M5:∀(xs:List Int) (k:Nat),(kvz k xs).map Dr=xs.map .inl
 |[],_=>rfl
 |x::xs,k=>by rw[kvz,Av,M5 xs (k+1)];rfl
theorem AD:∀(xs:List Int) (k i:Nat),i<xs.length->((kvz k xs).map Ej)[i]?=b0 (.int ((k+i:Nat):Int))
 |[],_,i,h=>by simp at h
 |x::xs,k,0,_=>rfl
 |x::xs,k,i+1,h=>by
  have:=AD xs (k+1) i (by simpa using h)
  rw[kvz,Av,List.getElem?_cons_succ,this];congr 3;lia
def mN(nd:order.Nodup){a:Int}(d:a∈order):a6 ((kvz 0 order).map Dr) ((kvz 0 order).map Ej) (.inl a)=b0 (.int (order.idxOf a:Int)):=by
 have c:order.idxOf a<order.length:=Mk d;rw[LX _ _ (order.idxOf a) (.inl a) ?_ (by simp) ?_,AD _ _ _ c];simp;rw[M5];exact Kr _ (λa b h e=>h (by injection e)) nd;rw[M5,Di,Cw c,Sg c];rfl
def TK(rows:List cY)(r:Int):cY:=(rows[r.toNat]?).getD .non
noncomputable def DP(rows:List cY)(names:cY):cY->cY
 |.int r=>match bR [TK rows r,names]with
  |some (d,_)=>d
  |none=>.non
 |_=>.non
def BN{rows os:List cY}{names a:cY}{r:Int}(e:bR [TK rows r,names]=b0 (a,os)):DP rows names (.int r)=a:=by simp only[DP,e]
def G4(order:List Int):cY:=.dct ((kvz 0 order).map Dr) ((kvz 0 order).map Ej)
def gO{rows:List cY}(q:Bl [] rows xg)(P:Prs rows ps)(t:order.Perm (FT rows.length))(B:∀p∈ps,∀k:Nat,order[k]?=b0 p.2->p.1∈order.take k){c g:List Int}{r:Int}(i:order=c++r::g):∃l,bR [TK rows r,G4 order]=b0 (l,[])/\U8 rows r=b0 (TK rows r)/\Z6 (Nm (c.map λa=>M6 .w (TK rows a)) .w) l/\M6 .w l=M6 .w (TK rows r):=by
 have C:order.Nodup:=t.nodup_iff.mpr ((DS _).imp λh=>by lia);have D:r∈order:=by rw[i];simp
 have m:=RU.mp (t.mem_iff.mp D);have s:rows[r.toNat]?=b0 (TK rows r):=by unfold TK;rw[Cw (by lia)];rfl
 obtain⟨G,L,_⟩:=q.at s;obtain⟨z,A,J,I⟩:=G.strong;have y:∀a∈z,a∈c:=λa d=>by
  have f:=A a d;have K:a<r:=by have:=f.2;simp at this;lia
  have E:=P.nm r.toNat _ z s I a d f.1.1 (by lia);have:=B _ E c.length (by rw[i];simp;lia);rw[i,Ut]at this;exact this
 obtain⟨l,e,ok,mk⟩:=DQ J (ks:=(kvz 0 order).map Dr) (vs:=(kvz 0 order).map Ej) (λa=>(order.idxOf a:Int)) (λa d=>mN C (by rw[i];exact Bq.mpr (.inl (y a d))));refine⟨l,e,by rw[YR m.1 (by lia)];exact s,ok.imp λb o=>?_,mk⟩;obtain⟨a,d,rfl⟩:=o;have j:=y a d;have v:c.idxOf a<c.length:=Mk j;have n:order.idxOf a=c.idxOf a:=by rw[i,List.idxOf_append,if_pos j]
 refine⟨by lia,?_⟩;rw[n,Hb,Di,Cw v,Sg v];have f:=(A a d).1;have F:=f.lt;have u:xg.length=rows.length:=by simpa using q.len
 have H:rows[a.toNat]?=b0 (TK rows a):=by unfold TK;rw[Cw (by have:=f.1;lia)];rfl
 obtain⟨_,x,_⟩:=q.at H;simp only[Jr,Gm]at x;have:=f.2;rw[x]at this;injection this with this;rw[Mj,this]
theorem fR{rows:List cY}{xg:List Kd}(h:Bl [] rows xg){ps:List (Int×Int)}(P:Prs rows ps){order:List Int}(g:order.Perm (FT rows.length))(f:∀p∈ps,∀k:Nat,order[k]?=b0 p.2->p.1∈order.take k):∀(b c:List Int),order=c++b->Bl (c.map λa=>M6 .w (TK rows a)) ((b.map .int).map (DP rows (G4 order))) (order.map λa=>M6 .w (TK rows a))
 |[],c,d=>by rw[d,Fm];exact .nil
 |r::b,c,d=>by obtain⟨l,e,_,ok,mk⟩:=gO h P g f d;have j:=BN e;have i:=fR h P g f b (c++[r]) (by rw[d,Cr];rfl);rw[Av,Av,j];refine .cons ok ?_;rw[mk];simpa using i
def lB(ns:List Int)(n:Nat)(c:Int)(hl:ns.length<=63)(hn:n<100000)(h0:0<=c)(h40:c<=10):∃(xf:Int) (rows:List cY) (xg:List Kd) (w:Nat),Bl [] rows xg/\(rows.length:Int)<=c/\0<=xf/\xf<=64/\w<=n+1000/\Y0 [WY ns,X6 n,.int c]=b0 (.tup [.int xf,.tup rows],[X6 w]):=by
 obtain⟨x,C,H⟩:=WO ns n [.int 3,.int 6,.int 9,.int 64] hl (by lia) (by simp);obtain⟨f,rfl,Q,O⟩:∃q:Int,x=.int q/\0<q/\q<=64:=by simp only[Ak,Br,or_false]at C;rcases C with rfl|rfl|rfl|rfl<;>exact⟨_,rfl,by lia,by lia⟩
 have L:=aA ns (n+1) (f+1) hl (by lia) (by lia);have d1a:=U9 ns (n+1) (b:=f+1) (by lia);have d1b:UG ns (n+1) (f+1)<f+1:=Cf _ (by lia);obtain⟨y,A,G⟩:=WO ns (n+2) [.int 0,.int f,.int f,.int (UG ns (n+1) (f+1))] hl (by lia) (by simp);obtain⟨xf,rfl,t,s⟩:∃q:Int,y=.int q/\0<=q/\q<=64:=by simp only[Ak,Br,or_false]at A;rcases A with rfl|rfl|rfl|rfl<;>exact⟨_,rfl,by lia,by lia⟩
 have K:=aA ns (n+3) (c+1) hl (by lia) (by lia);have p:=U9 ns (n+3) (b:=c+1) (by lia);have d2b:UG ns (n+3) (c+1)<c+1:=Cf _ (by lia);obtain⟨rows,xg,g,l,E,m1,m2,I⟩:=jn ns (n+4) (UG ns (n+3) (c+1)) f hl (by lia) Q O p (by lia);have J:=aA ns g 3 hl (by lia) (by decide);have m:rows.length<=10:=by lia
 by_cases F:0<UG ns g 3;refine ⟨xf,rows,xg,g + 1,l,by lia,t,s,by lia,?_⟩;unfold Y0;rw[bZ];unfold VA;simp[bU,H,L,G,K,I,J,F];obtain ⟨ps,order,P,k,v,e2⟩ := iO ns (g + 1) (xf := xf) hl (by lia) l m;have W:order.length=rows.length:=by rw[k.length_eq,HU]
 have U:order.Nodup:=k.nodup_iff.mpr ((DS _).imp λh=>by lia);have N:=VR 0 Y3 (λ_=>ba) (bK (cT (fV 1) (cT (fV 0) cL))) swD [] rfl (XW 0 (order.map .int)) [] (λd j=>by obtain⟨i,Z,e⟩:=Hj j;obtain⟨z,_,rfl⟩:=LF (Ap.mpr ⟨Z,e⟩);exact⟨_,_,rfl,by simp,λ_=>by simp[swD]⟩) (by rw[LG];simp;lia);have f1:(XW 0 (order.map cY.int)).filter (λ_=>ba)=XW 0 (order.map .int):=Ri.mpr λ_ _=>rfl;rw[f1,Bg]at N;have j:AX (.lst ((XW 0 (order.map .int)).map swD))=b0 (G4 order):=by
  show(PH ((XW 0 (order.map .int)).map swD)).bind (λxg=>if(xg.map Dr).Nodup then b0 (cY.dct (xg.map Dr) (xg.map Ej))else b4)=_;rw[ES,An,if_pos];rfl;rw[M5];exact Kr _ (λa b h e=>h (by injection e)) U
 have M:=Y1 2 (cM 2 [] bR (aE (f2 cJ (f2 cJ (fV 0) (fC (.int 1))) (fV 2)) (aE (fV 1) cB))) [.va (.tup [.int xf,.tup rows]),.va (G4 order)] (DP rows (G4 order)) rfl (order.map .int) [] (λd j=>by obtain⟨r,V,rfl⟩:=Aw.mp j;obtain⟨T,u,X⟩:=List.append_of_mem V;obtain⟨bn,e,ea,_,_⟩:=gO l P k v X;have er:=BN e;rw[er];simp[ea,e]) (by simp;lia);rw[Bg]at M;have B:=fR l P k v order [] rfl;refine⟨xf,(order.map .int).map (DP rows (G4 order)),_,g+1+rows.length,B,by simp;lia,t,s,by lia,?_⟩;have o:¬0<UG ns g 3:=F;unfold Y0;rw[bZ];unfold VA;have Y:((order.map cY.int).map (DP rows (G4 order))).length<=16777216:=by simp;lia
 generalize (order.map cY.int).map (DP rows (G4 order))=R at*;generalize (XW 0 (order.map cY.int)).map swD=S at*;generalize G4 order=D at*;simp[bU,H,L,G,K,I,J,o,e2,b7,N,j,M]
def isW:Kd->Bool
 |.w=>ba
 |_=>bb
def jX{a:Int}(h:Nm xg .w a):Ab (xg.map isW) a:=⟨h.1,by rw[Di,h.2];rfl⟩
def mkw{x:String}{t:List cY}:WB [.tup (.str x::t)]=b0 (.bl (isW (M6 .w (.tup (.str x::t)))),[]):=by
 unfold WB;rw[bZ];unfold T7;by_cases h:x= "store";subst h;simp[bU,XA,M6,ZZ,isW];by_cases a:x= "put";subst a;simp[bU,XA,M6,ZZ,isW];have c : ¬ "store" = x := λz => h z.symm;have b:¬ "put"=x:=λz=>a z.symm;simp[bU,XA,M6,ZZ,isW,h,a,c,b]
def lQ(d:List cY)(c b:cY)(xf:Int){k:List Kd}{rows:List cY}(h:Bl xg rows k):xg.length+rows.length<1000->∀s:Sl,∃g,XQ (gN 4) XT (rows++d) [.va c,.va (.int xf),.va b,.ow (.lst ((xg.map isW).map .bl)),s]=XQ (gN 4) XT d [.va c,.va (.int xf),.va b,.ow (.lst ((k.map isW).map .bl)),g]:=by
 induction h with
 |nil=>exact λ_ s=>⟨s,rfl⟩
 | @cons xg k i rows ok h f=>
  intro l s;obtain⟨g,f⟩:=f (by simp at l⊢;lia) (.va i);refine⟨g,?_⟩;have e:=mw (ok.imp λa=>jX);obtain⟨x,t,rfl,_⟩:=PZ ok;have j:xg.length<16777216:=by simp at l;lia
  rw[Ed,Ed]at f;simp only[Av,Dj]at f;rw[Ja,VT,PB,SR];have n:XT [.va c,.va (.int xf),.va b,.ow (.lst ((xg.map isW).map .bl)),.va (.tup (.str x::t))]=b0 (.nx [.va c,.va (.int xf),.va b,.ow (.lst ((xg.map isW).map .bl++[.bl (isW (M6 .w (.tup (.str x::t))))])),.va (.tup (.str x::t))]):=by unfold XT;simp only[Cq]at e;simp[e,mkw,j,cY.hard]
  have m:([.va c,.va (.int xf),.va b,.ow (.lst ((xg.map isW).map .bl)),s]:Ev).set 4 (.va (.tup (.str x::t)))=[.va c,.va (.int xf),.va b,.ow (.lst ((xg.map isW).map .bl)),.va (.tup (.str x::t))]:=rfl;rw[m,n,SS];exact f
def C3{rows:List cY}(h:Bl [] rows xg)(d:0<=xf)(c:xf<=64)(e:rows.length<=40):aW [.tup [.int xf,.tup rows]]=b0 (.bl ba,[]):=by
 obtain⟨f,b⟩:=lQ [] (.tup [.int xf,.tup rows]) (.tup rows) xf h (by simp;lia) .no;rw[Fm]at b;simp only[Dj]at b;have a:¬(40:Int)<(rows.length:Int):=by lia
 unfold aW;rw[bZ,QK.eq_1];simp[bU,NN,NM,d,c,a,b]
def ZC(rows:List cY)(i:Int):cY:=(U8 rows i).getD .non
def NR:cY->Wy
 |.tup (.str x::_)=>x
 |_=>Ay ""
noncomputable def NW:cY->Int
 |.tup (_:: .int p::_)=>p
 |_=>0
noncomputable def E5(a:cY):List Int:=((YB [a]).bind λq=>(YH q.1).bind Z3).getD []
def pM{x:String}(h:¬ED x){t:List cY}:YC [.tup (.str x::t)]=b0 (.non,[]):=by obtain⟨⟨_,d⟩,⟨_,c⟩,⟨_,b⟩,_,a⟩:=off4 h;unfold YC;rw[bZ];unfold T9;simp[bU,N9,XA,d,c,b,a]
def FK{x:String}(h:ED x){d:cY}{t:List cY}:YC [.tup (.str x::d::t)]=b0 (d,[]):=by unfold YC;rw[bZ];unfold T9;rcases h with rfl|rfl|rfl|rfl<;>simp[bU,N9,XA]
def onB(x:Wy):Bool:=decide (Ay "load"=x) || (decide (Ay "take"=x) || (decide (Ay "store"=x) || decide (Ay "put"=x)))
def dN{x:String}(h:ED x):onB (Ay x)=ba:=by
 have:=cel4 h
 simpa[onB,ZZ]using this
def Zo{x:String}(h:¬ED x):onB (Ay x)=bb:=by obtain⟨⟨_,d⟩,⟨_,c⟩,⟨_,b⟩,_,a⟩:=off4 h;simp[onB,ZZ,d,c,b,a]
def YQ{rows:List cY}(g:Bl [] rows xg){i:Int}(j:0<=i)(h:i<rows.length):∃(x:String) (a:Int) (as:List Int),ZC rows i=.tup (.str x:: .int a::as.map .int)/\U8 rows i=b0 (.tup (.str x:: .int a::as.map .int))∧YB [ZC rows i]=b0 (.lst ((E5 (ZC rows i)).map .int),[])/\aN [ZC rows i]=b0 (.lst ((E5 (ZC rows i)).map .int),[])/\(E5 (ZC rows i)).length<=3:=by
 have c:i.toNat<rows.length:=by lia
 have d:U8 rows i=b0 rows[i.toNat]:=by rw[YR j h];simp[c]
 have ok:=g.all _ (Hn c);have k:ZC rows i=rows[i.toNat]:=by unfold ZC;rw[d];rfl
 obtain⟨x,a,as,e,_⟩:=ok.ints;obtain⟨bs,_,m,f,b⟩:=L3 ok;have hc:cnt rows[i.toNat]<=3:=by unfold cnt;split<;>(try split)<;>(try split)<;>(try split)<;>lia
 have l:E5 rows[i.toNat]=bs:=by unfold E5;rw[b,An,sZ,An,ZJ];rfl
 rw[k,l];exact⟨x,a,as,e,e▸d,b,f,by lia⟩
def mf(rows:List cY)(i j:Int):Bool:=
 decide (i<j)&&(!decide (NR (ZC rows i)=Ay "number")&&(decide (NR (ZC rows j)=NR (ZC rows i))&&(!onB (NR (ZC rows i)) || decide (NW (ZC rows j)=NW (ZC rows i)+1))))
def pX{rows:List cY}(l:Bl [] rows xg){i j:Int}(q:0<=i)(p:i<rows.length)(s:0<=j)(r:j<rows.length):XR [.tup rows,.int i,.int j]=b0 (.bl (mf rows i j),[]):=by
 obtain⟨x,a,m,u,f,_⟩:=YQ l q p;obtain⟨y,b,bs,f1,f2,_⟩:=YQ l s r;unfold mf;rw[u,f1];simp only[NR,NW];unfold XR;rw[bZ];unfold T8;by_cases c:i<j;have e : ¬ j <= i := by lia
 by_cases g:x= "number";subst g;simp[bU,f,c,e];by_cases k:y=x;subst k;by_cases hc:ED y;have h:=FK hc (d:= .int a) (t:=m.map .int);have n:=FK hc (d:=.int b) (t:=bs.map .int);have o:=dN hc;simp[bU,f,f2,c,e,g,h,n,o,ZZ];rfl;have h:=pM hc (t:= .int a::m.map .int);have o:=Zo hc;simp[bU,f,f2,c,e,g,h,o,ZZ];simp[bU,f,f2,c,e,g,k,ZZ];have e : j <= i := by lia
 simp[bU,f,c,e]
def chn(rows:List cY):List Int->Bool
 |i::j::r=>mf rows i j&&chn rows (j::r)
 |_=>ba
def inB(b:List Int)(a:Int):Bool:=SZ (.int a) (b.map .int)
noncomputable def E6(rows:List cY)(a is:List Int):List Bool:=is.flatMap λi=>(E5 (ZC rows i)).map (inB a)
noncomputable def pkB(rows:List cY)(is:List Int):Bool:=chn rows is&&!(E6 rows is is).any id
theorem fA:∀bs:List Bool,N8 (bs.map .bl)=b0 bs
 |[]=>rfl
 |b::bs=>by rw[Av,gR,fA bs];rfl
def cut1(ds:List cY):X7 ds (b0 1) b4=ds.drop 1:=by
 unfold X7;cases ds with
 |nil=>rfl
 |cons d ds=>
  have e:HT.sIx (d::ds).length 0 (b0 1)=1:=by show(if(1:Int)<0 then((1:Int)+((d::ds).length:Nat)).toNat else min (1:Int).toNat (d::ds).length)=1;rw[if_neg (by decide)];simp
  rw[e];exact Cv (by simp[HT.sIx])
noncomputable def fD(rows:List cY):cY->cY
 |.tup [.int i,.int j]=>.bl (mf rows i j)
 |_=>.non
theorem CD:∀{is c:List Int}{d:cY},d∈XJ (is.map .int) (c.map .int)->∃i∈is,∃j∈c,d=.tup [.int i,.int j]
 |[],_,_,h=>by simp[XJ]at h
 |_::_,[],_,h=>by simp[XJ]at h
 | i :: is,j :: c,d,h => by
  have h:d∈cY.tup [.int i,.int j]::XJ (is.map .int) (c.map .int):=h;rcases Ak.mp h with rfl|h;exact⟨i,Ag,j,Ag,rfl⟩;obtain⟨a,g,b,f,e⟩:=CD h;exact⟨a,Ai _ g,b,Ai _ f,e⟩
theorem CC:∀(ds es:List cY),(XJ ds es).length<=ds.length
 |[],_=>by simp[XJ]
 |_::_,[]=>by simp[XJ]
 |d::ds,e::es=>by have:=CC ds es;simp[XJ];lia
theorem dP(rows:List cY):∀is:List Int,∃bs:List Bool,(XJ (is.map .int) ((is.drop 1).map .int)).map (fD rows)=bs.map .bl/\bs.all id=chn rows is
 |[]=>⟨[],rfl,rfl⟩
 |[i]=>⟨[],rfl,rfl⟩
 |i::j::r=>by obtain⟨bs,a,b⟩:=dP rows (j::r);exact⟨mf rows i j::bs,by simp only[List.drop_succ_cons,Nd,Av]at a⊢;show fD rows (.tup [.int i,.int j])::_=_;rw[<-a];rfl,by rw[Oo,b];rfl⟩
theorem dR(b:List Int)(R r:cY):∀(as:List Int) (xh:List cY) (s:Sl),xh.length+as.length<100000->∃c,NG (gN 3) Y3 (f2 (bI bb) (fV 3) (fV 0)) (as.map .int) xh [.va (.tup (b.map .int)),.va R,.va r,s]=b0 (xh++(as.map (inB b)).map .bl,[.va (.tup (b.map .int)),.va R,.va r,c])
 |[],xh,s,_=>⟨s,by simp[NG]⟩
 |a::as,xh,s,hl=>by
  simp only[Ba]at hl;obtain⟨c,e⟩:=dR b R r as (xh++[.bl (inB b a)]) (.va (.int a)) (by simp;lia);refine⟨c,?_⟩;have f:xh.length<16777216:=by lia
  have d:bI bb (.int a) (.tup (b.map .int))=b0 (.bl (inB b a)):=NV (j:=0) (k:=0) ZV (aK b);generalize b.map cY.int=J at*;simp only[Av,NG];simp[f,e,d]
theorem Zb{rows:List cY}{xg:List Kd}(c:Bl [] rows xg)(b:List Int):∀(is:List Int) (xh:List cY),(∀i∈is,0<=i/\i<rows.length)->xh.length+(E6 rows b is).length<100000->YD 2 2 (gN 2) Y3 (ZT (cM 1 [] YB (aE (f2 cJ (fV 1) (fV 2)) cB))) (gN 3) Y3 (f2 (bI bb) (fV 3) (fV 0)) (is.map .int) xh [.va (.tup (b.map .int)),.va (.tup rows)]=b0 (xh++(E6 rows b is).map .bl,[.va (.tup (b.map .int)),.va (.tup rows)])
 |[],xh,_,_=>by simp[YD,E6]
 |i::is,xh,h,hl=>by
  have l:E6 rows b (i::is)=(E5 (ZC rows i)).map (inB b)++E6 rows b is:=by unfold E6;rw[Ta]
  rw[l]at hl⊢;simp only[Bm,Bf]at hl;obtain⟨x,a,p,n,d,f,_⟩:=YQ c (h i Ag).1 (h i Ag).2;obtain⟨o,e⟩:=dR b (.tup rows) (.int i) (E5 (ZC rows i)) xh .no (by lia);have g:=Zb c b is (xh++((E5 (ZC rows i)).map (inB b)).map .bl) (λj k=>h j (Ai _ k)) (by simp;lia);rw[<-n]at d;have m:ZT (cM 1 [] YB (aE (f2 cJ (fV 1) (fV 2)) cB)) [.va (.tup (b.map .int)),.va (.tup rows),.va (.int i),.no]=b0 ((E5 (ZC rows i)).map .int,[.va (.tup (b.map .int)),.va (.tup rows),.va (.int i),.no]):=by generalize b.map cY.int=J at*;simp[d,f]
  simp only[Av,YD,AW,Ja,Bg,PB,List.set_cons_succ,Sh,An,CO,if_true,m,e,Rf,Uu];rw[g];simp
def jM{ix:List Nat}{nl:Nat}{fi c:VI}{e b:VG}{d a:VB}{f:VF}(h:fi δ=b0 (ds,xk))(g:YD ix.length nl e d c b a f ds [] (b7 ix xk)=b0 (es,xl)):T4 ix nl fi e d c b a f δ=b0 (.lst es,bD ix xl xk):=by unfold T4;rw[h,An,g];rfl
theorem AU{rows:List cY}{xg:List Kd}(b:Bl [] rows xg)(a:List Int):∀is:List Int,(∀i∈is,0<=i/\i<rows.length)->(E6 rows a is).length<=3*is.length
 |[],_=>by simp[E6]
 |i::is,h=>by have c:=AU b a is λj d=>h j (Ai _ d);obtain⟨_,_,_,_,_,_,_,hc⟩:=YQ b (h i Ag).1 (h i Ag).2;unfold E6 at c⊢;rw[Ta,Bm,Bf,Ba];lia
def mh:(ds.map λ_=>cY.bl ba)=(ds.map λ_=>ba).map .bl:=by simp
def ly{rows:List cY}(k:Bl [] rows xg){is:List Int}(h:∀i∈is,0<=i/\i<rows.length)(hl:is.length<1000):aJ [.tup [.int xf,.tup rows],.int is.length,.tup (is.map .int)]=b0 (.bl (pkB rows is),[]):=by
 have q:=Y1 1 (cM 3 [] bA (aE (fV 1) (aE (fC (.int 0)) (aE (f2 L8 (f1 Z9 (fV 0)) (fC (.int 1))) cB)))) [.va (.tup rows)] (λ_=>.bl ba) rfl (is.map .int) [] (λd f=>by
  obtain⟨i,a,rfl⟩:=Aw.mp f;have v:=(h i a).1;have u:i<=(rows.length:Int)-1:=by have:=(h i a).2;lia
  simp[v,u]) (by simp;lia)
 obtain⟨bs,s,r⟩:=dP rows is;have p:=VR 1 Y3 (λ_=>ba) (cM 3 [] XR (aE (fV 0) (aE (fV 1) (aE (fV 2) cB)))) (fD rows) [.va (.tup rows)] rfl (XJ (is.map .int) ((is.drop 1).map .int)) [] (λd f=>by obtain⟨i,a,j,b,rfl⟩:=CD f;have b:=Iv b;have e:=pX k (h i a).1 (h i a).2 (h j b).1 (h j b).2;exact⟨_,_,rfl,by simp,λ_=>by simp[e,fD]⟩) (by have:=CC (is.map .int) ((is.drop 1).map .int);simp at this⊢;lia);rw[Ri.mpr λ_ _=>rfl,Bg,s]at p;rw[Bg,mh]at q;have o:=Zb k is is [] h (by have:=AU k is is h;simp;lia);rw[Bg]at o;have z:oSl (.tup (is.map .int)) (b0 1) b4=b0 (.tup ((is.drop 1).map .int)):=by show b0 (cY.tup (X7 (is.map .int) (b0 1) b4))=_;rw[cut1,Vu]
 have t:((is.map cY.int).length:Int)=is.length:=by simp
 have c:∀{g:List Bool->Bool}{l:List Bool},E9 g (.lst (l.map .bl))=b0 (.bl (g l)):=λ{g l}=>by rw[M8,fA];rfl
 have y:E8 (.lst (((is.map cY.int).map λ_=>ba).map .bl))=b0 (.bl ba):=by refine c.trans ?_;simp
 have x:E8 (.lst (bs.map .bl))=b0 (.bl (chn rows is)):=by rw[<-r];exact c
 have w:oAny (.lst ((E6 rows is is).map .bl))=b0 (.bl ((E6 rows is is).any id)):=c;unfold aJ;rw[bZ];unfold V8;have m:=jM (ix:=[2,3]) (fi:=ZT (fV 2)) (δ:=[.va (.tup [.int xf,.tup rows]),.va (.int is.length),.va (.tup (is.map .int)),.va (.tup rows)]) (ds:=is.map .int) (xk:=[.va (.tup [.int xf,.tup rows]),.va (.int is.length),.va (.tup (is.map .int)),.va (.tup rows)]) (by simp) o;unfold pkB;generalize (is.drop 1).map cY.int=C at*;generalize ((is.map cY.int).map λ_=>ba)=T at*;generalize is.map cY.int=J at*;generalize (is.length:Int)=n at*;generalize E6 rows is is=N at*;generalize N.any id=B at*;generalize chn rows is=A at*;cases A<;>simp[-M8,bU,b7,q,p,m,z,t,y,x,w]
theorem EV{k:bH}:∀ks:List bH,(∀j∈ks,j=k)->ks.foldl ZD [k]=[k]
 |[],_=>rfl
 |j::ks,h=>by rw[Ge,h j Ag];have e:ZD [k] k=[k]:=if_pos (V9.mpr Ag);rw[e];exact EV ks λi a=>h i (Ai _ a)
theorem gJ:∀(ks a:List bH),a.length<=(ks.foldl ZD a).length
 |[],a=>Al _
 |k::ks,a=>by rw[Ge];refine Fl ?_ (gJ ks _);unfold ZD;split<;>simp
theorem EU{k:bH}:∀ks:List bH,(¬ ∀j∈ks,j=k)->2<=(ks.foldl ZD [k]).length
 |[],h=>absurd (λj b=>by cases b) h
 | j :: ks,h => by
  rw[Ge];by_cases e:j=k;subst e;have e:ZD [j] j=[j]:=if_pos (V9.mpr Ag);rw[e];refine EU ks λz=>h λi a=>?_;rcases Ak.mp a with rfl|a
  rfl;exact z i a;have c : ZD [k] j = [k,j] := if_neg λz => e (by simpa using V9.mp z);rw[c];exact gJ ks [k,j]
theorem Zr:∀xs:List Wy,ksD (xs.map .str)=b0 (xs.map Oe)
 |[]=>rfl
 |x::xs=>by show(WM (.str x)).bind (λk=>(ksD (xs.map .str)).map λa=>k::a)=_;rw[Zr xs];rfl
end
def jV(x:Wy)(xs:List Wy)(hl:xs.length<200):∃n:Int,VE (.lst ((x::xs).map .str))=b0 (.int n)/\(n=1↔ ∀y∈xs,y=x):=by
 have e:VE (.lst ((x::xs).map .str))=(ksD ((x::xs).map .str)).bind λb=>if b.length<256 then b0 (.int (b.foldl ZD []).length)else b4:=rfl
 rw[Zr,An,if_pos (by simp;lia),Av (f:=Oe),Ge,show ZD [] (.inr x)=[.inr x] from rfl]at e;refine⟨_,e,?_⟩;constructor;intro h;refine Classical.byContradiction λz=>?_
 have:=EU (k:=.inr x) (xs.map Oe) λq=>z λy a=>by
  have:=q (.inr y) (Aw.mpr ⟨y,a,rfl⟩)
  injection this
 lia;intro h;rw[EV _ λj c=>by obtain⟨y,a,rfl⟩:=Aw.mp c;rw[h y a]];rfl
def C8{rows:List cY}{i j:Int}:mf rows i j=ba↔i<j/\NR (ZC rows i)≠Ay "number" /\NR (ZC rows j)=NR (ZC rows i)/\(onB (NR (ZC rows i))=ba->NW (ZC rows j)=NW (ZC rows i)+1):=by
 unfold mf;simp only[Ah,decide_eq_true_eq,Bool.not_eq_true',decide_eq_false_iff_not,Ih];constructor;rintro ⟨d,c,b,a⟩;exact⟨d,c,b,λz=>a.resolve_left (by rw[z];decide)⟩;rintro ⟨d,c,b,a⟩;refine⟨d,c,b,?_⟩;cases e:onB (NR (ZC rows i))with
 |true=>exact .inr (a e)
 |false=>exact .inl rfl
def FI(p:Int)(n:Nat):((Ao (n+1)).map λk:Nat=>p+(k:Int))=p::(Ao n).map λk:Nat=>p+1+(k:Int):=by
 rw[Fh,Av,Cq];congr 1;simp;refine Eb λk _ => ?_;simp only[Op];push_cast;lia
theorem gV{rows:List cY}:∀(r:List Int) (i:Int),(i::r).Pairwise (· < ·)->r≠[]->(chn rows (i::r)=ba↔NR (ZC rows i)≠Ay "number" /\(∀j∈r,NR (ZC rows j)=NR (ZC rows i))∧(onB (NR (ZC rows i))=ba->((i::r).map λj=>NW (ZC rows j))=(Ao (r.length+1)).map λk:Nat=>NW (ZC rows i)+(k:Int)))
 |[],_,_,h=>absurd rfl h
 |[j],i,f,_=>by
  have b:=(De.mp f).1 j (by simp);show(mf rows i j&&ba)=ba↔_;rw[Bool.and_true,C8];have e:(([i,j].map λj=>NW (ZC rows j))=(Ao ([j].length+1)).map λk:Nat=>NW (ZC rows i)+(k:Int))↔NW (ZC rows j)=NW (ZC rows i)+1:=by show[_,_]=[_,_]↔_;simp
  rw[e];simp[b]
 | j :: k :: r,i,f,_ => by
  obtain⟨o,f⟩:=De.mp f;have b:=o j (by simp);have n:=gV (rows:=rows) (k::r) j f (by simp);show(mf rows i j&&chn rows (j::k::r))=ba↔_;rw[Ah,C8,n];have e:(((i::j::k::r).map λj=>NW (ZC rows j))=(Ao ((j::k::r).length+1)).map λk:Nat=>NW (ZC rows i)+(k:Int))↔((j::k::r).map λj=>NW (ZC rows j))=(Ao ((k::r).length+1)).map λk:Nat=>NW (ZC rows i)+1+(k:Int):=by rw[FI,Av,Hf];simp
  rw[e];constructor;rintro ⟨⟨_,g,c,a4⟩,s,p,l⟩;refine⟨g,λq d=>?_,λz=>?_⟩;rcases Ak.mp d with rfl|d;exact c;rw[p q d,c];rw[c]at l;rw[l z,a4 z];rintro ⟨m,g,c⟩;have a:=g j (by simp);have a4:onB (NR (ZC rows i))=ba->NW (ZC rows j)=NW (ZC rows i)+1:=λz=>by
   have:=c z
   rw[Av,FI,Hf]at this;rw[this.1]
  refine⟨⟨b,m,a,a4⟩,by rw[a];exact m,λq d=>by rw[g q (Ai _ d),a],λz=>?_⟩;rw[a]at z;rw[a4 z];exact c z
theorem G7{b:Type}{p:b->Bool}:∀l:List b,(!(l.filter p).isEmpty)=l.any p
 |[]=>rfl
 |a::l=>by rw[Hi,<-G7 l];cases e:p a<;>simp[List.filter_cons,e]
def Zv{as:List Int}:∀{bs:List Int},NF (.lst (as.map .int)) (.lst (bs.map .int))=decide (as=bs):=by
 induction as with
 |nil=>intro bs;cases bs<;>rfl
 |cons a as c=>
  intro bs;cases bs with
  |nil=>rfl
  |cons b bs=>
   show(NF (.int a) (.int b)&&NF (.lst (as.map .int)) (.lst (bs.map .int)))=_;rw[c,C1,<-Mh];exact decide_eq_decide.mpr (by simp)
def strD(d:cY):cY:=.str (NR d)
def plD(d:cY):cY:=.int (NW d)
noncomputable def nmT(a:List Int)(d:cY):Bool:=(E5 d).any (inB a)
def sL(rows:List cY)(a is:List Int):(E6 rows a is).any id=(is.map (ZC rows)).any (nmT a):=by unfold E6 nmT;rw[List.any_flatMap,Py];congr 1;funext i;simp[Py,Nz]
def nP{xf:Int}{rows:List cY}{xg:List Kd}(Q:Bl [] rows xg){i:Int}{r:List Int}(h:∀j∈i::r,0<=j/\j<rows.length)(hp:(i::r).Pairwise (· < ·))(hr:r≠[])(hl:r.length<100):ZN [.tup [.int xf,.tup rows],.int ((i::r).length:Nat),.tup ((i::r).map .int)]=b0 (.bl (pkB rows (i::r)),[]):=by
 have v:=Y1 1 (f2 cJ (f2 cJ (fV 0) (fC (.int 1))) (fV 1)) [.va (.tup [.int xf,.tup rows])] (λd=>match d with|.int j=>ZC rows j|_=>.non) rfl ((i::r).map .int) [] (λd f=>by obtain⟨j,s,rfl⟩:=Aw.mp f;obtain⟨x,a,l,t,L,_⟩:=YQ Q (h j s).1 (h j s).2;simp[t,L]) (by simp;lia);rw[Bg,Cq]at v;have w1:((i::r).map ((λd=>match d with|cY.int j=>ZC rows j|_=>.non)∘cY.int))=(i::r).map (ZC rows):=rfl;rw[w1]at v;have m:∀d∈(i::r).map (ZC rows),∃(x:String) (a:Int) (l:List Int),d=.tup (.str x:: .int a::l.map .int)/\aN [d]=b0 (.lst ((E5 d).map .int),[])/\(E5 d).length<=3:=λd f=>by obtain⟨j,s,rfl⟩:=Aw.mp f;obtain⟨x,a,l,t,_,_,L,e3⟩:=YQ Q (h j s).1 (h j s).2;exact⟨x,a,l,t,L,e3⟩
 have X:((i::r).map (ZC rows)).length<200:=by simp;lia
 have A:=Y1 0 (f2 cJ (fV 0) (fC (.int 0))) [] strD rfl ((i::r).map (ZC rows)) [] (λd f=>by obtain⟨x,a,l,rfl,_⟩:=m d f;simp[strD,NR]) (by simp;lia);have T:=Y1 0 (f2 cJ (fV 0) (fC (.int 1))) [] plD rfl ((i::r).map (ZC rows)) [] (λd f=>by obtain⟨x,a,l,rfl,_⟩:=m d f;simp[plD,NW]) (by simp;lia);obtain⟨x,a,l,t,L,_⟩:=YQ Q (h i Ag).1 (h i Ag).2;have S:=Y1 1 (f2 aV (f2 cJ (f2 cJ (fV 0) (fC (.int 0))) (fC (.int 1))) (fV 1)) [.va (.lst ((i::r).map (ZC rows)))] (λd=>match d with|.int k=>.int (a+k)|_=>.non) rfl (a7 0 (i::r).length) [] (λd f=>by unfold a7 at f;obtain⟨k,_,rfl⟩:=Aw.mp f;rw[Av,t];simp) (by simp[a7];lia);have M:=XV 1 (fB (f2 XE (bM [0] 1 (ZT (cM 1 [] aN (aE (fV 1) cB))) (gN 1) (fB (f2 (bI bb) (fV 1) (fV 0))) (fV 1)) (bJ cL))) (nmT (i::r)) (fV 1) id [.va (.tup ((i::r).map .int))] rfl ((i::r).map (ZC rows)) [] (λd f=>by
  obtain⟨x,a,l,_,e,F⟩:=m d f;refine⟨?_,λ_=>by simp⟩;have c:=XV 1 (fB (f2 (bI bb) (fV 1) (fV 0))) (λd=>SZ d ((i::r).map .int)) (fV 1) id [.va (.tup ((i::r).map .int))] rfl ((E5 d).map .int) [] (λq C=>by obtain⟨b,_,rfl⟩:=Aw.mp C;have P:bI bb (.int b) (.tup ((i::r).map .int))=b0 (.bl (SZ (.int b) ((i::r).map .int))):=NV (j:=0) (k:=0) ZV (aK (i::r));generalize (i::r).map cY.int=J at*;exact⟨by simp[P],λ_=>by simp⟩) (by simp;lia);have C:XE (.lst ((((E5 d).map cY.int).filter (λd=>SZ d ((i::r).map .int))).map id)) (.lst [])=b0 (.bl (nmT (i::r) d)):=by
   rw[UQ (j:=1) (k:=1) (bY λq C=>by obtain⟨q',O,rfl⟩:=Aw.mp C;exact aK _ q' (Dt.mp O).1) (bY aL),XB,Je,Ka,Gk,G7];rfl
  rw[Bg]at c;generalize ((((E5 d).map cY.int).filter (λd=>SZ d ((i::r).map .int))).map id)=W at*;generalize (E5 d).map cY.int=N at*;generalize (i::r).map cY.int=J at*;simp[b7,e,c,C]) (by simp;lia)
 have V:NR (ZC rows i)=Ay x:=by rw[t];rfl
 have ha:NW (ZC rows i)=a:=by rw[t];rfl
 have w:=gV (rows:=rows) r i hp hr;rw[V,ha]at w;obtain⟨n,B,H⟩:=jV (Ay x) (r.map λj=>NR (ZC rows j)) (by simp;lia);have s1:((i::r).map (ZC rows)).map strD=(Ay x::r.map λj=>NR (ZC rows j)).map .str:=by rw[Av,Av,Av,Cq,Cq,<-V];rfl
 have s2:((i::r).map (ZC rows)).map plD=((i::r).map λj=>NW (ZC rows j)).map .int:=by rw[Cq,Cq];rfl
 have s3:((a7 0 (i::r).length).map λd=>match d with|cY.int k=>cY.int (a+k)|_=>.non)=((Ao (r.length+1)).map λk:Nat=>a+(k:Int)).map .int:=by unfold a7;rw[Cq,Cq];refine Eb λk _=>?_;simp
 rw[Bg,s1]at A;rw[Bg,s2]at T;rw[Bg,s3]at S;rw[Bg,Je]at M;have H:n=1↔ ∀j∈r,NR (ZC rows j)=Ay x:=H.trans ⟨λz j s=>z _ (Aw.mpr ⟨j,s,rfl⟩),λz y hy=>by obtain⟨j,s,rfl⟩:=Aw.mp hy;exact z j s⟩;have p:XE (.lst (((i::r).map λj=>NW (ZC rows j)).map .int)) (.lst (((Ao (r.length+1)).map λk:Nat=>a+(k:Int)).map .int))=b0 (.bl (!decide (((i::r).map λj=>NW (ZC rows j))=(Ao (r.length+1)).map λk:Nat=>a+(k:Int)))):=by rw[UQ (j:=1) (k:=1) (bY (aK _)) (bY (aK _)),Zv]
 have R:ZF (.lst (((i::r).map (ZC rows)).filter (nmT (i::r)))) (.lst [])=b0 (.bl (!(E6 rows (i::r) (i::r)).any id)):=by
  rw[L5 (j:=2) (k:=1) (bY λd f=>by obtain⟨x,a,l,rfl,_⟩:=m d (Dt.mp f).1;exact VJ (Z7 YZ (Z7 ZV (aK l)))) (bY aL),XB,sL,<-G7,Bool.not_not]
 have g:(((i::r).map cY.int).length:Int)=((i::r).length:Nat):=by simp
 have WD:U8 ((i::r).map (ZC rows)) 0=b0 (.tup (.str x:: .int a::l.map .int)):=by rw[Av,t,YR (by decide) (by simp)];rfl
 unfold pkB;unfold ZN;rw[bZ];unfold W6;generalize (E6 rows (i::r) (i::r)).any id=nb at*;generalize ((i::r).map (ZC rows)).filter (nmT (i::r))=FL at*;generalize (i::r).map (ZC rows)=RH at*;generalize (Ay x::r.map λj=>NR (ZC rows j)).map cY.str=HS at*;generalize (i::r).map cY.int=J at*;have hb1:((i::r).length:Nat)<1000:=by simp;lia
 generalize (i::r).length=b at*;have E:(b:Int)<4611686018427387904:=by lia
 have D:(-4611686018427387904:Int)<=b:=by lia
 by_cases K:n=1;have G:=H.mp K;subst K;by_cases u:x= "number";have hc:chn rows (i::r)=bb:=by rw[<- Lj,w];rintro ⟨z,_⟩;exact z (by rw[u])
 subst u;simp -implicitDefEqProofs [bU,b7,v,A,g,B,WD,hc];by_cases F:ED x;have o:=dN F;have U:=cel4 F;by_cases I:((i::r).map λj=>NW (ZC rows j))=(Ao (r.length+1)).map λk:Nat=>a+(k:Int);have hc : chn rows (i :: r) = ba := w.mpr ⟨by rw [Ne,ZZ];exact u,G,λ_ => I⟩;rw[decide_eq_true I]at p;generalize ((i::r).map λj=>NW (ZC rows j)).map cY.int=PL at*;generalize ((Ao (r.length+1)).map λk:Nat=>a+(k:Int)).map cY.int=PR at*;simp -implicitDefEqProofs [bU,b7,v,A,T,S,M,g,B,WD,hc,u,U,E,D,p,R];have hc:chn rows (i::r)=bb:=by rw[<- Lj,w];rintro ⟨_,_,z⟩;exact I (z o)
 rw[decide_eq_false I]at p;generalize ((i::r).map λj=>NW (ZC rows j)).map cY.int=PL at*;generalize ((Ao (r.length+1)).map λk:Nat=>a+(k:Int)).map cY.int=PR at*;simp -implicitDefEqProofs [bU,b7,v,A,T,S,M,g,B,WD,hc,u,U,E,D,p,R];obtain⟨⟨_,z1⟩,⟨_,z2⟩,⟨_,Z⟩,_,Y⟩:=off4 F;have hc:chn rows (i::r)=ba:=w.mpr ⟨by rw[Ne,ZZ];exact u,G,λz=>by rw[Zo F]at z;cases z⟩;simp -implicitDefEqProofs [bU,b7,v,A,M,g,B,WD,hc,u,z1,z2,Z,Y,R];have hc:chn rows (i::r)=bb:=by rw[<- Lj,w];rintro ⟨_,z,_⟩;exact K (H.mpr z)
 simp -implicitDefEqProofs [bU,b7,v,A,g,B,K,hc]
abbrev Bk(xf:Int)(rows:List cY):cY:=.tup [.int xf,.tup rows]
theorem gD{rows:List cY}:∀s:List Int,chn rows s=ba->s.Pairwise (· < ·)
 |[],_=>.nil
 |[i],_=>Kb _ _
 | i :: j :: r,h => by
  have h:(mf rows i j&&chn rows (j::r))=ba:=h;rw[Ah]at h;have b:=(C8.mp h.1).1;have c:=gD (j::r) h.2;refine De.mpr ⟨λk a=>?_,c⟩;rcases Ak.mp a with rfl|a;exact b;have:=(De.mp c).1 k a
  lia
noncomputable def OL(rows:List cY)(b:Nat)(s:List Int):Bool:=decide (s.length=b)&&pkB rows s
def W7{rows:List cY}{b:Nat}{s:List Int}(h:OL rows b s=ba):s.length=b/\s.Pairwise (· < ·):=by unfold OL pkB at h;simp only[Ah,decide_eq_true_eq]at h;exact⟨h.1,gD s h.2.1⟩
def GJ(rows:List cY)(s:List Int):Prop:=∀i∈s,0<=i/\i<rows.length
section
variable{xf:Int}{rows:List cY}{xg:List Kd}{b:Nat}
def mG(a:Bl [] rows xg){is:List Int}(h:GJ rows is)(hl:is.length<1000):aJ [Bk xf rows,.int b,cV is]=b0 (.bl (OL rows b is),[]):=by
 unfold OL cV;by_cases e:is.length=b;subst e;rw[decide_eq_true rfl,Ls];exact ly a h hl;rw[decide_eq_false e,Ku];have:¬(is.length:Int)=(b:Int):=by lia
 unfold aJ;rw[bZ];unfold V8;simp[bU,this]
def rwD(rows:List cY):cY->cY
 |.int j=>ZC rows j
 |_=>.non
def JV(f:Bl [] rows xg)(g:2<=b){is:List Int}(h:GJ rows is)(k:is.Pairwise (· < ·))(hl:is.length<100):ZN [Bk xf rows,.int b,cV is]=b0 (.bl (OL rows b is),[]):=by
 unfold OL cV;by_cases e:is.length=b;subst e;rw[decide_eq_true rfl,Ls];cases is with
 |nil=>simp at g
 |cons i r=>exact nP f h k (λz=>by subst z;simp at g) (by simp at hl;lia)
 rw[decide_eq_false e,Ku];have o:=Y1 1 (f2 cJ (f2 cJ (fV 0) (fC (.int 1))) (fV 1)) [.va (.tup [.int xf,.tup rows])] (rwD rows) rfl (is.map .int) [] (λd l=>by obtain⟨j,c,rfl⟩:=Aw.mp l;obtain⟨x,a,p,n,m,_⟩:=YQ f (h j c).1 (h j c).2;simp[n,m,rwD]) (by simp;lia);have:¬(is.length:Int)=(b:Int):=by lia
 unfold ZN;rw[bZ];unfold W6;simp[bU,b7,o,this]
end
section
variable{ps:List (List Int)}
theorem GG:∀(ps:List (List Int)) (xh:List cY),xh.length+ps.flatten.length<100000->YD 0 2 (gN 0) Y3 (ZT (fV 0)) (gN 1) Y3 (fV 1) (ps.map cV) xh []=b0 (xh++ps.flatten.map .int,[])
 |[],xh,_=>by simp[YD]
 | p :: ps,xh,hl => by
  have inr:∀(a xh:List cY) (x:Sl),xh.length+a.length<100000->∃b,NG (gN 1) Y3 (fV 1) a xh [.va (cV p),x]=b0 (xh++a,[.va (cV p),b]):=by
   intro a;induction a with
   |nil=>exact λxh x _=>⟨x,by simp[NG]⟩
   |cons d a c=>
    intro xh x hl;simp only[Ba]at hl;obtain⟨b,e⟩:=c (xh++[d]) (.va d) (by simp;lia);refine⟨b,?_⟩;have g:xh.length<16777216:=by lia
    simp only[NG];simp[g,e]
  simp only[Ks,Bm]at hl;obtain⟨b,e⟩:=inr (p.map .int) xh .no (by simp;lia);have c:=GG ps (xh++p.map .int) (by simp[-Rj];lia);have f:ZT (fV 0) [.va (cV p),.no]=b0 (p.map .int,[.va (cV p),.no]):=rfl;simp only[Av,YD,AW,Bg,PB,Sh,An,CO,if_true,f,e,Uu];rw[c];simp
def rA{ix:List Nat}{nl:Nat}{fi c:VI}{e b:VG}{d a:VB}{f:VF}{ds es:List cY}{δ xk xl:Ev}(h:fi δ=b0 (ds,xk))(g:YD ix.length nl e d c b a f ds [] (b7 ix xk)=b0 (es,xl)):T4 ix nl fi e d c b a f δ=b0 (.lst es,bD ix xl xk):=by unfold T4;rw[h,An,g];rfl
def o7(ps:List (List Int))(hl:ps.flatten.length<90000):W5 [.tup (ps.map cV)]=b0 (.lst (ps.flatten.map .int),[]):=by have a:=rA (ix:=[]) (fi:=ZT (fV 0)) (δ:=[.va (.tup (ps.map cV))]) (ds:=ps.map cV) (xk:=[.va (.tup (ps.map cV))]) (by simp) (GG ps [] (by simp[-Rj];lia));unfold W5;rw[bZ];unfold U4;generalize ps.map cV=T at*;simp[bU,a]
theorem dY:∀(ks a:List bH),(a++ks).Nodup->ks.foldl ZD a=a++ks
 |[],a,_=>by simp
 |k::ks,a,h=>by have b:k∉a:=λz=>(He.mp h).2.2 k z k Ag rfl;have e:ZD a k=a++[k]:=if_neg λz=>b (V9.mp z);rw[Ge,e,dY ks (a++[k]) (by rw[Cr];exact h),Cr];rfl
theorem dH:∀(ks a:List bH),(ks.foldl ZD a).length<=a.length+ks.length
 |[],a=>Al _
 |k::ks,a=>by
  have:=dH ks (ZD a k)
  have:=sk a k
  rw[Ge,Ba];lia
theorem AB:∀(ks b:List bH),b.Nodup->(ks.foldl ZD b).length=b.length+ks.length->(b++ks).Nodup
 |[],b,h,_=>by simpa using h
 | k :: ks,b,h,e => by
  rw[Ge,Ba]at e;by_cases d:k∈b;have f:ZD b k=b:=if_pos (V9.mpr d);rw[f]at e;have:=dH ks b;lia;have f : ZD b k = b ++ [k] := if_neg λz => d (V9.mp z);rw[f]at e;have:=AB ks (b++[k]) (He.mpr ⟨h,by simp,λa g c hc e=>d (by rw[Aq.mp hc]at e;exact e▸g)⟩) (by rw[e];simp;lia)
  rwa[Cr]at this
theorem gH:∀xs:List Int,ksD (xs.map .int)=b0 (xs.map Na)
 |[]=>rfl
 |x::xs=>by show(WM (.int x)).bind (λk=>(ksD (xs.map .int)).map λa=>k::a)=_;rw[gH xs];rfl
def kN(ns:List Int):Nat:=((ns.map (Na:Int->bH)).foldl ZD []).length
def ndB(ns:List Int):Bool:=decide (kN ns=ns.length)
def AR{ns:List Int}:ndB ns=ba↔ns.Nodup:=by
 have inj:∀{ns:List Int},(ns.map (Na:Int->bH)).Nodup↔ns.Nodup:=λ{ns}=>⟨λh=>(Fj.mp h).imp λg e=>g (by rw[e]),λh=>Fj.mpr (h.imp λg e=>g (by injection e))⟩;unfold ndB kN;rw[decide_eq_true_eq];constructor;intro h;have:=AB (ns.map (Na:Int->bH)) [] .nil (by rw[h];simp)
 exact inj.mp this;intro h;rw[dY _ _ (by rw[Bg];exact inj.mpr h)];simp
def lenI(ns:List Int)(hl:ns.length<256):VE (.lst (ns.map .int))=b0 (.int (kN ns)):=by
 have e:VE (.lst (ns.map .int))=(ksD (ns.map .int)).bind λa=>if a.length<256 then b0 (.int (a.foldl ZD []).length)else b4:=rfl
 rw[e,gH,An,if_pos (by simp;lia)];rfl
def lenE(ns:List Int):ZF (.int (kN ns)) (.int ns.length)=b0 (.bl (ndB ns)):=by rw[DD];unfold ndB;congr 2;exact decide_eq_decide.mpr (by lia)
def tp_I{p:List Int}(h:p≠[]):tpD (cV p)=b0 p:=by show(Z3 (p.map .int)).bind (λa=>if a.isEmpty then b4 else b0 a)=_;rw[ZJ,An,if_neg (by cases p with|nil=>exact absurd rfl h|cons=>simp)]
def Xy(h:∀p∈ps,p≠[]):TD (ps.map cV)=b0 ps:=by
 have:=IC (g:=cV) (k:=id) ps λp a=>tp_I (h p a)
 simpa using this
def sT(ps:List (List Int)):List (List Int):=(KW ps).map λi=>ps.getD i []
def UE(ps:List (List Int)):(sT ps).Perm ps:=by have h:=(UV ps).map λi=>ps.getD i [];rwa[FH]at h
def BS(h:∀p∈ps,p≠[])(hl:ps.length<64){d:cY}(b:YH d=b0 (ps.map cV)):VW d=b0 (.lst ((sT ps).map cV)):=by
 have lt:∀i∈KW ps,i<ps.length:=λi a=>Bj.mp ((UV ps).mem_iff.mp a);unfold VW;rw[b,An,if_pos (by simpa using hl),Xy h,An];unfold sT;rw[Cq];congr 2;refine Eb λi a=>?_;have:=lt i a;simp[this]
def dU(nd:ps.Nodup):(sT ps).Pairwise λa c=>TS.lexL a c=ba:=by
 have T:TS.Tot ps.length (TS.kyT ps):={
  tri:=λi j f d b h=>by
   refine SP.PJ _ _ (λe=>?_) h;simp only[List.getD_eq_getElem?_getD,Cw f,Cw d,Option.getD_some]at e;rcases My b with z|z;exact Du.mp nd i j f d z e;exact Du.mp nd j i d f z e.symm
  asy:=λi j _ _ h=>SP.VD _ _ h
  tr:=λi j k _ _ _ h g=>SP.LW _ _ _ h g}
 exact Fj.mpr (TS.BX T)
def iD(nd:ps.Nodup):sT (sT ps)=sT ps:=by have b:=UE ps;have a:(sT ps).Nodup:=b.nodup_iff.mpr nd;exact SP.NA SP.VD (dU a) (dU nd) λz=>(UE (sT ps)).mem_iff
def eR{as:List Int}:∀{bs:List Int},NF (cV as) (cV bs)=decide (as=bs):=by
 induction as with
 |nil=>intro bs;cases bs<;>rfl
 |cons a as c=>
  intro bs;cases bs with
  |nil=>rfl
  |cons b bs=>
   show(NF (.int a) (.int b)&&NF (cV as) (cV bs))=_;rw[c,C1,<-Mh];exact decide_eq_decide.mpr (by simp)
def lY{as:List (List Int)}:∀{bs:List (List Int)},NF (.lst (as.map cV)) (.lst (bs.map cV))=decide (as=bs):=by
 induction as with
 |nil=>intro bs;cases bs<;>rfl
 |cons a as c=>
  intro bs;cases bs with
  |nil=>rfl
  |cons b bs=>
   show(NF (cV a) (cV b)&&NF (.lst (as.map cV)) (.lst (bs.map cV)))=_;rw[c,eR,<-Mh];exact decide_eq_decide.mpr (by simp)
def RY(p:List Int):OM 1 (cV p):=VJ (aK p)
def X1(ps:List (List Int)):∀d∈ps.map cV,OM 1 d:=λd a=>by obtain⟨p,_,rfl⟩:=Aw.mp a;exact RY p
def srB(ps:List (List Int)):Bool:=decide (ps=sT ps)
def srE(ps:List (List Int)):ZF (.lst (ps.map cV)) (.lst ((sT ps).map cV))=b0 (.bl (srB ps)):=by rw[L5 (bY (X1 ps)) (bY (X1 _)),lY];rfl
noncomputable def GN(rows:List cY)(b:Nat)(ps:List (List Int)):Bool:=ps.all (OL rows b)&&(ndB ps.flatten&&srB ps)
noncomputable def okPD(rows:List cY)(b:Nat):cY->Bool
 |.tup ds=>OL rows b ((Z3 ds).getD [])
 |_=>bb
def Zl{rows:List cY}{b:Nat}{p:List Int}:okPD rows b (cV p)=OL rows b p:=by show OL rows b ((Z3 (p.map .int)).getD [])=_;rw[ZJ];rfl
theorem LJ:∀{ps:List (List Int)},(∀p∈ps,p.length<8)->ps.flatten.length<=8*ps.length
 |[],_=>by simp
 |p::ps,h=>by
  have:=LJ (ps:=ps) λq a=>h q (Ai _ a)
  have:=h p Ag
  rw[Ks,Bm,Ba];lia
theorem gK:∀bs:List Bool,N8 (bs.map .bl)=b0 bs
 |[]=>rfl
 |b::bs=>by rw[Av,gR,gK bs];rfl
end
section
variable{xf:Int}{rows:List cY}{xg:List Kd}{b:Nat}{ps:List (List Int)}
def rT(r:Bl [] rows xg)(t:2<=b)(h:∀p∈ps,GJ rows p/\p.length<8)(hl:ps.length<20):aB [Bk xf rows,.int b,.tup (ps.map cV)]=b0 (.bl (GN rows b ps),[]):=by
 have c:=Y1 2 (cM 3 [] aJ (aE (fV 0) (aE (fV 1) (aE (fV 2) cB)))) [.va (Bk xf rows),.va (.int b)] (λd=>.bl (okPD rows b d)) rfl (ps.map cV) [] (λd q=>by obtain⟨p,a,rfl⟩:=Aw.mp q;have e:=mG (xf:=xf) (b:=b) r (h p a).1 (by have:=(h p a).2;lia);rw[Zl];generalize cV p=T,Bk xf rows=B at*;simp[e]) (by simp;lia);have s:(ps.map cV).map (λd=>cY.bl (okPD rows b d))=(ps.map (OL rows b)).map .bl:=by rw[Cq,Cq];exact Eb λp _=>by simp[Zl]
 have f:E8 (.lst ((ps.map (OL rows b)).map .bl))=b0 (.bl (ps.all (OL rows b))):=by show(N8 _).map _=_;rw[gK];simp[Nz]
 have u:=LJ (ps:=ps) λp a=>(h p a).2;have w:=o7 ps (by lia);have m:=lenI ps.flatten (by lia);have i:=lenE ps.flatten;have l:Z9 (.lst (ps.flatten.map .int))=b0 (.int ps.flatten.length):=by show b0 (cY.int ((ps.flatten.map cY.int).length:Nat))=_;rw[Bf]
 rw[Bg,s]at c;unfold GN;unfold aB;rw[bZ];unfold W3;cases g:ps.all (OL rows b)with
 |false=>
  rw[g]at f;generalize (ps.map (OL rows b)).map cY.bl=O,ps.map cV=T,Bk xf rows=B at*;simp -implicitDefEqProofs [-M8,bU,b7,c,f]
 |true=>
  rw[g]at f;have k:=BS (ps:=ps) (λp a z=>by
   have:=(W7 (Eo.mp g p a)).1
   rw[z]at this;simp at this;lia) (by lia) (d:=.tup (ps.map cV)) rfl
  have j:=srE ps;generalize (sT ps).map cV=S,(ps.map (OL rows b)).map cY.bl=O,ps.map cV=T,Bk xf rows=B,ps.flatten.map cY.int=N,(ps.flatten.length:Int)=n at*;cases o:ndB ps.flatten<;>rw[o]at i<;>simp -implicitDefEqProofs [-M8,-DD,bU,b7,c,f,w,m,i,l,k,j]
def nr{B:cY}(a:aW [B]=b0 (.bl ba,[]))(g:2<=b)(f:b<=4):W4 [B,.int b]=b0 (.non,[]):=by
 have d:(2:Int)<=b:=by lia
 have c:(b:Int)<=4:=by lia
 have e:TR [.int b]=b0 (.bl ba,[]):=by unfold TR;rw[bZ];unfold QL;simp[bU,Q3,OY,d,c]
 unfold W4;rw[bZ];unfold U2;simp[bU,a,e]
def A6{B p:cY}{x:Bool}(a:aW [B]=b0 (.bl ba,[]))(e:2<=b)(d:b<=4)(f:aB [B,.int b,p]=b0 (.bl x,[])):aQ [B,.int b,p]=b0 (.bl x,[]):=by have c:=nr a e d;unfold aQ;rw[bZ];unfold OE;simp[bU,c,f]
def UN(d:Bl [] rows xg)(a:aW [Bk xf rows]=b0 (.bl ba,[]))(c:2<=b)(e:b<=4)(h:∀p∈ps,GJ rows p/\p.length<8)(hl:ps.length<20):aQ [Bk xf rows,.int b,.tup (ps.map cV)]=b0 (.bl (GN rows b ps),[]):=
 A6 a c e (rT d c h hl)
def B5{p:List Int}:p=SP.upL OT p↔p.Pairwise (· < ·):=by
 have tri:∀a c:Int,a≠c->OT a c=bb->OT c a=ba:=λa c h g=>by have g:=of_decide_eq_false g;exact decide_eq_true (by lia)
 have b:∀a c:Int,OT a c=ba->OT c a=bb:=λa c g=>by have g:=of_decide_eq_true g;exact decide_eq_false (by lia)
 have f:∀a c d:Int,OT a c=ba->OT c d=ba->OT a d=ba:=λa c d g k=>by have g:=of_decide_eq_true g;have k:=of_decide_eq_true k;exact decide_eq_true (by lia)
 have e:(SP.upL OT p).Pairwise λa c=>OT a c=ba:=SP.D8 tri f;constructor;intro h;rw[h];exact e.imp λg=>of_decide_eq_true g;intro h;exact SP.NA b (h.imp λg=>decide_eq_true g) e λz=>SP.PN.symm
def l5(m:Bl [] rows xg)(n:2<=b){p:List Int}(h:GJ rows p/\p.length<8){T:cY}{xh:List Int}(o:xh.length<10000):XU [.va (Bk xf rows),.va (.int b),.va T,.ow (.lst (xh.map .int)),.va (cV p)]=if OL rows b p=ba then b0 (.nx [.va (Bk xf rows),.va (.int b),.va T,.ow (.lst ((xh++p).map .int)),.va (cV p)])else b0 (.rt (.bl bb) [.va (Bk xf rows),.va (.int b),.va T,.ow (.lst ((xh++p).map .int)),.va (cV p)]):=by
 have i:VH (cV p)=b0 (.lst (p.map .int)):=rfl;have g:mExt (xh.map .int) [.lst (p.map .int)]=b0 ((xh++p).map .int):=by show(if(xh.map cY.int).length+(p.map cY.int).length<=16777216 then b0 (xh.map cY.int++p.map cY.int)else b4)=_;rw[if_pos (by have:=h.2;simp;lia),Ed]
 have f:WA (cV p)=b0 (.lst ((SP.upL OT p).map .int)):=by show(Z3 (p.map .int)).bind (λl=>if(p.map cY.int).length<64 then b0 (cY.lst ((SP.upL OT l).map .int))else b4)=_;rw[ZJ,An,if_pos (by have:=h.2;simp;lia)]
 have d:XE (.lst (p.map .int)) (.lst ((SP.upL OT p).map .int))=b0 (.bl (!decide (p=SP.upL OT p))):=by rw[UQ (j:=1) (k:=1) (bY (aK _)) (bY (aK _)),Zv]
 unfold XU;by_cases c:p.Pairwise (· < ·)
 ·have e := JV (xf := xf) m n h.1 c (by have := h.2;lia)
  rw[decide_eq_true (B5.mpr c)]at d;generalize (SP.upL OT p).map cY.int=U,(xh++p).map cY.int=A,xh.map cY.int=C,p.map cY.int=N,cV p=q,Bk xf rows=B at*;cases a:OL rows b p<;>rw[a]at e<;>simp[i,g,f,d,e]
 have a:OL rows b p=bb:=by
  cases a:OL rows b p with
  |false=>rfl
  |true=>exact absurd (W7 a).2 c
 rw[decide_eq_false λz=>c (B5.mp z)]at d;generalize (SP.upL OT p).map cY.int=U,(xh++p).map cY.int=A,xh.map cY.int=C,p.map cY.int=N,cV p=q,Bk xf rows=B at*;simp[a,i,g,f,d]
theorem Yw(c:Bl [] rows xg)(d:2<=b){T:cY}:∀(qs:List (List Int)) (xh:List Int) (s:Sl),(∀p∈qs,GJ rows p/\p.length<8)->xh.length+8*qs.length<10000->if qs.all (OL rows b)=ba then∃f,XQ (gN 4) XU (qs.map cV) [.va (Bk xf rows),.va (.int b),.va T,.ow (.lst (xh.map .int)),s]=b0 (.nx [.va (Bk xf rows),.va (.int b),.va T,.ow (.lst ((xh++qs.flatten).map .int)),f])else∃δ,XQ (gN 4) XU (qs.map cV) [.va (Bk xf rows),.va (.int b),.va T,.ow (.lst (xh.map .int)),s]=b0 (.rt (.bl bb) δ)
 |[],xh,s,_,_=>by rw[if_pos (by rfl)];exact⟨s,by simp⟩
 | p :: qs,xh,s,h,hl => by
  simp only[Ba]at hl;have a:=h p Ag;have e:=l5 (xf:=xf) (b:=b) c d a (T:=T) (xh:=xh) (by lia);have j:([.va (Bk xf rows),.va (.int b),.va T,.ow (.lst (xh.map .int)),s]:Ev).set 4 (.va (cV p))=[.va (Bk xf rows),.va (.int b),.va T,.ow (.lst (xh.map .int)),.va (cV p)]:=rfl;rw[Oo,Av,VT,PB,SR,j,e];cases k:OL rows b p with
  |false=>
   rw[Ku,if_neg (by decide),if_neg (by decide)];exact⟨_,rfl⟩
  |true=>
   have g:=Yw (T:=T) c d qs (xh++p) (.va (cV p)) (λq i=>h q (Ai _ i)) (by have:=a.2;simp;lia);rw[Ls,if_pos rfl,SS,Ks,<-Cr];exact g
def gQ(q:Bl [] rows xg)(r:2<=b)(h:∀p∈ps,GJ rows p/\p.length<8)(hl:ps.length<20):X9 [Bk xf rows,.int b,.tup (ps.map cV)]=b0 (.bl (GN rows b ps),[]):=by
 have g:=Yw (xf:=xf) (T:=.tup (ps.map cV)) q r ps [] .no h (by simp;lia);have u:=LJ (ps:=ps) λp a=>(h p a).2;have m:=lenI ps.flatten (by lia);have l:=lenE ps.flatten;have k:Z9 (.lst (ps.flatten.map .int))=b0 (.int ps.flatten.length):=by show b0 (cY.int ((ps.flatten.map cY.int).length:Nat))=_;rw[Bf]
 have j:VH (.tup (ps.map cV))=b0 (.lst (ps.map cV)):=rfl;rw[Bg,Dj]at g;unfold GN;unfold X9;rw[bZ];unfold QO;cases c:ps.all (OL rows b)with
 |false=>
  rw[c,if_neg (by decide)]at g;obtain⟨s,e⟩:=g;generalize ps.map cV=T,Bk xf rows=B at*;simp[bU,e]
 |true=>
  rw[c,if_pos rfl]at g;obtain⟨t,e⟩:=g;have i:=BS (ps:=ps) (λp a z=>by
   have:=(W7 (Eo.mp c p a)).1
   rw[z]at this;simp at this;lia) (by lia) (d:=.tup (ps.map cV)) rfl
  have f:=srE ps;generalize (sT ps).map cV=S,ps.map cV=T,Bk xf rows=B,ps.flatten.map cY.int=N,(ps.flatten.length:Int)=n at*;cases o:srB ps<;>rw[o]at f<;>simp -implicitDefEqProofs [-DD,bU,e,m,l,k,j,i,f]
end
def rngS(lo:Int)(n:Nat):a7 lo (n+1)=.int lo::a7 (lo+1) n:=by
 unfold a7;rw[Fh];simp only[Av,Cq];refine congr (congrArg List.cons (by simp)) (Eb λk _=>?_);simp only[Op];congr 1;push_cast;lia
def JP(k:Nat)(hs:List (List Int)):cY:=.dct (GK k) (hs.map cV)
def VC(B:cY)(ps hs:List (List Int))(k:Nat)(b a:Sl):Ev:=[.va B,.va (.lst (ps.map cV)),.ow (JP k hs),.ow (.lst []),.ow (.lst []),b,a,.no,.no]
def SF(r:Int):cY->Bool
 |.tup ds=>SZ (.int r) ds
 |_=>bb
def sR(B:cY)(ps hs:List (List Int))(k:Nat)(m:Sl)(o:hs.length=k)(v:ps.length<1000)(u:k<1000):∃(h:List Int) (b:Sl),h≠[]/\YN (VC B ps hs k (.va (.int k)) m)=b0 (.nx (VC B ps (hs++[h]) (k+1) (.va (.int k)) b)):=by
 have c:=XV 1 (fB (f2 (bI bb) (fV 0) (fV 1))) (SF k) (fV 1) id [.va (.int k)] rfl (ps.map cV) [] (λd a=>by obtain⟨p,_,rfl⟩:=Aw.mp a;have f:bI bb (.int k) (cV p)=b0 (.bl (SZ (.int k) (p.map .int))):=NV (j:=0) (k:=0) ZV (aK p);have e:SF k (cV p)=SZ (.int k) (p.map .int):=rfl;rw[e];generalize cV p=T at*;exact⟨by simp[f],λ_=>by simp⟩) (by simp;lia);rw[Bg,Je]at c;have l:XE (.lst ((ps.map cV).filter (SF k))) (.lst [])=b0 (.bl (!((ps.map cV).filter (SF k)).isEmpty)):=by rw[UQ (j:=2) (k:=1) (bY λd a=>X1 ps d (Dt.mp a).1) (bY aL),XB]
 have g:=Za k;have i:(GK k).length<16777216:=by rw[HG];lia
 have n:∀d∈(ps.map cV).filter (SF k),∃p:List Int,p≠[]/\d=cV p:=λd a=>by obtain⟨r,q⟩:=Dt.mp a;obtain⟨p,_,rfl⟩:=Aw.mp r;refine⟨p,λz=>?_,rfl⟩;subst z;cases q
 have put:∀h:List Int,Y6 (GK k) (hs.map cV) (.inl (k:Int)) (cV h)=(GK (k+1),(hs++[h]).map cV):=λh=>by rw[jW _ (by simpa using o),Ed];rfl
 unfold YN VC JP;generalize w:(ps.map cV).filter (SF k)=L at*;cases L with
 |nil=>
  have pt:=put [(k:Int)];have e:cV [(k:Int)]=.tup [.int k]:=rfl;rw[e]at pt;refine⟨[(k:Int)],.va (.lst []),by simp,?_⟩;generalize ps.map cV=T at*;generalize (hs++[[(k:Int)]]).map cV=t at*;generalize hs.map cV=H at*;simp[b7,bD,c,l,i,g,pt]
 |cons d L=>
  obtain⟨h,s,rfl⟩:=n d Ag;have pt:=put h;have WD:U8 (cV h::L) 0=b0 (cV h):=by rw[YR (by decide) (by simp)];rfl
  refine⟨h,.va (.lst (cV h::L)),s,?_⟩;generalize ps.map cV=T at*;generalize (hs++[h]).map cV=t at*;generalize hs.map cV=H at*;generalize cV h=d at*;simp[b7,bD,c,l,i,g,pt,WD]
theorem gI(B:cY)(ps:List (List Int))(l:ps.length<1000):∀(m k:Nat) (hs:List (List Int)) (f c:Sl),hs.length=k->(∀h∈hs,h≠[])->k+m<1000->∃(a:List (List Int)) (d b:Sl),a.length=k+m/\(∀h∈a,h≠[])/\XQ (gN 5) YN (a7 k m) (VC B ps hs k f c)=b0 (.nx (VC B ps a (k+m) d b))
 |0,k,hs,f,c,i,j,_=>⟨hs,f,c,by simpa using i,j,by simp⟩
 | m + 1,k,hs,f,c,i,j,hl => by
  obtain⟨h,n,p,e⟩:=sR B ps hs k c i l (by lia);obtain⟨a,d,b,r,q,o⟩:=gI B ps l m (k+1) (hs++[h]) (.va (.int k)) n (by simp[i]) (λz g=>by
   rcases Bq.mp g with g|g;exact j z g;rw[Aq.mp g];exact p) (by lia)
  refine⟨a,d,b,by lia,q,?_⟩;rw[rngS,VT,PB,SR,show(VC B ps hs k f c).set 5 (.va (.int k))=VC B ps hs k (.va (.int k)) c from rfl,e,SS,show((k:Int)+1)=((k+1:Nat):Int) by push_cast;rfl,o,show k+1+m=k+(m+1) by lia]
def OR(hs:List (List Int))(r:Int):List Int:=hs.getD r.toNat []
def Yn{n:Nat}{hs:List (List Int)}(c:hs.length=n){r:Int}(a:0<=r)(d:r<n):cJ (JP n hs) (.int r)=b0 (cV (OR hs r)):=by
 have e:a6 (GK n) (hs.map cV) (.inl r)=b0 (cV (OR hs r)):=by
  have b:r.toNat<hs.length:=by lia
  rw[mS (by simpa using c) a d,YR a (by simp;lia)];unfold OR;simp[b]
 simp[JP,e]
def hmF(hs:List (List Int)):cY->cY
 |.int r=>cV (OR hs r)
 |_=>.non
def rq{n:Nat}{hs:List (List Int)}(b:hs.length=n)(hl:n<1000):Z2 1 1 (gN 1) Y3 (f2 cJ (fO 0) (fV 1)) (a7 0 n) [] [.ow (JP n hs)]=b0 (hs.map cV,[.ow (JP n hs)]):=by
 have c:=Y1 1 (f2 cJ (fO 0) (fV 1)) [.ow (JP n hs)] (hmF hs) rfl (a7 0 n) [] (λd f=>by unfold a7 at f;obtain⟨k,a,rfl⟩:=Aw.mp f;have a:=Bj.mp a;have e:=Yn b (r:=0+(k:Int)) (by lia) (by lia);show _=b0 (cV (OR hs (0+(k:Int))),_);generalize 0+(k:Int)=r at*;generalize JP n hs=D at*;simp[e]) (by simp[a7];lia);rw[c,Bg];congr 2;refine Ts (by simp[a7,b]) λi j h=>?_;have g:i<hs.length:=by simpa using h
 simp[a7,hmF,OR,g]
def wpB(hs:List (List Int)):cY->Bool
 |.tup [.int a,.int c]=> !decide (OR hs a=OR hs c)
 |_=>bb
noncomputable def wpF(hs:List (List Int)):cY->cY
 |.tup [.int a,.int c]=>YE (OR hs c,OR hs a)
 |_=>.non
def qb{n:Nat}{hs:List (List Int)}(f:hs.length=n){qs:List (Int×Int)}(i:∀p∈qs,0<=p.1/\p.1<p.2/\p.2<n)(hl:qs.length<64):∃e:List SP.KP,e.length<64/\Z2 1 2 (GP 1 2) (fB (f2 XE (f2 cJ (fO 0) (fV 1)) (f2 cJ (fO 0) (fV 2)))) (bK (cT (f2 cJ (fO 0) (fV 2)) (cT (f2 cJ (fO 0) (fV 1)) cL))) (qs.map ZL) [] [.ow (JP n hs)]=b0 (e.map YE,[.ow (JP n hs)]):=by
 have c:=VR 1 (fB (f2 XE (f2 cJ (fO 0) (fV 1)) (f2 cJ (fO 0) (fV 2)))) (wpB hs) (bK (cT (f2 cJ (fO 0) (fV 2)) (cT (f2 cJ (fO 0) (fV 1)) cL))) (wpF hs) [.ow (JP n hs)] rfl (qs.map ZL) [] (λd k=>by
  obtain⟨⟨a,b⟩,j,rfl⟩:=Aw.mp k;obtain⟨q1,q2,q3⟩:=i _ j;simp only at q1 q2 q3;have h:=Yn f (r:=a) q1 (by lia);have g:=Yn f (r:=b) (by lia) q3;have l:XE (cV (OR hs a)) (cV (OR hs b))=b0 (.bl (!decide (OR hs a=OR hs b))):=by rw[UQ (RY _) (RY _),eR]
  refine⟨.int a,.int b,rfl,?_,λ_=>?_⟩;show _=b0 (!decide (OR hs a=OR hs b),_);generalize decide (OR hs a=OR hs b)=x at*;generalize cV (OR hs a)=A at*;generalize cV (OR hs b)=C at*;generalize JP n hs=D at*;simp[h,g,l];show _=b0 (cY.tup [cV (OR hs b),cV (OR hs a)],_);generalize cV (OR hs a)=A at*;generalize cV (OR hs b)=C at*;generalize JP n hs=D at*;simp[h,g]) (by simp;lia)
 refine⟨(qs.filter λp=> !decide (OR hs p.1=OR hs p.2)).map λp=>(OR hs p.2,OR hs p.1),by rw[Bf];exact Hz (List.length_filter_le _ _) hl,?_⟩;rw[c,Bg,Ka,Cq,Cq];rfl
theorem eO:∀a:List SP.KP,FN (a.map YE)=b0 a
 |[]=>rfl
 |w::a=>by
  have e:prD (YE w)=b0 w:=by show(Z3 (w.1.map .int)).bind (λx=>(Z3 (w.2.map .int)).map λy=>(x,y))=_;rw[ZJ,ZJ];rfl
  show(prD (YE w)).bind (λp=>(FN (a.map YE)).map λb=>p::b)=_;rw[eO a,e];rfl
def CB(B P H:cY)(left:List (List Int))(made:List cY)(d c:Sl)(a:List SP.KP)(b:Sl):Ev:=[.va B,.va P,.ow H,.ow (.lst (left.map cV)),.ow (.lst made),d,c,.va (.lst (a.map YE)),b]
def wT(left:List (List Int))(x:List Int):cY->Bool
 |.tup [a,c]=>NF a (cV x)&&SZ c (left.map cV)
 |_=>bb
def iU(e:List SP.KP)(left:List (List Int))(x:List Int)(hw:e.length<1000):Z2 2 2 (GP 2 3) (XO (fB (f2 ZF (fV 2) (fV 1))) (fB (f2 (bI bb) (fV 3) (fO 0)))) (fC (.int 1)) (e.map YE) [] [.ow (.lst (left.map cV)),.va (cV x)]=b0 (((e.map YE).filter (wT left x)).map λ_=>.int 1,[.ow (.lst (left.map cV)),.va (cV x)]):=by
 have c:=VR 2 (XO (fB (f2 ZF (fV 2) (fV 1))) (fB (f2 (bI bb) (fV 3) (fO 0)))) (wT left x) (fC (.int 1)) (λ_=>.int 1) [.ow (.lst (left.map cV)),.va (cV x)] rfl (e.map YE) [] (λd f=>by
  obtain⟨⟨a,b⟩,_,rfl⟩:=Aw.mp f;have h:ZF (cV a) (cV x)=b0 (.bl (NF (cV a) (cV x))):=L5 (RY _) (RY _);have g:bI bb (cV b) (.lst (left.map cV))=b0 (.bl (SZ (cV b) (left.map cV))):=by rw[L6 (RY b) (X1 left)];simp
  refine⟨cV a,cV b,rfl,?_,λ_=>by simp⟩;show _=b0 (NF (cV a) (cV x)&&SZ (cV b) (left.map cV),_);generalize SZ (cV b) (left.map cV)=u at*;generalize NF (cV a) (cV x)=v at*;generalize cV a=A at*;generalize cV b=C at*;generalize cV x=T at*;generalize left.map cV=L at*;cases v<;>simp[h,g]) (by simp;lia)
 simpa using c
def rdT(a:List SP.KP)(left:List (List Int))(x:List Int):Bool:=((a.map YE).filter (wT left x)).isEmpty
def rdF(a:List SP.KP)(left:List (List Int)):cY->Bool
 |.tup ds=>rdT a left ((Z3 ds).getD [])
 |_=>bb
def Zg{a:List SP.KP}{left:List (List Int)}{x:List Int}:rdF a left (cV x)=rdT a left x:=by show rdT a left ((Z3 (x.map .int)).getD [])=_;rw[ZJ];rfl
def nM(a:List SP.KP)(left:List (List Int))(hw:a.length<1000)(hl:left.length<1000):Z2 2 1 (gN 2) (fB (f2 ZF (bM [0,2] 2 (ZT (fV 1)) (KR 2 (bL (gN 2) (bL (gN 3) XY))) (XO (fB (f2 ZF (fV 2) (fV 1))) (fB (f2 (bI bb) (fV 3) (fO 0)))) (fC (.int 1))) (bJ cL))) (fV 2) (left.map cV) [] [.ow (.lst (left.map cV)),.va (.lst (a.map YE))]=b0 ((left.filter (rdT a left)).map cV,[.ow (.lst (left.map cV)),.va (.lst (a.map YE))]):=by
 have c:=XV 2 (fB (f2 ZF (bM [0,2] 2 (ZT (fV 1)) (KR 2 (bL (gN 2) (bL (gN 3) XY))) (XO (fB (f2 ZF (fV 2) (fV 1))) (fB (f2 (bI bb) (fV 3) (fO 0)))) (fC (.int 1))) (bJ cL))) (rdF a left) (fV 2) id [.ow (.lst (left.map cV)),.va (.lst (a.map YE))] rfl (left.map cV) [] (λd b=>by
  obtain⟨x,_,rfl⟩:=Aw.mp b;refine⟨?_,λ_=>by simp⟩;have w:=iU a left x hw;have e:ZF (.lst (((a.map YE).filter (wT left x)).map λ_=>cY.int 1)) (.lst [])=b0 (.bl (rdF a left (cV x))):=by
   rw[L5 (j:=1) (k:=1) (bY λd b=>by obtain⟨_,_,rfl⟩:=Aw.mp b;exact ZV) (bY aL),XB,Gk,Zg];rfl
  generalize ((a.map YE).filter (wT left x)).map (λ_=>cY.int 1)=W at*;generalize rdF a left (cV x)=u at*;generalize cV x=T at*;generalize left.map cV=L at*;generalize a.map YE=Q at*;simp[b7,bD,w,e]) (by simp;lia)
 rw[c,Bg,Je,Ka];congr 2;rw[show(rdF a left∘cV)=rdT a left from funext λx=>Zg]
theorem FM{x:List Int}:∀{ps:List (List Int)},x∈ps->∃j,HQ x ps=b0 j/\j<ps.length
 |[],h=>by cases h
 | y :: a,h => by
  unfold HQ;by_cases e:y=x;rw[if_pos e];exact⟨0,rfl,by simp⟩;rw[if_neg e];obtain⟨j,b,c⟩:=FM (x:=x) (ps:=a) (by
   rcases Ak.mp h with z|z;exact absurd z.symm e;exact z)
  exact⟨j+1,by rw[b];rfl,by simp;lia⟩
theorem Zw{a b:Type}(g:a->b):∀(l:List a) (j:Nat),(l.map g).eraseIdx j=(l.eraseIdx j).map g
 |[],_=>by simp
 |_::_,0=>by simp
 |x::l,j+1=>by simp[Zw g l j]
def iH(B P H:cY)(left:List (List Int))(made:List cY)(g f:Sl)(a:List SP.KP)(m:Sl)(hw:a.length<1000)(hl:left.length<1000)(v:made.length<1000)(o:∀x∈left,x≠[]):(∃δ,aT (CB B P H left made g f a m)=b0 (.rt .non δ)/\δ.length=9)∨∃(j:Nat) (d:cY) (q:Sl),j<left.length/\aT (CB B P H left made g f a m)=b0 (.nx (CB B P H (left.eraseIdx j) (made++[d]) g f a q)):=by
 have c:=nM a left hw hl;have b:ZF (.lst ((left.filter (rdT a left)).map cV)) (.lst [])=b0 (.bl (left.filter (rdT a left)).isEmpty):=by rw[L5 (bY (X1 _)) (bY (aL (k:=0))),XB,Gk]
 unfold aT CB;cases l:left.filter (rdT a left)with
 |nil=>
  rw[l]at c b;rw[Dj]at c b;rw[show([]:List (List Int)).isEmpty=ba from rfl]at b;refine .inl ⟨[.va B,.va P,.ow H,.ow (.lst (left.map cV)),.ow (.lst made),g,f,.va (.lst (a.map YE)),.va (.lst [])],?_,rfl⟩;generalize left.map cV=L at*;generalize a.map YE=W at*;simp[b7,bD,c,b]
 |cons x e=>
  rw[l]at c b;have n:x∈left:=(Dt.mp (l▸Ag:x∈left.filter (rdT a left))).1;obtain⟨j,t,i⟩:=FM n;have s:Xr (left.map cV) [cV x]=b0 ((left.eraseIdx j).map cV):=by show(TD (left.map cV)).bind (λr=>(tpD (cV x)).bind λp=>(HQ p r).map λj=>(left.map cV).eraseIdx j)=_;rw[Xy o,An,tp_I (o x n),An,t,Mj,Zw]
  have WD:U8 (cV x::e.map cV) 0=b0 (cV x):=by rw[YR (by decide) (by simp)];rfl
  refine .inr ⟨j,cV x,.va (.lst ((x::e).map cV)),i,?_⟩;have u:(cV x).hard=ba:=RM x;have h:made.length<16777216:=by lia
  rw[Av]at c b⊢;rw[show(x::e).isEmpty=bb from rfl]at b;generalize (left.eraseIdx j).map cV=E at*;generalize left.map cV=L at*;generalize a.map YE=W at*;generalize e.map cV=w at*;generalize cV x=T at*;simp[b7,bD,c,b,WD,s,h,u]
theorem Yt(B P H:cY)(g c:Sl)(a:List SP.KP)(hw:a.length<1000):∀(f:Nat) (left:List (List Int)) (made:List cY) (b:Sl),left.length=f->made.length+left.length<1000->(∀x∈left,x≠[])->(∃δ,aZ (fB (f2 XE (fO 3) (bJ cL))) aT (f+1) (CB B P H left made g c a b)=b0 (.rt .non δ))∨∃(m:List cY) (i:Sl),aZ (fB (f2 XE (fO 3) (bJ cL))) aT (f+1) (CB B P H left made g c a b)=b0 (.nx (CB B P H [] m g c a i))
 |0,left,made,b,l,_,_=>by
  obtain rfl:=Fe.mp l;have e:XE (.lst []) (.lst [])=b0 (.bl bb):=by rw[UQ (j:=1) (k:=1) (bY aL) (bY aL),XB];rfl
  exact .inr ⟨made,b,QA (by simp[CB,e])⟩
 | f + 1,left,made,b,l,hl,n => by
  have e:XE (.lst (left.map cV)) (.lst [])=b0 (.bl ba):=by
   rw[UQ (bY (X1 left)) (bY (aL (k:=0))),XB];cases left with
   |nil=>simp at l
   |cons=>rfl
  have t:(fB (f2 XE (fO 3) (bJ cL))) (CB B P H left made g c a b)=b0 (ba,CB B P H left made g c a b):=by simp[CB,e]
  rcases iH B P H left made g c a b hw (by lia) (by lia) n with⟨δ,h,_⟩|⟨j,d,i,r,h⟩;refine .inl ⟨δ,?_⟩;show((fB (f2 XE (fO 3) (bJ cL)) (CB B P H left made g c a b)).bind λp=>if p.1=ba then(aT p.2).bind (again (aZ (fB (f2 XE (fO 3) (bJ cL))) aT (f+1)))else b0 (.nx p.2))=_;rw[t,An];show(if ba=ba then(aT (CB B P H left made g c a b)).bind (again (aZ (fB (f2 XE (fO 3) (bJ cL))) aT (f+1)))else _)=_;rw[if_pos rfl,h];rfl;have q:=Mq r;rw[MQ t h];exact Yt B P H g c a hw f (left.eraseIdx j) (made++[d]) i (by lia) (by simp;lia) λx o=>n x (List.mem_of_mem_eraseIdx o)
theorem ID{a:Type}[DecidableEq a](lt:a->a->Bool):∀l:List a,(SP.upL lt l).length<=l.length
 |[]=>Al _
 | x :: l => by
  have b:=ID lt l
  have:∀(m:List a),(SP.insU lt x m).length<=m.length+1:=λm=>by
   induction m with
   |nil=>simp[SP.insU]
   |cons y c b=>
    unfold SP.insU;split;simp;split;simp;simp only[Ba];lia
  have:=this (SP.upL lt l)
  show(SP.insU lt x (SP.upL lt l)).length<=_;rw[Ba];lia
def sV{xf:Int}{rows:List cY}{xg:List Kd}(w:Bl [] rows xg)(f:rows.length<=10)(ps:List (List Int))(u:ps.length<1000):∃v x,X8 [Bk xf rows,.lst (ps.map cV)]=b0 (v,[])/\JY v .non=b0 (.bl x):=by
 obtain⟨e,Q,t,em⟩:=AO (xf:=xf) w f;obtain⟨a,d,c,g,n,j⟩:=gI (Bk xf rows) ps u rows.length 0 [] .no .no rfl (λ_ h=>nomatch h) (by lia);rw[Gm]at g j;have z:=rq g (by lia);obtain⟨b,o,y⟩:=qb g (qs:=e) Q.lt t;have r:RO (.lst (a.map cV))=b0 (.lst ((SP.upL TS.lexL a).map cV)):=by show(TD (a.map cV)).bind (λps=>if(a.map cV).length<64 then b0 (cY.lst ((SP.upL TS.lexL ps).map cV))else b4)=_;rw[Xy n,An,if_pos (by simp;lia)]
 have q:RN (.lst (b.map YE))=b0 (.lst ((SP.upL SP.lexP b).map YE)):=by show(FN (b.map YE)).bind (λps=>if(b.map YE).length<64 then b0 (cY.lst ((SP.upL SP.lexP ps).map YE))else b4)=_;rw[eO,An,if_pos (by simpa using o)]
 have G:=ID TS.lexL a;have F:=ID SP.lexP b;have W:=Yt (Bk xf rows) (.lst (ps.map cV)) (JP rows.length a) d c (SP.upL SP.lexP b) (by lia) _ (SP.upL TS.lexL a) [] .no rfl (by simp;lia) λx s=>n x (SP.PN.mp s);have l:(-4611686018427387904:Int)<=rows.length:=by lia
 have k:(rows.length:Int)<4611686018427387904:=by lia
 have p:a7 ((0:Nat):Int) rows.length=a7 0 rows.length:=rfl;rw[p]at j;have i:U5 (OS (f1 Z9 (f2 cJ (fV 0) (fC (.int 1))))) (gN 5) YN (VC (Bk xf rows) ps [] 0 .no .no)=b0 (.nx (VC (Bk xf rows) ps a rows.length d c)):=by
  have:OS (f1 Z9 (f2 cJ (fV 0) (fC (.int 1)))) (VC (Bk xf rows) ps [] 0 .no .no)=b0 (a7 0 rows.length,VC (Bk xf rows) ps [] 0 .no .no):=by simp[VC,l,k]
  rw[HW,this,qF_s,j]
 unfold CB at W;have B:aU 3 (xO (f1 RO (bM [2] 1 (OS (f1 Z9 (f2 cJ (fV 0) (fC (.int 1))))) (gN 1) Y3 (f2 cJ (fO 0) (fV 1))))) (VC (Bk xf rows) ps a rows.length d c)=b0 (.nx [.va (Bk xf rows),.va (.lst (ps.map cV)),.ow (JP rows.length a),.ow (.lst ((SP.upL TS.lexL a).map cV)),.ow (.lst []),d,c,.no,.no]):=by unfold VC;generalize (SP.upL TS.lexL a).map cV=U at*;generalize a.map cV=L at*;generalize JP rows.length a=D at*;generalize ps.map cV=PS at*;simp[b7,bD,z,r,l,k]
 have A:aU 7 (xV (f1 RN (bM [2] 2 (ZT (cM 1 [] W9 (aE (fV 0) cB))) (KR 2 (bL (gN 1) (bL (gN 2) XY))) (fB (f2 XE (f2 cJ (fO 0) (fV 1)) (f2 cJ (fO 0) (fV 2)))) (bK (cT (f2 cJ (fO 0) (fV 2)) (cT (f2 cJ (fO 0) (fV 1)) cL)))))) [.va (Bk xf rows),.va (.lst (ps.map cV)),.ow (JP rows.length a),.ow (.lst ((SP.upL TS.lexL a).map cV)),.ow (.lst []),d,c,.no,.no]=b0 (.nx [.va (Bk xf rows),.va (.lst (ps.map cV)),.ow (JP rows.length a),.ow (.lst ((SP.upL TS.lexL a).map cV)),.ow (.lst []),d,c,.va (.lst ((SP.upL SP.lexP b).map YE)),.no]):=by generalize (SP.upL TS.lexL a).map cV=U at*;generalize (SP.upL SP.lexP b).map YE=J at*;generalize b.map YE=I at*;generalize JP rows.length a=D at*;generalize ps.map cV=PS at*;generalize e.map ZL=K at*;simp[b7,bD,em,y,q]
 have C:P2 2 3 4 (xO (fC (.dct [] []))) (xO (bJ cL)) (xO (bJ cL)) (bU [] 9 [Bk xf rows,.lst (ps.map cV)])=b0 (.nx (VC (Bk xf rows) ps [] 0 .no .no)):=by simp[bU,VC,JP,GK]
 unfold X8;rw[bZ,R7.eq_1,aD C,aD i,aD B,aD A];rcases W with⟨E,h⟩|⟨m,H,h⟩;refine ⟨.non,bb,?_,by kernel_rfl⟩;have h:=RV h;rw[DU,h];rfl;refine ⟨.lst m,ba,?_,by kernel_rfl⟩;have h:=RV h;rw[aD h];rfl
def rE{s:List Int}(h:s≠[]):U8 (s.map cY.int) (-1)=b0 (.int (s.getLastD 0)):=by
 obtain⟨t,c,rfl⟩:∃t c,s=t++[c]:=by
  rcases Lg s with e|⟨t,c,e⟩;exact absurd e h;exact⟨t,c,by rw[e,Lh]⟩
 rw[Ed,Mz,R0];simp
def Q9(ns:List Int)(n:Nat)(B:cY)(b:Nat)(ps:List (List Int))(a:Nat)(sa:Sl)(s:List Int)(x8 x9:Sl):Ev:=
 [.va (WY ns),.ow (X6 n),.va B,.va (.int b),.ow (.lst (ps.map cV)),.va (.int a),sa,.ow (.lst (s.map .int)),x8,x9]
structure Som(rows:List cY)(ps:List (List Int))(b:Nat)(s:List Int):Prop where
 ris:s.Pairwise (· < ·)
 inr:GJ rows s
 len:s.length<=b
 pk:2<=s.length->pkB rows s=ba
 off:∀x∈s.drop 1,∀p∈ps,x∉p
def zK2{r:Int}{p:List Int}:SF r (cV p)=ba↔r∈p:=MZ
def kX(r:Int)(ps:List (List Int))(f:ps.length<1000):Z2 1 1 (gN 1) (fB (f2 (bI bb) (fV 0) (fV 1))) (fV 1) (ps.map cV) [] [.va (.int r)]=b0 ((ps.map cV).filter (SF r),[.va (.int r)]):=by
 have c:=XV 1 (fB (f2 (bI bb) (fV 0) (fV 1))) (SF r) (fV 1) id [.va (.int r)] rfl (ps.map cV) [] (λd b=>by obtain⟨p,_,rfl⟩:=Aw.mp b;have a:bI bb (.int r) (cV p)=b0 (.bl (SZ (.int r) (p.map .int))):=NV (j:=0) (k:=0) ZV (aK p);have e:SF r (cV p)=SZ (.int r) (p.map .int):=rfl;rw[e];generalize cV p=T at*;exact⟨by simp[a],λ_=>by simp⟩) (by simp;lia);rwa[Bg,Je]at c
def zD7{r:Int}{ps:List (List Int)}:((ps.map cV).filter (SF r)).isEmpty=ba↔ ∀p∈ps,r∉p:=by
 rw[Pb,Ph];exact⟨λh p b a=>h (cV p) (Aw.mpr ⟨p,b,rfl⟩) (zK2.mpr a),λh d c a=>by obtain⟨p,b,rfl⟩:=Aw.mp c;exact h p b (zK2.mp a)⟩
def dI(r:Int)(ps:List (List Int)):ZF (.lst ((ps.map cV).filter (SF r))) (.lst [])=b0 (.bl ((ps.map cV).filter (SF r)).isEmpty):=by rw[L5 (j:=2) (k:=1) (bY λd a=>X1 ps d (Dt.mp a).1) (bY aL),XB]
section
variable{ns:List Int}{xf:Int}{rows:List cY}{xg:List Kd}{b:Nat}{ps:List (List Int)}{sa:Sl}
def pJ(O:Bl [] rows xg)(hl:ns.length<=63)(n:Nat)(V:n<800000)(M:b<=4)(D:ps.length<1000){k:Nat}(W:k<rows.length){s:List Int}(S:Som rows ps b s)(x9:Sl):∃(l:Nat) (v:List Int) (x9':Sl),n<=l/\l<=n+1/\Som rows ps b v/\bC (Q9 ns n (Bk xf rows) b ps rows.length sa s (.va (.int k)) x9)=b0 (.nx (Q9 ns l (Bk xf rows) b ps rows.length sa v (.va (.int k)) x9')):=by
 have c:=kX k ps D;have u:=dI k ps;have T:=S.len;have i:XE (.lst (s.map .int)) (.lst [])=b0 (.bl (!s.isEmpty)):=by rw[UQ (j:=1) (k:=1) (bY (aK s)) (bY aL),XB,Gk]
 have same:∀{x9':Sl},bC (Q9 ns n (Bk xf rows) b ps rows.length sa s (.va (.int k)) x9)=b0 (.nx (Q9 ns n (Bk xf rows) b ps rows.length sa s (.va (.int k)) x9'))->∃(l:Nat) (v:List Int) (x9':Sl),n<=l/\l<=n+1/\Som rows ps b v/\bC (Q9 ns n (Bk xf rows) b ps rows.length sa s (.va (.int k)) x9)=b0 (.nx (Q9 ns l (Bk xf rows) b ps rows.length sa v (.va (.int k)) x9')):=λ{x9'} h=>⟨n,s,x9',Al _,Jf _,S,h⟩;by_cases C:s=[];subst C;refine same (x9':=.va (.lst ((ps.map cV).filter (SF k)))) ?_;unfold bC Q9;rw[show([]:List Int).isEmpty=ba from rfl]at i;rw[Dj]at i⊢;generalize (ps.map cV).filter (SF k)=U,ps.map cV=P,Bk xf rows=B at*;simp[b7,bD,c,i];have i:XE (.lst (s.map .int)) (.lst [])=b0 (.bl ba):=by
  rw[i];cases s with
  |nil=>exact absurd rfl C
  |cons=>rfl
 have o:=rE C;generalize E:s.getLastD 0=I at o;by_cases r:I<(k:Int);rotate_left;refine same (x9':= .va (.lst ((ps.map cV).filter (SF k)))) ?_;unfold bC Q9;generalize (ps.map cV).filter (SF k)=U,ps.map cV=P,Bk xf rows=B,s.map cY.int=N at*;simp[b7,bD,c,i,o,r];have f:((s.map cY.int).length:Int)=s.length:=by simp
 by_cases A:(s.length:Int)<b;rotate_left;refine same (x9':= .va (.lst ((ps.map cV).filter (SF k)))) ?_;unfold bC Q9;generalize (ps.map cV).filter (SF k)=U,ps.map cV=P,Bk xf rows=B,s.map cY.int=N at*;simp[b7,bD,c,i,o,r,f,A];cases H:((ps.map cV).filter (SF k)).isEmpty with
 |false=>
  rw[H]at u;refine same (x9':=.va (.lst ((ps.map cV).filter (SF k)))) ?_;unfold bC Q9;generalize (ps.map cV).filter (SF k)=U,ps.map cV=P,Bk xf rows=B,s.map cY.int=N at*;simp[b7,bD,c,i,o,r,f,A,u]
 |true=>
  rw[H]at u;have K2:1<=s.length:=Rk.mpr C;have w:(s++[(k:Int)]).Pairwise (· < ·):=by
   obtain⟨t,z,rfl⟩:∃t z,s=t++[z]:=by
    rcases Lg s with e|⟨t,z,e⟩;exact absurd e C;exact⟨t,z,by rw[e,Lh]⟩
   have L:z<(k:Int):=by
    have:z=I:=by simpa using E
    rw[this];exact r
   refine Gx.mpr ⟨S.ris,Kb _ _,λa F c hc=>?_⟩;rw[Aq.mp hc];rcases Bq.mp F with g|g;have := (Gx.mp S.ris).2.2 a g z (by simp);lia;rw[Aq.mp g];exact L
  have inr:GJ rows (s++[(k:Int)]):=λa F=>by
   rcases Bq.mp F with g|g;exact S.inr a g;rw[Aq.mp g];lia
  have m:=JV (xf:=xf) (b:=s.length+1) O (by lia) inr w (by simp;lia);have R:OL rows (s.length+1) (s++[(k:Int)])=pkB rows (s++[(k:Int)]):=by unfold OL;simp
  rw[R,show(((s.length+1:Nat)):Int)=(s.length:Int)+1 by push_cast;rfl]at m;have Q:cV (s++[(k:Int)])=.tup (s.map .int++[.int k]):=by unfold cV;simp
  rw[Q]at m;have q:(s.map cY.int).length+1<=16777216:=by simp;lia
  have y:(s.map cY.int).length<16777216:=by simp;lia
  cases G:pkB rows (s++[(k:Int)])with
  |false=>
   rw[G]at m;refine same (x9':=.va (.lst ((ps.map cV).filter (SF k)))) ?_;unfold bC Q9;generalize (ps.map cV).filter (SF k)=U,ps.map cV=P,Bk xf rows=B,s.map cY.int=N at*;simp[b7,bD,c,i,o,r,f,A,u,m,q]
  |true=>
   rw[G]at m;have d:=aA ns n 5 hl (by lia) (by decide);by_cases K:0<UG ns n 5;refine ⟨n + 1,s ++ [(k : Int)],.va (.lst ((ps.map cV).filter (SF k))),by lia,Al _,⟨w,inr,by simp;lia,λ_ => G,λx J p D => ?_⟩,?_⟩;rw[List.drop_append_of_le_length K2]at J;rcases Bq.mp J with g|g;exact S.off x g p D;rw[Aq.mp g];exact zD7.mp H p D;unfold bC Q9;rw[Ed,Mz];generalize (ps.map cV).filter (SF k)=U,ps.map cV=P,Bk xf rows=B,s.map cY.int=N at*;simp[b7,bD,c,i,o,r,f,A,u,m,q,y,d,K];refine ⟨n + 1,s,.va (.lst ((ps.map cV).filter (SF k))),by lia,Al _,S,?_⟩;unfold bC Q9;generalize (ps.map cV).filter (SF k)=U,ps.map cV=P,Bk xf rows=B,s.map cY.int=N at*;simp[b7,bD,c,i,o,r,f,A,u,m,q,y,d,K]
theorem Zy(h:Bl [] rows xg)(hl:ns.length<=63)(d:b<=4)(g:ps.length<1000):∀(m k n:Nat) (s:List Int) (x8 x9:Sl),n+m<800000->k+m<=rows.length->Som rows ps b s->∃(c:Nat) (f:List Int) (a x9':Sl),n<=c/\c<=n+m/\Som rows ps b f/\XQ (gN 8) bC (a7 k m) (Q9 ns n (Bk xf rows) b ps rows.length sa s x8 x9)=b0 (.nx (Q9 ns c (Bk xf rows) b ps rows.length sa f a x9'))
 |0,k,n,s,x8,x9,_,_,S=>⟨n,s,x8,x9,Al _,Al _,S,by simp⟩
 |m+1,k,n,s,x8,x9,r,t,S=>by obtain⟨l,j,i,x,w,p,e⟩:=pJ (xf:=xf) (sa:=sa) h hl n (by lia) d g (k:=k) (by lia) S x9;obtain⟨c,f,a,x9',v,u,q,o⟩:=Zy h hl d g m (k+1) l j (.va (.int k)) i (by lia) (by lia) p;refine⟨c,f,a,x9',by lia,by lia,q,?_⟩;rw[rngS,VT,PB,SR,show(Q9 ns n (Bk xf rows) b ps rows.length sa s x8 x9).set 8 (.va (.int k))=Q9 ns n (Bk xf rows) b ps rows.length sa s (.va (.int k)) x9 from rfl,e,SS,show((k:Int)+1)=((k+1:Nat):Int) by push_cast;rfl,o]
structure Pls(rows:List cY)(b:Nat)(ps:List (List Int)):Prop where
 inr:∀p∈ps,GJ rows p
 ok:∀p∈ps,OL rows b p=ba
 nd:ps.flatten.Nodup
def oA{s:List Int}(k:2<=b)(P:Pls rows b ps)(S:Som rows ps b s)(hs:s.length=b)(j:∀p∈ps,s.headD 0∉p):Pls rows b (ps++[s]) where
 inr:=λp d=>by
  rcases Bq.mp d with g|g;exact P.inr p g;rw[Aq.mp g];exact S.inr
 ok:=λp d=>by
  rcases Bq.mp d with g|g;exact P.ok p g;rw[Aq.mp g];unfold OL;rw[decide_eq_true hs,S.pk (by lia)];rfl
 nd:=by
  rw[Rl,Pj];refine He.mpr ⟨P.nd,S.ris.imp λh=>by lia,λa i c hc e=>?_⟩;subst e;obtain⟨p,d,f⟩:=Pc.mp i;cases s with
  |nil=>cases hc
  |cons x t=>
   rcases Ak.mp hc with z|z;subst z;exact j p d f;exact S.off a z p d f
def me(M:Bl [] rows xg)(H:rows.length<=10)(hl:ns.length<=63)(n:Nat)(hn:n<700000)(Y:2<=b)(G:b<=4)(hp:ps.length<100)(P:Pls rows b ps)(x7 x8 x9:Sl):∃(o:Nat) (l:List (List Int)) (C y8 y9:Sl),n<=o/\o<=n+11/\l.length<=ps.length+1/\Pls rows b l/\WG [.va (WY ns),.ow (X6 n),.va (Bk xf rows),.va (.int b),.ow (.lst (ps.map cV)),.va (.int rows.length),sa,x7,x8,x9]=b0 (.nx [.va (WY ns),.ow (X6 o),.va (Bk xf rows),.va (.int b),.ow (.lst (l.map cV)),.va (.int rows.length),sa,C,y8,y9]):=by
 have R:(-4611686018427387904:Int)<=rows.length:=by lia
 have Q:(rows.length:Int)<4611686018427387904:=by lia
 obtain⟨m,s,W,hm,S,e1⟩:∃(m:Nat) (s:List Int),n<=m/\m<=n+1/\Som rows ps b s/\aU 7 (xO (EC (fB (f2 oGt (fV 5) (fC (.int 0)))) (bJ (cT (cM 3 [1] cI (aE (fV 0) (aO 1 (aE (fV 5) cB)))) cL)) (bJ cL))) [.va (WY ns),.ow (X6 n),.va (Bk xf rows),.va (.int b),.ow (.lst (ps.map cV)),.va (.int rows.length),sa,x7,x8,x9]=b0 (.nx (Q9 ns m (Bk xf rows) b ps rows.length sa s x8 x9)):=by
  by_cases h:(0:Int)<rows.length;have d := aA ns n rows.length hl (by lia) h;have d0:=U9 ns n h;have d1:UG ns n rows.length<rows.length:=Cf _ h;refine⟨n+1,[UG ns n rows.length],by lia,Al _,⟨Kb _ _,λi X=>by rw[Aq.mp X];exact⟨d0,d1⟩,by simp;lia,λz=>by simp at z,λx V=>by simp at V⟩,?_⟩;unfold Q9;generalize ps.map cV=T,Bk xf rows=B,(rows.length:Int)=r at*;simp[h,d];refine ⟨n,[],Al _,Jf _,⟨.nil,(λ_ h => nomatch h),Ch _,λz => by simp at z,(λ_ h => nomatch h)⟩,?_⟩;unfold Q9;generalize ps.map cV=T,Bk xf rows=B,(rows.length:Int)=r at*;simp[h]
 obtain⟨o,a,g,f,a1,a2,S',e2⟩:=Zy (xf:=xf) (sa:=sa) M hl G (by lia:ps.length<1000) rows.length 0 m s x8 x9 (by lia) (by lia) S;have J:U5 (OS (fV 5)) (gN 8) bC (Q9 ns m (Bk xf rows) b ps rows.length sa s x8 x9)=b0 (.nx (Q9 ns o (Bk xf rows) b ps rows.length sa a g f)):=by
  have:OS (fV 5) (Q9 ns m (Bk xf rows) b ps rows.length sa s x8 x9)=b0 (a7 0 rows.length,Q9 ns m (Bk xf rows) b ps rows.length sa s x8 x9):=by simp[Q9,R,Q]
  rw[HW,this,qF_s];exact e2
 have q:((a.map cY.int).length:Int)=a.length:=by simp
 unfold WG;rw[aD e1,aD J];have same:∀{y8 y9:Sl},(YL (XO (fB (f2 ZF (f1 Z9 (fO 7)) (fV 3))) (fB (f2 ZF (bM [7] 1 (ZT (fO 4)) (gN 1) (fB (f2 (bI bb) (f2 cJ (fO 0) (fC (.int 0))) (fV 1))) (fV 1)) (bJ cL)))) (YL (fB (f2 JY (cM 2 [] X8 (aE (fV 2) (aE (f2 aV (fO 4) (bJ (cT (f1 ZP (fO 7)) cL))) cB))) (fC .non))) (VY 4 UP (cT (f1 ZP (fO 7)) cL)) aY) aY) (Q9 ns o (Bk xf rows) b ps rows.length sa a g f)=b0 (.nx (Q9 ns o (Bk xf rows) b ps rows.length sa a y8 y9))->∃(w:Nat) (l:List (List Int)) (C y8 y9:Sl),n<=w/\w<=n+11/\l.length<=ps.length+1/\Pls rows b l/\(YL (XO (fB (f2 ZF (f1 Z9 (fO 7)) (fV 3))) (fB (f2 ZF (bM [7] 1 (ZT (fO 4)) (gN 1) (fB (f2 (bI bb) (f2 cJ (fO 0) (fC (.int 0))) (fV 1))) (fV 1)) (bJ cL)))) (YL (fB (f2 JY (cM 2 [] X8 (aE (fV 2) (aE (f2 aV (fO 4) (bJ (cT (f1 ZP (fO 7)) cL))) cB))) (fC .non))) (VY 4 UP (cT (f1 ZP (fO 7)) cL)) aY) aY) (Q9 ns o (Bk xf rows) b ps rows.length sa a g f)=b0 (.nx [.va (WY ns),.ow (X6 w),.va (Bk xf rows),.va (.int b),.ow (.lst (l.map cV)),.va (.int rows.length),sa,C,y8,y9]):=λ{y8 y9} h=>⟨o,ps,_,y8,y9,by lia,by lia,Jf _,P,h⟩;by_cases y:(a.length:Int)=b;rotate_left;refine same (y8:=g) (y9:=f) ?_;unfold Q9;generalize ps.map cV=T,Bk xf rows=B,a.map cY.int=N at*;simp[q,y];have Z:a≠[]:=λz=>by rw[z]at y;simp at y;lia
 have WD:U8 (a.map cY.int) 0=b0 (.int (a.headD 0)):=by
  cases a with
  |nil=>exact absurd rfl Z
  |cons x t=>
   rw[YR (by decide) (by simp)];rfl
 have c:Z2 1 1 (gN 1) (fB (f2 (bI bb) (f2 cJ (fO 0) (fC (.int 0))) (fV 1))) (fV 1) (ps.map cV) [] [.ow (.lst (a.map .int))]=b0 ((ps.map cV).filter (SF (a.headD 0)),[.ow (.lst (a.map .int))]):=by
  have c:=XV 1 (fB (f2 (bI bb) (f2 cJ (fO 0) (fC (.int 0))) (fV 1))) (SF (a.headD 0)) (fV 1) id [.ow (.lst (a.map .int))] rfl (ps.map cV) [] (λd A=>by obtain⟨p,_,rfl⟩:=Aw.mp A;have F:bI bb (.int (a.headD 0)) (cV p)=b0 (.bl (SZ (.int (a.headD 0)) (p.map .int))):=NV (j:=0) (k:=0) ZV (aK p);have e:SF (a.headD 0) (cV p)=SZ (.int (a.headD 0)) (p.map .int):=rfl;rw[e];generalize cV p=T,a.map cY.int=N,a.headD 0=z at*;exact⟨by simp[F,WD],λ_=>by simp⟩) (by simp;lia);rwa[Bg,Je]at c
 have u:=dI (a.headD 0) ps;cases I:((ps.map cV).filter (SF (a.headD 0))).isEmpty with
 |false=>
  rw[I]at u;refine same (y8:=g) (y9:=f) ?_;unfold Q9;generalize (ps.map cV).filter (SF (a.headD 0))=U,ps.map cV=T,Bk xf rows=B,a.map cY.int=N,a.headD 0=z at*;simp -implicitDefEqProofs [b7,bD,q,y,c,u]
 |true=>
  rw[I]at u;obtain⟨v,x,D,K⟩:=sV (xf:=xf) M H (ps++[a]) (by simp;lia);have O:cV a=.tup (a.map .int):=rfl;have em:(ps++[a]).map cV=ps.map cV++[.tup (a.map .int)]:=by simp[O]
  rw[em]at D;have L:(ps.map cV).length+1<=16777216:=by simp;lia
  have E:(ps.map cV).length<16777216:=by simp;lia
  have A:(cV a).hard=ba:=RM a;rw[O]at A;cases x with
  |false=>
   refine same (y8:=g) (y9:=f) ?_;unfold Q9;generalize (ps.map cV).filter (SF (a.headD 0))=U,ps.map cV=T,Bk xf rows=B,a.map cY.int=N,a.headD 0=z at*;simp -implicitDefEqProofs [b7,bD,q,y,c,u,D,K,L]
  |true=>
   refine⟨o,ps++[a],.ow (.lst (a.map .int)),g,f,by lia,by lia,by simp,oA Y P S' (by lia) (zD7.mp I),?_⟩;unfold Q9;rw[em];generalize (ps.map cV).filter (SF (a.headD 0))=U,ps.map cV=T,Bk xf rows=B,a.map cY.int=N,a.headD 0=z at*;simp -implicitDefEqProofs [b7,bD,q,y,c,u,D,K,L,E,A]
theorem fJ(k:Bl [] rows xg)(g:rows.length<=10)(hl:ns.length<=63)(l:2<=b)(f:b<=4):∀(ds:List cY) (n:Nat) (ps:List (List Int)) (sa x7 x8 x9:Sl),n+11*ds.length<600000->ps.length+ds.length<100->Pls rows b ps->∃(c:Nat) (a:List (List Int)) (h i y8 y9:Sl),n<=c/\c<=n+11*ds.length/\a.length<=ps.length+ds.length/\Pls rows b a/\XQ (gN 6) WG ds [.va (WY ns),.ow (X6 n),.va (Bk xf rows),.va (.int b),.ow (.lst (ps.map cV)),.va (.int rows.length),sa,x7,x8,x9]=b0 (.nx [.va (WY ns),.ow (X6 c),.va (Bk xf rows),.va (.int b),.ow (.lst (a.map cV)),.va (.int rows.length),h,i,y8,y9])
 |[],n,ps,sa,x7,x8,x9,_,_,P=>⟨n,ps,sa,x7,x8,x9,by simp,by simp,by simp,P,by simp⟩
 |d::ds,n,ps,sa,x7,x8,x9,t,s,P=>by simp only[Ba]at t s;obtain⟨q,j,i,y8,y9,B,A,z,u,e⟩:=me (xf:=xf) (sa:=.va d) k g hl n (by lia) l f (by lia) P x7 x8 x9;obtain⟨c,a,h,p,o,m,y,x,w,v,r⟩:=fJ k g hl l f ds q j (.va d) i y8 y9 (by lia) (by lia) u;refine⟨c,a,h,p,o,m,by lia,by simp only[Ba];lia,by simp only[Ba];lia,v,?_⟩;rw[VT,PB,SR,show([.va (WY ns),.ow (X6 n),.va (Bk xf rows),.va (.int b),.ow (.lst (ps.map cV)),.va (.int rows.length),sa,x7,x8,x9]:Ev).set 6 (.va d)=[.va (WY ns),.ow (X6 n),.va (Bk xf rows),.va (.int b),.ow (.lst (ps.map cV)),.va (.int rows.length),.va d,x7,x8,x9] from rfl,e,SS,r]
def nS(l:2<=b)(P:Pls rows b ps):ps.Nodup:=by
 have c:∀p∈ps,p≠[]:=λp j z=>by
  have:=(W7 (P.ok p j)).1
  rw[z]at this;simp at this;lia
 have d:=P.nd;clear P;induction ps with
 |nil=>exact .nil
 |cons p ps g=>
  rw[Ks]at d;obtain⟨_,f,e⟩:=He.mp d;refine Ct.mpr ⟨λh=>?_,g (λq i=>c q (Ai _ i)) f⟩;have k:=c p Ag;cases p with
  |nil=>exact k rfl
  |cons a t=>exact e a Ag a (Pc.mpr ⟨_,h,Ag⟩) rfl
def md(d:2<=b)(P:Pls rows b ps):GN rows b (sT ps)=ba/\Pls rows b (sT ps):=by have p:=UE ps;have c:(sT ps).flatten.Nodup:=(List.Perm.flatten p).nodup_iff.mpr P.nd;refine⟨?_,λq a=>P.inr q (p.mem_iff.mp a),λq a=>P.ok q (p.mem_iff.mp a),c⟩;unfold GN;rw[Ah,Ah,AR,Eo];exact⟨λq a=>P.ok q (p.mem_iff.mp a),c,decide_eq_true (iD (nS d P)).symm⟩
def nj(o:Bl [] rows xg)(g:rows.length<=10)(hl:ns.length<=63)(i:2<=b)(f:b<=4)(n:Nat)(y:n<500000):∃(a:Nat) (ps:List (List Int)),n<=a/\a<=n+200/\ps.length<=10/\GN rows b ps=ba/\Pls rows b ps/\VO [WY ns,X6 n,Bk xf rows,.int b]=b0 (.tup (ps.map cV),[X6 a]):=by
 have d:=aA ns n 11 hl (by lia) (by decide);have B:=U9 ns n (b:=11) (by decide);have A:UG ns n 11<11:=Cf _ (by decide);have c:(a7 0 (UG ns n 11).toNat).length=(UG ns n 11).toNat:=by simp[a7]
 obtain⟨a,ps,u,x,w,v,C,t,j,P,e⟩:=fJ (xf:=xf) (b:=b) o g hl i f (a7 0 (UG ns n 11).toNat) (n+1) [] .no .no .no .no (by rw[c];lia) (by rw[c];simp;lia) ⟨(λ_ h=>nomatch h),(λ_ h=>nomatch h),.nil⟩;rw[c]at t j;simp only[Jr,Gm]at j;obtain⟨l,k⟩:=md i P;refine⟨a,sT ps,by lia,by lia,by rw[(UE ps).length_eq];lia,l,k,?_⟩;have s:=BS (ps:=ps) (λp m z=>by
  have:=(W7 (P.ok p m)).1
  rw[z]at this;simp at this;lia) (by lia) (d:=.lst (ps.map cV)) rfl
 have r:(-4611686018427387904:Int)<=UG ns n 11:=by lia
 have q:UG ns n 11<4611686018427387904:=by lia
 rw[Dj]at e;unfold VO;rw[bZ];unfold QR;generalize (sT ps).map cV=S,ps.map cV=T at*;simp[bU,d,r,q,e,s]
end
section
variable{xf:Int}{rows:List cY}
def len2{ds:List cY}(h:ds.length≠2)(hz:ds.length<=3):aJ [Bk xf rows,.int 2,.tup ds]=b0 (.bl bb,[]):=by
 have:¬(ds.length:Int)=2:=by lia
 unfold aJ;rw[bZ];unfold V8;simp[bU,this]
def gP{i:Int}:aJ [Bk xf rows,.int 2,.int i]=b0 (.bl bb,[]):=by kernel_rfl
def DK{d e:cY}{x y:Bool}(c:bA [d,.int 0,.int ((rows.length:Int)-1)]=b0 (.bl x,[]))(b:bA [e,.int 0,.int ((rows.length:Int)-1)]=b0 (.bl y,[]))(a:(x&&y)=bb):aJ [Bk xf rows,.int 2,.tup [d,e]]=b0 (.bl bb,[]):=by
 unfold aJ;rw[bZ];unfold V8;cases x<;>cases y<;>first
  |(cases a;done)
  |simp[bU,c,b,b7,bD]
def LH{d:cY}(a:d=.non∨(∃i,d=.int i)∨(∃s,d=.str s)∨∃l,d=.lst l):aB [Bk xf rows,.int 2,d]=b0 (.bl bb,[]):=by
 rcases a with rfl|⟨b,rfl⟩|⟨s,rfl⟩|⟨l,rfl⟩<;>kernel_rfl
def LI{d:cY}(h:aJ [Bk xf rows,.int 2,d]=b0 (.bl bb,[])):aB [Bk xf rows,.int 2,.tup [d]]=b0 (.bl bb,[]):=by unfold aB;rw[bZ];unfold W3;generalize Bk xf rows=b at*;simp[bU,h,b7,bD]
def o6{d e:cY}(h:aJ [Bk xf rows,.int 2,d]=b0 (.bl bb,[]))(h':aJ [Bk xf rows,.int 2,e]=b0 (.bl bb,[])):aB [Bk xf rows,.int 2,.tup [d,e]]=b0 (.bl bb,[]):=by unfold aB;rw[bZ];unfold W3;generalize Bk xf rows=b at*;simp[bU,h,h',b7,bD]
end
def kZ{ds:List cY}{k:Nat}:X7 ds (b0 (k:Int)) b4=ds.drop k:=by
 by_cases h:k<=ds.length;exact UJ h;unfold X7;rw[HT.HX,HT.P0,Tr (by lia),Hl,List.drop_eq_nil_of_le (by lia)];simp
theorem LC(ns:List Int)(xs:List Int)(hl:ns.length<=63)(b:0<xs.length):∀(ds:List cY) (n:Nat) (xh:List cY),n+ds.length<800000->xh.length+ds.length<1000000->∃a:List Int,a.length=ds.length/\(∀w∈a,w∈xs)∧Z2 3 1 (gN 3) Y3 (cM 3 [1] aX (aE (fV 0) (aO 1 (aE (fV 2) cB)))) ds xh [.va (WY ns),.ow (X6 n),.va (.lst (xs.map .int))]=b0 (xh++a.map .int,[.va (WY ns),.ow (X6 (n+ds.length)),.va (.lst (xs.map .int))])
 |[],n,xh,_,_=>⟨[],rfl,(λ_ h=>nomatch h),by simp⟩
 | d :: ds,n,xh,c,e => by
  obtain⟨y,f,l⟩:=WO ns n (xs.map .int) hl (by simp at c;lia) (by simpa using b);obtain⟨v,g,rfl⟩:=Aw.mp f;obtain⟨a,k,j,i⟩:=LC ns xs hl b ds (n+1) (xh++[.int v]) (by simp at c;lia) (by simp at e⊢;lia);refine⟨v::a,by simp[k],λw hw=>?_,?_⟩;rcases Ak.mp hw with z|z;rw[z];exact g;exact j w z;have m : xh.length < 16777216 := by simp at e;lia
  generalize xs.map cY.int=X at*;simp[l,cY.hard,m,i,show n+1+ds.length=n+(ds.length+1) by lia]
def lw(ns:List Int)(n:Nat)(B:cY)(b:Nat)(m:Int)(P:cY)(x6 x7 x8 x9 x10 x11 x12 x13 x14:Sl):Ev:=[.va (WY ns),.ow (X6 n),.va B,.va (.int b),.va (.int m),.va P,x6,x7,x8,x9,x10,x11,x12,x13,x14]
noncomputable def K2:VS:=(aU 7 (xV (f2 cJ (f2 cJ (f2 cJ (fV 2) (fC (.int 1))) (cM 3 [1] cI (aE (fV 0) (aO 1 (aE (fV 4) cB))))) (fC (.int 0)))))
noncomputable def C2:VS:=(aU 8 (xV (bM [2,7] 1 (OS (fV 4)) (gN 2) (fB (f2 ZF (f2 cJ (f2 cJ (f2 cJ (fV 0) (fC (.int 1))) (fV 2)) (fC (.int 0))) (fV 1))) (fV 2))))
noncomputable def hs3:VS:=(aU 9 (xV (bJ (cT (f1 ZP (K1 (f1 WA (bM [0,1,8] 1 (OS (f2 aV (fV 3) (fC (.int 1)))) (gN 3) Y3 (cM 3 [1] aX (aE (fV 0) (aO 1 (aE (fV 2) cB)))))) JZ (K3 (fV 3)))) cL))))
noncomputable def hs4:VS:=(aU 10 (xO (f2 FA (f1 VH (fV 5)) (EC (fB (f2 ZF (cM 3 [1] cI (aE (fV 0) (aO 1 (aE (fC (.int 2)) cB)))) (fC (.int 0)))) (fV 9) (bJ cL)))))
noncomputable def hs5a:VS:=(UT 11 12 (xV (cM 3 [1] cI (aE (fV 0) (aO 1 (aE (f1 Z9 (fO 10)) cB))))) (xV (cM 3 [1] cI (aE (fV 0) (aO 1 (aE (fV 3) cB))))))
noncomputable def hs5b:VS:=(FU 10 (fV 11) (f2 aV (f2 aV (K1 (f2 cJ (fO 10) (fV 11)) JZ (K3 (fV 12))) (bK (cT (cM 3 [1] cI (aE (fV 0) (aO 1 (aE (fV 4) cB)))) cL))) (K1 (f2 cJ (fO 10) (fV 11)) (K3 (f2 aV (fV 12) (fC (.int 1)))) JZ)))
noncomputable def hs5:VS:=(YL (XO (fB (f2 XE (fO 10) (bJ cL))) (fB (f2 ZF (cM 3 [1] cI (aE (fV 0) (aO 1 (aE (fC (.int 2)) cB)))) (fC (.int 0))))) (cE hs5a hs5b) aY)
noncomputable def hs6:VS:=(YL (fB (f2 oGt (cM 3 [1] cI (aE (fV 0) (aO 1 (aE (fC (.int 4)) cB)))) (fC (.int 0)))) (aU 10 (xO (f1 VW (fO 10)))) aY)
noncomputable def hs7:VS:=(YL (U0 (fB (cM 2 [] YU (aE (cM 3 [] aQ (aE (fV 2) (aE (fV 3) (aE (f1 ZP (fO 10)) cB)))) (aE (cM 3 [] X9 (aE (fV 2) (aE (fV 3) (aE (f1 ZP (fO 10)) cB)))) cB))))) (bQ (fC (.bl bb))) aY)
def CP:RJ=YL (fB (f2 oGt (fV 4) (fC (.int 0)))) (cE K2 (cE C2 (cE hs3 (cE hs4 (cE hs5 (cE hs6 hs7)))))) aY:=rfl
structure Qs(rows:List cY)(qs:List (List Int)):Prop where
 ok:∀q∈qs,q≠[]/\GJ rows q/\q.length<=6
 len:qs.length<=12
section
variable{ns:List Int}{xf:Int}{rows:List cY}{xg:List Kd}{b:Nat}{m:Int}{P:cY}{x6 x7 x8 x9 x10 x11 x12 x13 x14:Sl}
section
variable{ps qs:List (List Int)}
def k8(g:Bl [] rows xg)(hl:ns.length<=63)(n:Nat)(k:n<400000)(l:0<rows.length):∃x:String,(∃i:Int,0<=i/\i<rows.length/\NR (ZC rows i)=Ay x)/\K2 (lw ns n (Bk xf rows) b rows.length P x6 x7 x8 x9 x10 x11 x12 x13 x14)=b0 (.nx (lw ns (n+1) (Bk xf rows) b rows.length P x6 (.va (.str x)) x8 x9 x10 x11 x12 x13 x14)):=by
 have c:(0:Int)<rows.length:=by lia
 have d:=aA ns n rows.length hl (by lia) c;have f:=U9 ns n c;have e:UG ns n rows.length<rows.length:=Cf _ c;obtain⟨x,a,m,j,h,_⟩:=YQ g f e;refine⟨x,⟨_,f,e,by rw[j];rfl⟩,?_⟩;unfold K2 lw;generalize (rows.length:Int)=r at*;simp[d,h]
def alP(rows:List cY)(x:String):cY->Bool
 |.int r=>decide (NR (ZC rows r)=Ay x)
 |_=>bb
def ou(t:Bl [] rows xg)(h:rows.length<1000)(n:Nat)(x:String)(s:∃i:Int,0<=i/\i<rows.length/\NR (ZC rows i)=Ay x):∃g:List Int,0<g.length/\GJ rows g/\C2 (lw ns n (Bk xf rows) b rows.length P x6 (.va (.str x)) x8 x9 x10 x11 x12 x13 x14)=b0 (.nx (lw ns n (Bk xf rows) b rows.length P x6 (.va (.str x)) (.va (.lst (g.map .int))) x9 x10 x11 x12 x13 x14)):=by
 have c:=XV 2 (fB (f2 ZF (f2 cJ (f2 cJ (f2 cJ (fV 0) (fC (.int 1))) (fV 2)) (fC (.int 0))) (fV 1))) (alP rows x) (fV 2) id [.va (Bk xf rows),.va (.str x)] rfl (a7 0 rows.length) [] (λd j=>by
  rw[M9]at j;obtain⟨r,h,rfl⟩:=Aw.mp j;obtain⟨l,k⟩:=RU.mp h;obtain⟨y,a,z,w,v,_⟩:=YQ t l k;have u:alP rows x (.int r)=decide (y=x):=by show decide (NR (ZC rows r)=_)=_;rw[w];exact decide_eq_decide.mpr (ZZ y x)
  rw[u];exact⟨by simp[v],λ_=>by simp⟩) (by simp[a7];lia)
 rw[Bg,Je]at c;have e:(a7 0 rows.length).filter (alP rows x)=((FT rows.length).filter λr=>alP rows x (.int r)).map .int:=by rw[M9,Ka];rfl
 rw[e]at c;refine⟨(FT rows.length).filter λr=>alP rows x (.int r),?_,λi f=>RU.mp (Dt.mp f).1,?_⟩;obtain⟨i,q,p,f⟩:=s;exact Ke (Dt.mpr ⟨RU.mpr ⟨q,p⟩,decide_eq_true f⟩);have o : (-4611686018427387904 : Int) <= rows.length := by lia
 have m:(rows.length:Int)<4611686018427387904:=by lia
 unfold C2 lw;generalize ((FT rows.length).filter λr=>alP rows x (.int r)).map cY.int=A,Bk xf rows=B at*;simp[b7,bD,c,o,m]
def qm(hl:ns.length<=63)(C:2<=b)(p:b<=4)(n:Nat)(y:n<400000){d:List Int}(q:0<d.length)(o:GJ rows d):∃sp:List Int,(sp≠[]/\GJ rows sp/\sp.length<=6)/\hs3 (lw ns n (Bk xf rows) b m P x6 x7 (.va (.lst (d.map .int))) x9 x10 x11 x12 x13 x14)=b0 (.nx (lw ns (n+(b+1)) (Bk xf rows) b m P x6 x7 (.va (.lst (d.map .int))) (.va (.lst [cV sp])) x10 x11 x12 x13 x14)):=by
 have f:(a7 0 (b+1)).length=b+1:=by simp[a7]
 obtain⟨a,j,k,c⟩:=LC ns d hl q (a7 0 (b+1)) n [] (by rw[f];lia) (by rw[f];simp;lia);rw[f]at j c;have e:∀z,z∈SP.upL OT a↔z∈a:=λz=>SP.PN;have l:SP.upL OT a≠[]:=λz=>by
  cases a with
  |nil=>simp at j
  |cons w t=>
   have:=(e w).mpr Ag
   rw[z]at this;cases this
 have s:WA (.lst (a.map .int))=b0 (.lst ((SP.upL OT a).map .int)):=by show(Z3 (a.map .int)).bind (λns=>if(a.map cY.int).length<64 then b0 (cY.lst ((SP.upL OT ns).map .int))else b4)=_;rw[ZJ,An,if_pos (by simp;lia)]
 have h:X7 ((SP.upL OT a).map cY.int) b4 (b0 (b:Int))=((SP.upL OT a).take b).map .int:=by rw[T3,Vv]
 refine⟨(SP.upL OT a).take b,⟨λz=>?_,λi g=>o i (k i ((e i).mp (Ln g))),by rw[Cj];lia⟩,?_⟩;rcases List.take_eq_nil_iff.mp z with z|z;lia;exact l z;have x : (-4611686018427387904 : Int) <= (b : Int) + 1 := by lia
 have v:(b:Int)+1<4611686018427387904:=by lia
 have u:((b:Int)+1).toNat=b+1:=by lia
 have r:cV ((SP.upL OT a).take b)=.tup (((SP.upL OT a).take b).map .int):=rfl;rw[r];rw[Bg]at c;unfold hs3 lw;generalize ((SP.upL OT a).take b).map cY.int=A,(SP.upL OT a).map cY.int=U,a.map cY.int=W,d.map cY.int=L,Bk xf rows=B at*;simp[b7,bD,c,x,v,u,s,h]
def qH(hl:ns.length<=63)(n:Nat)(f:n<400000){sp:List Int}(e:ps.length<=11):∃qs:List (List Int),(qs=ps++[sp]∨qs=ps)/\hs4 (lw ns n (Bk xf rows) b m (.tup (ps.map cV)) x6 x7 x8 (.va (.lst [cV sp])) x10 x11 x12 x13 x14)=b0 (.nx (lw ns (n+1) (Bk xf rows) b m (.tup (ps.map cV)) x6 x7 x8 (.va (.lst [cV sp])) (.ow (.lst (qs.map cV))) x11 x12 x13 x14)):=by
 have d:=aA ns n 2 hl (by lia) (by decide);have c:(ps.map cV).length+1<=16777216:=by simp;lia
 have a:(ps.map cV).length<=16777216:=by simp;lia
 unfold hs4 lw;by_cases h:UG ns n 2=0;refine⟨ps++[sp],.inl rfl,?_⟩;rw[Ed,Mz];generalize ps.map cV=T,cV sp=S,Bk xf rows=B at*;simp[d,h,FA,c];refine⟨ps,.inr rfl,?_⟩;generalize ps.map cV=T,cV sp=S,Bk xf rows=B at*;simp[d,h,FA,a]
def ph(hl:ns.length<=63)(X:2<=b)(M:b<=4)(n:Nat)(W:n<400000)(Y:0<rows.length)(Q:Qs rows qs):∃(u:Nat) (e:List (List Int)) (t s:Sl),n<=u/\u<=n+4/\Qs rows e/\hs5 (lw ns n (Bk xf rows) b rows.length P x6 x7 x8 x9 (.ow (.lst (qs.map cV))) x11 x12 x13 x14)=b0 (.nx (lw ns u (Bk xf rows) b rows.length P x6 x7 x8 x9 (.ow (.lst (e.map cV))) t s x13 x14)):=by
 have m:XE (.lst (qs.map cV)) (.lst [])=b0 (.bl (!qs.isEmpty)):=by rw[UQ (bY (X1 qs)) (bY (aL (k:=0))),XB,Gk]
 unfold hs5;cases p:qs.isEmpty with
 |true=>
  rw[p]at m;refine⟨n,qs,x11,x12,Al _,by lia,Q,?_⟩;unfold lw;generalize qs.map cV=T,Bk xf rows=B at*;simp[m]
 |false=>
  rw[p]at m;have d:=aA ns n 2 hl (by lia) (by decide);by_cases h:UG ns n 2=0;rotate_left;refine ⟨n + 1,qs,x11,x12,by lia,by lia,Q,?_⟩;unfold lw;generalize qs.map cV=T,Bk xf rows=B at*;simp[m,d,h];have c:(0:Int)<rows.length:=by lia
  have K:0<qs.length:=Rk.mpr λz=>by rw[z]at p;cases p
  have A:(0:Int)<qs.length:=by lia
  have a:(0:Int)<b:=by lia
  have S:=aA ns (n+1) qs.length hl (by lia) A;have a0:=U9 ns (n+1) A;have a1:UG ns (n+1) qs.length<qs.length:=Cf _ A;have R:=aA ns (n+2) b hl (by lia) a;have c0:=U9 ns (n+2) a;have Z:UG ns (n+2) b<b:=Cf _ a;have O:=aA ns (n+3) rows.length hl (by lia) c;have J:=U9 ns (n+3) c;have I:UG ns (n+3) rows.length<rows.length:=Cf _ c;generalize UG ns (n+1) qs.length=o,UG ns (n+2) b=k1,UG ns (n+3) rows.length=r at*;obtain⟨j,rfl⟩:∃j:Nat,o=(j:Int):=⟨o.toNat,by lia⟩;obtain⟨k,rfl⟩:∃k:Nat,k1=(k:Int):=⟨k1.toNat,by lia⟩;have x:j<qs.length:=by lia
  have f:=Q.ok _ (Hn x);have l:U8 (qs.map cV) (j:Int)=b0 (cV qs[j]):=by rw[kQ (by simpa using x)];simp[x]
  have y:HB (qs.map cV).length (j:Int)=b0 j:=by unfold HB;rw[if_pos (by lia),if_pos (by simp;lia)];simp
  have ct:X7 (qs[j].map cY.int) b4 (b0 (k:Int))=(qs[j].take k).map .int:=by rw[T3,Vv]
  have U:X7 (qs[j].map cY.int) (b0 ((k:Int)+1)) b4=(qs[j].drop (k+1)).map .int:=by rw[show((k:Int)+1)=((k+1:Nat):Int) by push_cast;rfl,kZ,Vu]
  have N:(qs.map cV).set j (.tup ((qs[j].take k).map cY.int++ .int r::(qs[j].drop (k+1)).map cY.int))=(qs.set j (qs[j].take k++r::qs[j].drop (k+1))).map cV:=by rw[List.map_set];unfold cV;simp
  have V:Qs rows (qs.set j (qs[j].take k++r::qs[j].drop (k+1))):=⟨λq v=>by
   rcases List.mem_or_eq_of_mem_set v with g|rfl;exact Q.ok q g;refine ⟨by simp,λi L => ?_,?_⟩;rcases Bq.mp L with g|g;exact f.2.1 i (Ln g);rcases Ak.mp g with rfl|g;exact⟨J,I⟩;exact f.2.1 i (Iv g);have:=f.2.2
   rw[Bm,Cj,Ba,Li];lia,by rw[Ce];exact Q.len⟩
  have E:((qs[j].take k).map cY.int).length+1<=16777216:=by
   have:=f.2.2
   rw[Bf,Cj];lia
  have D:((qs[j].take k).map cY.int).length+1+((qs[j].drop (k+1)).map cY.int).length<=16777216:=by
   have:=f.2.2
   rw[Bf,Cj,Bf,Li];lia
  have w:((qs.map cV).length:Int)=qs.length:=by simp
  refine⟨n+4,_,.va (.int j),.va (.int k),by lia,Al _,V,?_⟩;have G:hs5a (lw ns (n+1) (Bk xf rows) b rows.length P x6 x7 x8 x9 (.ow (.lst (qs.map cV))) x11 x12 x13 x14)=b0 (.nx (lw ns (n+3) (Bk xf rows) b rows.length P x6 x7 x8 x9 (.ow (.lst (qs.map cV))) (.va (.int j)) (.va (.int k)) x13 x14)):=by unfold hs5a lw;generalize qs.map cV=T,Bk xf rows=B at*;simp[w,S,R]
  have F:hs5b (lw ns (n+3) (Bk xf rows) b rows.length P x6 x7 x8 x9 (.ow (.lst (qs.map cV))) (.va (.int j)) (.va (.int k)) x13 x14)=b0 (.nx (lw ns (n+4) (Bk xf rows) b rows.length P x6 x7 x8 x9 (.ow (.lst ((qs.set j (qs[j].take k++r::qs[j].drop (k+1))).map cV))) (.va (.int j)) (.va (.int k)) x13 x14)):=by rw[<-N];have C:cV qs[j]=.tup (qs[j].map .int):=rfl;rw[C]at l;unfold hs5b lw;generalize (qs[j].take k).map cY.int=T1,(qs[j].drop (k+1)).map cY.int=T2,qs[j].map cY.int=T0,qs.map cV=T,Bk xf rows=B at*;simp -implicitDefEqProofs [l,ct,U,O,y,E,D]
  have H:(XO (fB (f2 XE (fO 10) (bJ cL))) (fB (f2 ZF (cM 3 [1] cI (aE (fV 0) (aO 1 (aE (fC (.int 2)) cB)))) (fC (.int 0))))) (lw ns n (Bk xf rows) b rows.length P x6 x7 x8 x9 (.ow (.lst (qs.map cV))) x11 x12 x13 x14)=b0 (ba,lw ns (n+1) (Bk xf rows) b rows.length P x6 x7 x8 x9 (.ow (.lst (qs.map cV))) x11 x12 x13 x14):=by unfold lw;generalize qs.map cV=T,Bk xf rows=B at*;simp[m,d,h]
  rw[eF,H,qJ_t,aD G,F]
def my(hl:ns.length<=63)(n:Nat)(e:n<400000)(Q:Qs rows qs):∃(a:List (List Int)),Qs rows a/\hs6 (lw ns n (Bk xf rows) b m P x6 x7 x8 x9 (.ow (.lst (qs.map cV))) x11 x12 x13 x14)=b0 (.nx (lw ns (n+1) (Bk xf rows) b m P x6 x7 x8 x9 (.ow (.lst (a.map cV))) x11 x12 x13 x14)):=by
 have d:=aA ns n 4 hl (by lia) (by decide);have s:=BS (ps:=qs) (λq c=>(Q.ok q c).1) (by have:=Q.len;lia) (d:=.lst (qs.map cV)) rfl;unfold hs6 lw;by_cases h:0<UG ns n 4;refine ⟨sT qs,⟨λq c => Q.ok q ((UE qs).mem_iff.mp c),by rw [(UE qs).length_eq];exact Q.len⟩,?_⟩;generalize (sT qs).map cV=S,qs.map cV=T,Bk xf rows=B at*;simp[d,h,s];refine⟨qs,Q,?_⟩;generalize qs.map cV=T,Bk xf rows=B at*;simp[d,h]
def iB(e:Bl [] rows xg)(a:aW [Bk xf rows]=b0 (.bl ba,[]))(f:2<=b)(c:b<=4)(n:Nat)(Q:Qs rows qs):hs7 (lw ns n (Bk xf rows) b m P x6 x7 x8 x9 (.ow (.lst (qs.map cV))) x11 x12 x13 x14)=b0 (.nx (lw ns n (Bk xf rows) b m P x6 x7 x8 x9 (.ow (.lst (qs.map cV))) x11 x12 x13 x14)):=by
 have h:∀p∈qs,GJ rows p/\p.length<8:=λp d=>⟨(Q.ok p d).2.1,by have:=(Q.ok p d).2.2;lia⟩;have j:=UN e a f c h (by have:=Q.len;lia);have i:=gQ (xf:=xf) e f h (by have:=Q.len;lia);generalize GN rows b qs=x at*;have g:YU [.bl x,.bl x]=b0 (.bl ba,[]):=by cases x<;>kernel_rfl
 unfold hs7 lw;generalize qs.map cV=T,Bk xf rows=B at*;simp[j,i,g]
def oP(v:Bl [] rows xg)(U:rows.length<=10)(u:aW [Bk xf rows]=b0 (.bl ba,[]))(hl:ns.length<=63)(w:2<=b)(d:b<=4)(n:Nat)(W:n<300000)(V:ps.length<=10)(A:Pls rows b ps):∃(o:Nat) (C y8 y9 j c a:Sl),n<=o/\o<=n+20/\RJ (lw ns n (Bk xf rows) b rows.length (.tup (ps.map cV)) x6 x7 x8 x9 x10 x11 x12 x13 x14)=b0 (.nx (lw ns o (Bk xf rows) b rows.length (.tup (ps.map cV)) x6 C y8 y9 j c a x13 x14)):=by
 rw[CP,eF];by_cases y:0<rows.length;have t:(fB (f2 oGt (fV 4) (fC (.int 0)))) (lw ns n (Bk xf rows) b rows.length (.tup (ps.map cV)) x6 x7 x8 x9 x10 x11 x12 x13 x14)=b0 (ba,lw ns n (Bk xf rows) b rows.length (.tup (ps.map cV)) x6 x7 x8 x9 x10 x11 x12 x13 x14):=by
  unfold lw;have:(0:Int)<rows.length:=by lia
  generalize ps.map cV=T,Bk xf rows=B,(rows.length:Int)=r at*;simp[this]
 rw[t,qJ_t];obtain⟨x,F,M⟩:=k8 (xf:=xf) (b:=b) (P:=.tup (ps.map cV)) (x6:=x6) (x7:=x7) (x8:=x8) (x9:=x9) (x10:=x10) (x11:=x11) (x12:=x12) (x13:=x13) (x14:=x14) v hl n (by lia) y;obtain⟨h,O,N,L⟩:=ou (ns:=ns) (xf:=xf) (b:=b) (P:=.tup (ps.map cV)) (x6:=x6) (x8:=x8) (x9:=x9) (x10:=x10) (x11:=x11) (x12:=x12) (x13:=x13) (x14:=x14) v (by lia) (n+1) x F;obtain⟨e,p,K⟩:=qm (xf:=xf) (m:=rows.length) (P:=.tup (ps.map cV)) (x6:=x6) (x7:=.va (.str x)) (x9:=x9) (x10:=x10) (x11:=x11) (x12:=x12) (x13:=x13) (x14:=x14) hl w d (n+1) (by lia) O N;obtain⟨E,s,J⟩:=qH (rows:=rows) (xf:=xf) (b:=b) (m:=rows.length) (x6:=x6) (x7:=.va (.str x)) (x8:=.va (.lst (h.map .int))) (x10:=x10) (x11:=x11) (x12:=x12) (x13:=x13) (x14:=x14) hl (n+1+(b+1)) (by lia) (ps:=ps) (sp:=e) (by lia);have f:∀q∈ps,q≠[]/\GJ rows q/\q.length<=6:=λq i=>by
  have:=(W7 (A.ok q i)).1
  exact⟨λz=>by rw[z]at this;simp at this;lia,A.inr q i,by lia⟩
 have Q:Qs rows E:=by
  rcases s with rfl|rfl;refine ⟨λq i => ?_,by simp;lia⟩;rcases Bq.mp i with g|g;exact f q g;rw[Aq.mp g];exact p;exact⟨f,by lia⟩
 obtain⟨l,D,c,a,m1,m2,S,I⟩:=ph (xf:=xf) (P:=.tup (ps.map cV)) (x6:=x6) (x7:=.va (.str x)) (x8:=.va (.lst (h.map .int))) (x9:=.va (.lst [cV e])) (x11:=x11) (x12:=x12) (x13:=x13) (x14:=x14) hl w d (n+1+(b+1)+1) (by lia) y Q;obtain⟨k,R,H⟩:=my (xf:=xf) (b:=b) (m:=rows.length) (P:=.tup (ps.map cV)) (x6:=x6) (x7:=.va (.str x)) (x8:=.va (.lst (h.map .int))) (x9:=.va (.lst [cV e])) (x11:=c) (x12:=a) (x13:=x13) (x14:=x14) hl l (by lia) S;have G:=iB (ns:=ns) (m:=rows.length) (P:=.tup (ps.map cV)) (x6:=x6) (x7:=.va (.str x)) (x8:=.va (.lst (h.map .int))) (x9:=.va (.lst [cV e])) (x11:=c) (x12:=a) (x13:=x13) (x14:=x14) v u w d (l+1) R;refine⟨l+1,.va (.str x),.va (.lst (h.map .int)),.va (.lst [cV e]),.ow (.lst (k.map cV)),c,a,by lia,by lia,?_⟩;rw[aD M,aD L,aD K,aD J,aD I,aD H,G];have t:(fB (f2 oGt (fV 4) (fC (.int 0)))) (lw ns n (Bk xf rows) b rows.length (.tup (ps.map cV)) x6 x7 x8 x9 x10 x11 x12 x13 x14)=b0 (bb,lw ns n (Bk xf rows) b rows.length (.tup (ps.map cV)) x6 x7 x8 x9 x10 x11 x12 x13 x14):=by
  unfold lw;have:¬(0:Int)<rows.length:=by lia
  generalize ps.map cV=T,Bk xf rows=B,(rows.length:Int)=r at*;simp[this]
 rw[t,qJ_f];exact⟨n,x7,x8,x9,x10,x11,x12,Al _,by lia,rfl⟩
theorem dE(q:Bl [] rows xg)(o:rows.length<=10)(h:aW [Bk xf rows]=b0 (.bl ba,[]))(hl:ns.length<=63)(r:2<=b)(i:b<=4){ps:List (List Int)}(p:ps.length<=10)(s:Pls rows b ps):∀(ds:List cY) (n:Nat) (x6 x7 x8 x9 x10 x11 x12:Sl),n+20*ds.length<200000->∃(g:Nat) (x m y8 y9 f c a:Sl),n<=g/\g<=n+20*ds.length/\XQ (gN 6) RJ ds (lw ns n (Bk xf rows) b rows.length (.tup (ps.map cV)) x6 x7 x8 x9 x10 x11 x12 x13 x14)=b0 (.nx (lw ns g (Bk xf rows) b rows.length (.tup (ps.map cV)) x m y8 y9 f c a x13 x14))
 |[],n,x6,x7,x8,x9,x10,x11,x12,_=>⟨n,x6,x7,x8,x9,x10,x11,x12,by simp,by simp,by simp⟩
 |d::ds,n,x6,x7,x8,x9,x10,x11,x12,A=>by simp only[Ba]at A;obtain⟨y,m,y8,y9,f,c,a,E,D,e⟩:=oP (x6:=.va d) (x7:=x7) (x8:=x8) (x9:=x9) (x10:=x10) (x11:=x11) (x12:=x12) (x13:=x13) (x14:=x14) q o h hl r i n (by lia) p s;obtain⟨g,w,v,u,t,l,k,j,C,B,z⟩:=dE q o h hl r i p s ds y (.va d) m y8 y9 f c a (by lia);refine⟨g,w,v,u,t,l,k,j,by lia,by simp only[Ba];lia,?_⟩;rw[VT,PB,SR,show(lw ns n (Bk xf rows) b rows.length (.tup (ps.map cV)) x6 x7 x8 x9 x10 x11 x12 x13 x14).set 6 (.va d)=lw ns n (Bk xf rows) b rows.length (.tup (ps.map cV)) (.va d) x7 x8 x9 x10 x11 x12 x13 x14 from rfl,e,SS,z]
end
end
def lT(xs:List cY)(x:cY):X7 (xs++[x]) (b0 (-1)) b4=[x]:=by
 have e:HT.sIx (xs++[x]).length 0 (b0 (-1))=xs.length:=by show(if(-1:Int)<0 then((-1:Int)+((xs++[x]).length:Nat)).toNat else min (-1:Int).toNat (xs++[x]).length)=_;rw[if_pos (by decide)];simp;lia
 unfold X7;rw[e,HT.P0];simp
def nC{ds:List cY}:NF (.tup ds) (.tup [])=ds.isEmpty:=by cases ds<;>rfl
section
variable{ns:List Int}{xf:Int}{rows:List cY}{xg:List Kd}{b:Nat}{P:cY}{x6 x7 x8 x9 x10 x11 x12 x13 x14:Sl}{ps:List (List Int)}
def iI{r:Int}:GN rows 2 [[r,r]]=bb:=by
 cases h:GN rows 2 [[r,r]]with
 |false=>rfl
 |true=>
  unfold GN at h;rw[Ah,Eo]at h;have:=(W7 (h.1 _ Ag)).2;have:=(De.mp this).1 r (by simp)
  lia
def l7(e:Bl [] rows xg)(a:aW [Bk xf rows]=b0 (.bl ba,[]))(n:Nat){m:Int}{r:Int}(h:0<=r)(g:r<rows.length):RG (lw ns n (Bk xf rows) b m P x6 x7 x8 x9 x10 x11 x12 (.va (.int r)) x14)=b0 (.nx (lw ns n (Bk xf rows) b m P x6 x7 x8 x9 x10 x11 x12 (.va (.int r)) x14)):=by
 have f:=UN (b:=2) (ps:=[[r,r]]) e a (Al _) (by decide) (λp c=>by
  rw[Aq.mp c];refine⟨λi d=>?_,by simp⟩;have:i=r:=by simpa using d
  rw[this];exact⟨h,g⟩) (by simp)
 rw[show((2:Nat):Int)=2 from rfl,show[[r,r]].map cV=[.tup [.int r,.int r]] from rfl]at f;rw[iI]at f;have i:Q8 (.bl bb) (.bl bb)=b0 (.bl bb):=rfl;unfold RG lw;generalize Bk xf rows=B at*;simp[f,i]
theorem dX(d:Bl [] rows xg)(c:aW [Bk xf rows]=b0 (.bl ba,[]))(n:Nat){m:Int}:∀(ds:List Int) (x13:Sl),(∀r∈ds,0<=r/\r<rows.length)->∃a,XQ (gN 13) RG (ds.map .int) (lw ns n (Bk xf rows) b m P x6 x7 x8 x9 x10 x11 x12 x13 x14)=b0 (.nx (lw ns n (Bk xf rows) b m P x6 x7 x8 x9 x10 x11 x12 a x14))
 |[],x13,_=>⟨x13,by simp⟩
 |r::ds,x13,h=>by obtain⟨i,g⟩:=h r Ag;obtain⟨a,e⟩:=dX d c n ds (.va (.int r)) λq f=>h q (Ai _ f);refine⟨a,?_⟩;rw[Av,VT,PB,SR,show(lw ns n (Bk xf rows) b m P x6 x7 x8 x9 x10 x11 x12 x13 x14).set 13 (.va (.int r))=lw ns n (Bk xf rows) b m P x6 x7 x8 x9 x10 x11 x12 (.va (.int r)) x14 from rfl,l7 d c n i g,SS,e]
noncomputable def hl8:VS:=(YL (XO (fB (f2 XE (fV 5) (bK cL))) (fB (f2 Q8 (cM 3 [] aQ (aE (fV 2) (aE (fV 3) (aE (f2 aV (fV 5) (K1 (fV 5) (K3 (f1 L7 (fC (.int 1)))) JZ)) cB)))) (fC (.bl bb))))) (bQ (fC (.bl bb))) aY)
def sC(x:Bl [] rows xg)(r:aW [Bk xf rows]=b0 (.bl ba,[]))(A:2<=b)(y:b<=4)(w:ps.length<=10)(s:Pls rows b ps)(n:Nat){m:Int}:hl8 (lw ns n (Bk xf rows) b m (.tup (ps.map cV)) x6 x7 x8 x9 x10 x11 x12 x13 x14)=b0 (.nx (lw ns n (Bk xf rows) b m (.tup (ps.map cV)) x6 x7 x8 x9 x10 x11 x12 x13 x14)):=by
 have d:XE (.tup (ps.map cV)) (.tup [])=b0 (.bl (!ps.isEmpty)):=by rw[UQ (VJ (X1 ps)) (VJ (aL (k:=0))),nC,Gk]
 unfold hl8 lw;rcases Lg ps with rfl|⟨c,p,e⟩;rw[show([]:List (List Int)).isEmpty=ba from rfl]at d;generalize ([]:List (List Int)).map cV=T at*;generalize Bk xf rows=B at*;simp[d];rw[Lh]at e;subst e;have o:(c++[p]).isEmpty=bb:=by simp
 rw[o]at d;have l:p≠[]:=λz=>by
  have:=(W7 (s.ok p (by simp))).1
  rw[z]at this;simp at this;lia
 have u:∀q∈c++[p],GJ rows q/\q.length<8:=λq j=>⟨s.inr q j,by
  have:=(W7 (s.ok q j)).1
  lia⟩
 have f:=UN (ps:=c++[p]++[p]) x r A y (λq j=>by
  rcases Bq.mp j with g|g;exact u q g;rw[Aq.mp g];exact u p (by simp)) (by simp at w⊢;lia)
 have no:GN rows b (c++[p]++[p])=bb:=by
  cases h:GN rows b (c++[p]++[p])with
  |false=>rfl
  |true=>
   unfold GN at h;rw[Ah,Ah,AR]at h;have v:=h.2.1;rw[Rl,Pj]at v;cases p with
   |nil=>exact absurd rfl l
   |cons a t=>exact absurd rfl ((He.mp v).2.2 a (Pc.mpr ⟨_,Be _ (Aq.mpr rfl),Ag⟩) a Ag)
 rw[no]at f;have C:=lT (c.map cV) (cV p);have em:(c++[p]).map cV=c.map cV++[cV p]:=by simp
 have em2:(c++[p]++[p]).map cV=(c.map cV++[cV p])++[cV p]:=by simp
 have i:Q8 (.bl bb) (.bl bb)=b0 (.bl bb):=rfl;rw[em2]at f;rw[em]at d⊢;have z:(c.map cV++[cV p]).length+1<=16777216:=by simp at w⊢;lia
 generalize c.map cV++[cV p]=T at*;generalize cV p=D at*;generalize Bk xf rows=B at*;simp[d,C,f,i,z]
noncomputable abbrev oddL(m:Int)(L:List cY):List cY:=[.non,.int 5,.lst L,.lst [.tup []],.str "",.tup [.tup []],.tup [.tup [.int 0]],.tup [.tup [.str "0",.str "1"]],.tup [.tup [.int 0,.non]],.tup [.tup [.int 0,.int m]],.tup [.int 0,.int 1]]
def iX{L:List cY}{x:cY}(c:x∈oddL rows.length L):aB [Bk xf rows,.int 2,x]=b0 (.bl bb,[]):=by
 have b:bA [.int 0,.int 0,.int ((rows.length:Int)-1)]=b0 (.bl (decide ((0:Int)<=(rows.length:Int)-1)),[]):=by rw[GF];simp
 have e:bA [.int rows.length,.int 0,.int ((rows.length:Int)-1)]=b0 (.bl bb,[]):=by
  rw[GF];have:¬(rows.length:Int)<=(rows.length:Int)-1:=by lia
  simp[this]
 have a:∀s,bA [.str s,.int 0,.int ((rows.length:Int)-1)]=b0 (.bl bb,[]):=λs=>by kernel_rfl
 have d:bA [.non,.int 0,.int ((rows.length:Int)-1)]=b0 (.bl bb,[]):=by kernel_rfl
 simp only[Ak,Br,or_false]at c;rcases c with rfl|rfl|rfl|rfl|rfl|rfl|rfl|rfl|rfl|rfl|rfl;exact LH (.inl rfl);exact LH (.inr (.inl ⟨_,rfl⟩));exact LH (.inr (.inr (.inr ⟨_,rfl⟩)));exact LH (.inr (.inr (.inr ⟨_,rfl⟩)));exact LH (.inr (.inr (.inl ⟨_,rfl⟩)));exact LI (len2 (by decide) (by decide));exact LI (len2 (by decide) (by decide));exact LI (DK (a _) (a _) rfl);exact LI (DK b d (Hr _));exact LI (DK b e (Hr _));exact o6 gP gP
def sf:GN rows b []=ba:=by unfold GN srB;rw[List.perm_nil.mp (UE [])];rfl
noncomputable def hl9:VS:=(aU 14 (xV (bJ (cT (fC .non) (cT (fC (.int 5)) (cT (f2 aV (f1 VH (fV 5)) (bJ (cT (fC (.int 0)) cL))) (cT (bJ (cT (bK cL) cL)) (cT (fC (.str "")) (cT (bK (cT (bK cL) cL)) (cT (bK (cT (bK (cT (fC (.int 0)) cL)) cL)) (cT (bK (cT (bK (cT (fC (.str "0")) (cT (fC (.str "1")) cL))) cL)) (cT (bK (cT (bK (cT (fC (.int 0)) (cT (fC .non) cL))) cL)) (cT (bK (cT (bK (cT (fC (.int 0)) (cT (fV 4) cL))) cL)) (cT (bK (cT (fC (.int 0)) (cT (fC (.int 1)) cL))) cL))))))))))))))
def jZ(n:Nat){m:Int}{T:List cY}(a:T.length<1000){B:cY}:hl9 (lw ns n B b m (.tup T) x6 x7 x8 x9 x10 x11 x12 x13 x14)=b0 (.nx (lw ns n B b m (.tup T) x6 x7 x8 x9 x10 x11 x12 x13 (.va (.lst (oddL m (T++[.int 0])))))):=by
 have z:T.length+1<=16777216:=by lia
 unfold hl9 lw;simp[z]
noncomputable def hl10:VS:=(bQ (RA (f2 FC (cM 3 [] aQ (aE (fV 2) (aE (fV 3) (aE (bK cL) cB)))) (fC (.bl ba))) (f2 FC (cM 3 [] aQ (aE (fV 2) (aE (fC (.int 2)) (aE (cM 3 [1] aX (aE (fV 0) (aO 1 (aE (fV 14) cB)))) cB)))) (fC (.bl bb)))))
def ng(j:Bl [] rows xg)(a:aW [Bk xf rows]=b0 (.bl ba,[]))(hl:ns.length<=63)(l:2<=b)(k:b<=4)(n:Nat)(o:n<500000){m:Int}{L:List cY}:∃δ,hl10 (lw ns n (Bk xf rows) b m P x6 x7 x8 x9 x10 x11 x12 x13 (.va (.lst (oddL rows.length L))))=b0 (.rt (.bl ba) δ):=by have f:aQ [Bk xf rows,.int b,.tup []]=b0 (.bl (GN rows b []),[]):=UN (ps:=[]) j a l k (λ_ h=>nomatch h) (by simp);rw[sf]at f;obtain⟨x,i,e⟩:=WO ns n (oddL rows.length L) hl (by lia) (by simp);have g:=A6 (b:=2) a (Al _) (by decide) (p:=x) (x:=bb) (by rw[show((2:Nat):Int)=2 from rfl];exact iX i);rw[show((2:Nat):Int)=2 from rfl]at g;have d:FC (.bl ba) (.bl ba)=b0 (.bl ba):=rfl;have c:FC (.bl bb) (.bl bb)=b0 (.bl ba):=rfl;refine⟨lw ns (n+1) (Bk xf rows) b m P x6 x7 x8 x9 x10 x11 x12 x13 (.va (.lst (oddL rows.length L))),?_⟩;unfold hl10 lw;generalize oddL rows.length L=O at*;generalize Bk xf rows=B at*;simp[f,e,g,d,c]
noncomputable def JO:VS:=(UT 2 3 (xV (cM 3 [1] Y0 (aE (fV 0) (aO 1 (aE (fC (.int 10)) cB))))) (xV (f2 aV (fC (.int 2)) (cM 3 [1] cI (aE (fV 0) (aO 1 (aE (fC (.int 3)) cB)))))))
noncomputable def hl3:VS:=(UT 4 5 (xV (f1 Z9 (f2 cJ (fV 2) (fC (.int 1))))) (xV (bK cL)))
noncomputable def hl4:VS:=(aU 5 (xV (cM 4 [1] VO (aE (fV 0) (aO 1 (aE (fV 2) (aE (fV 3) cB)))))))
noncomputable def hl5:VS:=(YL (IV (fB (f2 Q8 (cM 3 [] aQ (aE (fV 2) (aE (fV 3) (aE (fV 5) cB)))) (fC (.bl ba)))) (U0 (fB (cM 3 [] X9 (aE (fV 2) (aE (fV 3) (aE (fV 5) cB))))))) (bQ (fC (.bl bb))) aY)
def sw:Yi=cE (aU 1 (xO (bJ cL))) (cE JO (cE hl3 (cE hl4 (cE hl5 (cE (U5 (OS (fC (.int 4))) (gN 6) RJ) (cE (U5 (OS (fV 4)) (gN 13) RG) (cE hl8 (cE hl9 hl10)))))))):=rfl
end
end L2
namespace RR
open PySem L2
def sr(ns:List Int)(hl:ns.length<=63):IM [.lst (ns.map .int)]=b0 (.bl ba,[]):=by
 obtain⟨a,rows,xg,n,s,E,H,G,hn,D⟩:=lB ns 0 10 hl (by lia) (by lia) (by lia);have u:rows.length<=10:=by lia
 have g:aW [Bk a rows]=b0 (.bl ba,[]):=C3 s H G (by lia);have d1:=aA ns n 3 hl (by lia) (by decide);have d0:=U9 ns n (b:=3) (by decide);have d2:UG ns n 3<3:=Cf _ (by decide);obtain⟨b,C,t,y⟩:∃b:Nat,2+UG ns n 3=(b:Int)/\2<=b/\b<=4:=⟨(2+UG ns n 3).toNat,by lia,by lia,by lia⟩;obtain⟨w,f,a1,a2,x,J,z,e2⟩:=nj (xf:=a) s u hl t y (n+1) (by lia);have v:∀p∈f,GJ rows p/\p.length<8:=λp x=>⟨z.inr p x,by
  have:=(W7 (z.ok p x)).1
  lia⟩
 have f1:=UN s g t y v (by lia);have f2:=gQ (xf:=a) s t v (by lia);rw[J]at f1 f2;obtain⟨q,l,k,j,h,e,d,c,c1,c2,e3⟩:=dE (x13:=.no) (x14:=.no) s u g hl t y x z (a7 0 4) w .no .no .no .no .no .no .no (by simp;lia);obtain⟨o,F⟩:=dX (ns:=ns) (b:=b) (P:=.tup (f.map cV)) (x6:=l) (x7:=k) (x8:=j) (x9:=h) (x10:=e) (x11:=d) (x12:=c) (x14:=.no) s g q (m:=rows.length) (FT rows.length) .no λr M=>RU.mp M;rw[<-M9]at F;have Z:=sC (ns:=ns) (x6:=l) (x7:=k) (x8:=j) (x9:=h) (x10:=e) (x11:=d) (x12:=c) (x13:=o) (x14:=.no) s g t y x z q (m:=rows.length);have Y:=jZ (ns:=ns) (b:=b) (x6:=l) (x7:=k) (x8:=j) (x9:=h) (x10:=e) (x11:=d) (x12:=c) (x13:=o) (x14:=.no) q (m:=rows.length) (T:=f.map cV) (by simp;lia) (B:=Bk a rows);have I:(a7 0 4).length=4:=rfl;rw[I]at c2;obtain⟨δ,X⟩:=ng (P:=.tup (f.map cV)) (x6:=l) (x7:=k) (x8:=j) (x9:=h) (x10:=e) (x11:=d) (x12:=c) (x13:=o) s g hl t y q (by lia) (m:=rows.length) (L:=f.map cV++[.int 0]);have W:aU 1 (xO (bJ cL)) (bU [] 15 [WY ns])=b0 (.nx [.va (WY ns),.ow (X6 0),.no,.no,.no,.no,.no,.no,.no,.no,.no,.no,.no,.no,.no]):=rfl;have V:JO [.va (WY ns),.ow (X6 0),.no,.no,.no,.no,.no,.no,.no,.no,.no,.no,.no,.no,.no]=b0 (.nx [.va (WY ns),.ow (X6 (n+1)),.va (Bk a rows),.va (.int b),.no,.no,.no,.no,.no,.no,.no,.no,.no,.no,.no]):=by have D:Y0 [WY ns,X6 0,.int 10]=b0 (Bk a rows,[X6 n]):=D;unfold JO;rw[<-C];generalize Bk a rows=B at*;simp[D,d1]
 have U:hl3 [.va (WY ns),.ow (X6 (n+1)),.va (Bk a rows),.va (.int b),.no,.no,.no,.no,.no,.no,.no,.no,.no,.no,.no]=b0 (.nx (lw ns (n+1) (Bk a rows) b rows.length (.tup []) .no .no .no .no .no .no .no .no .no)):=by unfold hl3 lw;simp
 have S:hl4 (lw ns (n+1) (Bk a rows) b rows.length (.tup []) .no .no .no .no .no .no .no .no .no)=b0 (.nx (lw ns w (Bk a rows) b rows.length (.tup (f.map cV)) .no .no .no .no .no .no .no .no .no)):=by unfold hl4 lw;generalize f.map cV=T at*;generalize Bk a rows=B at*;simp[e2]
 have i:Q8 (.bl ba) (.bl ba)=b0 (.bl bb):=rfl;have R:hl5 (lw ns w (Bk a rows) b rows.length (.tup (f.map cV)) .no .no .no .no .no .no .no .no .no)=b0 (.nx (lw ns w (Bk a rows) b rows.length (.tup (f.map cV)) .no .no .no .no .no .no .no .no .no)):=by unfold hl5 lw;generalize f.map cV=T at*;generalize Bk a rows=B at*;simp[f1,f2,i]
 have Q:U5 (OS (fC (.int 4))) (gN 6) RJ (lw ns w (Bk a rows) b rows.length (.tup (f.map cV)) .no .no .no .no .no .no .no .no .no)=b0 (.nx (lw ns q (Bk a rows) b rows.length (.tup (f.map cV)) l k j h e d c .no .no)):=e3;have K:(-4611686018427387904:Int)<=rows.length:=by lia
 have A:(rows.length:Int)<4611686018427387904:=by lia
 have O:U5 (OS (fV 4)) (gN 13) RG (lw ns q (Bk a rows) b rows.length (.tup (f.map cV)) l k j h e d c .no .no)=b0 (.nx (lw ns q (Bk a rows) b rows.length (.tup (f.map cV)) l k j h e d c o .no)):=by
  have:OS (fV 4) (lw ns q (Bk a rows) b rows.length (.tup (f.map cV)) l k j h e d c .no .no)=b0 (a7 0 rows.length,lw ns q (Bk a rows) b rows.length (.tup (f.map cV)) l k j h e d c .no .no):=by simp[lw,K,A]
  rw[HW,this,qF_s];exact F
 have N:cY.lst (ns.map .int)=WY ns:=rfl;unfold IM;rw[N,bZ,sw,aD W,aD V,aD U,aD S,aD R,aD Q,aD O,aD Z,aD Y,X];rfl
end RR
namespace KK
open PySem PySem.W
abbrev g(a i:Nat)(n:Wy)(d m:Wr):Xc:=⟨.type "function",b4,.func (fnOf n n (L2.WJ (RR.top i)) (L2.YY (RR.top i)) (L2.bS (RR.top i)) d .none .none m b4 (.ref (a-1)) .none),#[]⟩
def p(P:Tw)(a i:Nat)(n:Wy)(m:Wr)(d:nsIn (K P) Xb n=b0 (b0 (.ref a)):=by kernel_rfl)(b:(K P).lookup a=b0 (g a i n .none m):=by kernel_rfl)(c:codeIn (K P) (.ref (a-1)) n=ba:=by kernel_rfl):L2.A4 (K P) n (RR.top i) a:=L2.a4 d b c (by unfold keepIn;simp only[b])
end KK
namespace RR
open PySem L2
def zNK{l:Wb}{w:Wv}{K:Au}{mg:Wy->Option Wr}{g:Ws}(T:Txt w K mg)(e:mg "law"=b0 (.ref g)):∃f:Hx,(∀(s:Af) (v:Wr),Uc s f ⟨[v],[]⟩ [("_law_script",v)])/\∀base:Wz,K.In base->base.Ns Xb mg->N5 l.prog w K mg base CX0 9 g f ["_law_script"] (spV K [] 1 IM):=by obtain⟨k,od,kV,doc,j,m,i,ct,h,a,b,c,d⟩:=T.p_x35;cases e.symm.trans (T.fnm _ _ a);exact⟨_,λs v=>.of_eq rfl,λbase _ _=>nU T (Zc (st:=top 54) b c d)⟩
def zDM(K:Au)(H:Hp)(a:Ws)(ns:List Int)(hl:ns.length<=63)(h:WZ K H a (ns.map V.int)):spV K [] 1 IM [.ref a] H (λv _=>v=.bl ba) λ_ _ _=>False:=by
 have c:cA K (Zp (λ_=>False) [] [.ref a]) H (ns.map V.int) (ns.map cY.int):=by
  clear h hl;induction ns with
  |nil=>exact .nil
  |cons n ns f=>exact .cons (.int n) f
 have g:∀b,¬Zp (λ_=>False) [] [V.ref a] b:=λb h=>by
  rcases h with h|⟨i,h,_⟩;exact h;cases h
 refine⟨λ_=>False,[.lst (ns.map .int)],.bl ba,[],rfl,⟨rfl,(λi h=>nomatch h),λi d k e=>?_,(λi d h=>nomatch h),(λi j b h=>nomatch h),λa h=>h.elim⟩,sr ns hl,λv l _ _ r=>by cases r;rfl⟩;cases i with
 |zero=>
  cases e;refine⟨_,rfl,?_⟩;rcases h with(h|⟨o,h⟩)|h
  exact .lst h (g a) c;exact .fzl (.inl ⟨o,h⟩) c;exact .fzl (.inr h) c
 |succ i=>cases i<;>cases e
end RR
open PySem PySem.W PyProof.Rows
set_option maxRecDepth 100000 in
set_option maxHeartbeats 0 in
theorem PySem.Challenge.cw_lanepacks_k09_whole_plans_holds : PySem.Challenge.rw_lanepacks_k09_whole_plans.Holds := by
 w_on;refine holds_law KK.said λsaid=>?_
 refine holds_open (q:=KK.view) (loose:=KK.lo) (Xt:=KK.X) (XP:=XL KK.view []) (Yf:=KK.H.obs) (Ya:=KK.H.val) (YP:=KK.H.says) (N:=3994) KK.hl (Hook.of _) (Hook.keeps _) (λs e=>xl_of s (Ei.mp e).1) XL.keeps (by rfl) (by rfl) (by rfl) (λs e=>recFacts_of (Ei.mp e).2) (by rfl) (by first|assumption|decide+kernel) (by decide+kernel) ⟨rfl,rfl,rfl,rfl,rfl,by decide+kernel⟩ ?hw ?hc
 case hw=>w_witness2
 refine L2.zCV (l:=Ob) (n:=63) (k:=9) (x:= "_law_script") (CX:=L2.CX0) (sp:=λK=>L2.spV K [] 1 L2.IM) rfl (by decide) rfl ⟨rfl,by decide,by decide⟩ (λw h Y=>W.kIn_of (K:=KK.K) (as:=KK.A) (e:=KK.kA) Y) ?F (λK H a ns hl _ hS=>RR.zDM K H a ns hl hS) λ_ _ _ _ z=>z
 case F=>
  intro w mg fa h KX G hmg;have N:∀{x},Te (KK.K w.params) Xb x=some none->mg x=none:=λh=>W.mg_none_of KX G h;refine RR.zNK (K:=KK.K w.params) ?_ hmg;constructor;exact λ_ _ h=>W.mg_of KX G h;exact λ_ _ _ h=>W.mg_of KX G h;exact KK.p _ _ _ _ KK.m2;iterate 8 exact KK.p _ _ _ _ KK.m0
  iterate 7 exact KK.p _ _ _ _ KK.m1
  iterate 19 exact KK.p _ _ _ _ KK.m
  iterate 17 exact N (by kernel_rfl)
  iterate 22 kernel_rfl
  exact KK.p _ _ _ _ KK.m3
end
