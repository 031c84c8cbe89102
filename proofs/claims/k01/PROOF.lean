import PyProof.Rows.All
import KE.KFromBytes
import KE.KTab
import KE.KIsAll
import KE.KDictOf
import KE.KEqDeep
import KE.KItem
import KE.KUnpackStar
import Wide.FinOn
import Wide.Line
import KE.KSortTup
import PyProof.AttrMissSeq
import OpenK.KOwn
import Open.TreeImp
import OpenK.KMore
import PyProof.InstStoreFacts
import PySem.Challenge.RW_lanepacks_k01_blocks
set_option Elab.async false
set_option linter.all false
set_option maxRecDepth 100000
set_option maxHeartbeats 4000000
set_option bootstrap.genMatcherCode false
set_option compiler.extract_closed false
open PySem renaming Value->Ul,Addr->Um,starEach->Uo,mainGlobals->Up,wpAny->Uq,model->Ur,Str->Us,Expr->Ut,World->Uu,assignEach->Uv,Heap->Uw,Stmt->Ux,Obj->Uy,foldedSetIterable->Uz,cellsFrom->Va,swapsWith->Vb,NameKind->Vc,Scope->Vd,assignInOrder->Ve,Sem->Vf,Tok->Vh,Model->Vi
open PySem.W renaming Frag->Vg
open PySem renaming wpAny_bind->Aa,Shared->Ad,wpAny_pure->Ah,Program->As,bootBuiltins->Be,wpAny_mono->Bj,wpAny_holding->Bq,Around->Bt,sizeLine_eq->Bu,mem_of_lookup->Co,compareOp->Cr,FuncData->Cu,wpAny_newObj_type->Df,wpAny_callSpecial?_slot->Di,backTo->Dq,Builtin->Du,wpAny_Call_Name_kw->Eg,wpAny_field->Eh,wpAny_call_entry->El,recursionLimit->Ey,wpAny_seqItems->Ez,wpAny_truthy_bool->Fa,keywordEach->Fc,wpAny_standAt->Fm,binaryOp->Fn,attributeBase->Fo,wpAny_setField_rec->Fp,codeAny_call_builtin->Fw,Spec->Fx,sysModules->Fy,wpAny_passesOwn->Fz,call_meets->Gc,swapsWithSole->Gf,swappedStores->Gg,excClassObj->Gr,wpAny_pyIter_list->Gv,wpAny_loadPart_at->Gx,wpAny_newFunctionEnv_cells->Ha,wpAny_loadName_local->Hc,wpAny_call->Hl,importedModules->Hs,wpAny_execs_nil->Hu,assign->Hv,wpAny_pyIter_tuple->Hw,behindInMarks->Hz,backToKw->Ic,tupleKind_room_in1->Ie,wpAny_assign_Name->Ip,wpAny_rule->Ir,sliceBounds->Ix,Keyword->Iy,bindName->Je,wpAny_bindName->Jf,codeAny_mono->Jg,codeAny_call_function->Ji,codeAny->Jm,wpAny_updateSeq_pair->Jq,unpackItems->Jz,letOwnedTupleGo->Kb,getAttrByItsOwn->Ki,wpAny_typeOf->Kt,wpAny_binaryOp_repeat_ref->Ky,wpAny_Name->La,wpAny_sequenceKey->Lb,wpAny_comprehension_free->Le,isInstance->Lg,fenceModules?->Lm,getItem->Lq,wpAny_onRaise->Lu,wpAny_attempt->Lv,wpAny_eqBool_int->Lz,wpAny_execs_cons->Ma,noFill_tuple_add->Md,checkBuiltinCall->Me,wpAny_pyNext_list_item->Mg,DictEntry->Ml,wpAny_pyNext_list_end->Mo,concat_meets->Mq,call_meetsIn->Ms,codeAny_builtin->My,typeIs_int->Nb,ZipApart->Nc,typeOf->Nl,PyData->No,newFunctionEnv->Nr,wpAny_loadPart->Nt,callerA->Nx,OwnTail->Of,wpAny_isSubtype_exc->Og,bltViewBooted->Oj,seq_tuple_add->Oq,frameOf->Pa,callWith->Pb,getattributeRaised->Pf,ExceptHandler->Pg,BindsTo->Po,valueAt->Pp,wpAny_Call_method->Pq,wpAny_pyIter_enum->Pw,Params->Qg,codeAny_func->Qi,entryPlaceOf->Qm,wpAny_mkText->Qn,seqSlot_of->Qz,bindArgs->Rg,interactive->Rn,PassesOwn->Ro,lastMarks->Rp,wpAny_letGo->Ru,pushCells->Rw,setField->Si,call->Sx,newObjAsIs->Sy,Builtin->Tk,getAttr?->To,Within->Ts,Result->Tu,stored->Tv
open PySem.Heap renaming get?_push_of_some->Ac,lt_size->Aj,get?_push_size->Aq,size_push->Ct,SameBut->Fl,get?_update_other->Gm,get?_push_ne->Ja,get?_update_self->Jl,get?_none_of_le->Jp,ExtBut->Ke,FlyingW->Kv,get?_update_ne->Oh,get?_some_iff->Oz,size_update->Qv
open Bool renaming and_eq_true->Ae,and_eq_true_iff->Dn,false_ne_true->Dr,false_eq_true->Eu,or_eq_true->Ih,beq_eq_decide_eq->Mz,not_eq_true'->Qc,and_false->Sq,or_false->Te,false_or->Tf,true_and->Tq
open Option renaming bind_some->Af,isSome_some->Ot,getD_none->Qp,map_some->Se,map->Uk
open List renaming getElem?_eq_some_iff->Ag,mem_cons->Ak,size_toArray->Am,mem_cons_of_mem->An,getElem?_append_left->Ao,mem_cons_self->Ar,replicate->At,not_mem_nil->Aw,append_assoc->Ax,map_cons->Ay,mem_singleton->Az,range->Bb,length_cons->Bm,getElem?_set_ne->Bo,mem_append_right->Bp,mem_append_left->Bw,length_map->Bx,length_take->By,length_set->Bz,getElem?_eq_getElem->Cd,lookup_cons->Ce,length_append->Cf,getElem?_eq_none->Cg,perm_append_comm->Ci,getElem?_set_self->Cj,take_of_length_le->Ck,mem_range->Cn,mem_append->Cq,nodup_cons->Cs,getElem?_take_of_lt->Cv,append_nil->Cw,mem_map->Cz,take_append_drop->Dd,getElem?_replicate->Dg,getElem?_map->Dh,getElem?_append_right->Dk,take_append_of_le_length->Dt,replicate_succ->Dy,map_nil->Ea,lookup_cons_self->Ec,mem_of_getElem?->Ej,set_comm->Eo,drop_eq_getElem_cons->Ep,nil_append->Ff,all_eq_true->Fk,set_append_right->Fq,flatten_cons->Gd,length_eq_zero_iff->Gh,drop_length->Gi,find?_cons->Gq,cons_append->Hi,lookup->Hj,mem_filter->Ht,mem_filterMap->Hy,of_mem_zip->Ia,map_append->Ij,length_range->Iz,length_singleton->Jj,length_drop->Jn,getElem_mem->Jo,any_cons->Jr,filterMap_cons->Jy,forIn_cons->Kc,map_congr_left->Kf,idxOf_lt_length_of_mem->Km,getElem?_eq_none_iff->Kx,ext_getElem?->Lc,reverse_perm->Lk,range_succ_eq_map->Mi,length_replicate->Mp,length_nil->Mr,mem_iff_getElem?->Mv,getElem?_mapIdx->Nf,forall_mem_cons->Nj,drop_zero->Np,forIn_nil->Nq,take_take->Nu,take_succ_cons->Ny,mem_map_of_mem->Od,zip_cons_cons->Pc,zip_nil_right->Pd,getElem_idxOf->Pj,zip_nil_left->Pt,map_map->Ql,getElem_inj->Qo,isEmpty_iff->Qq,zipIdx_cons->Qs,zip_append->Rr,zipIdx_nil->Rt,mapM_cons->Sh,take_succ->Sj,drop_take->Sk,drop_drop->So,take_left->Sr,all_cons->Th,all_map->Tx,set_set->Tz
open PySem.W renaming Frag->Ai,mg_none_of->De,mg_of->Dx,nsIn->Et,kia_one->Fb,kitOne->Hg,keepIn->Hh,looks_findIn->Hn,callWith_K->Jh,kas_item->Jt,opening->Jw,hideAll_get->Ln,cellsFrom_some->Mb,fnOf->Mc,hideAll_none->Nk,SharedT->Nv,kitx_list->Nw,codeIn->Op,subIn->Pz,of_hideAll->Qh,funFrames_hide->Qy,openEnds->Rc,findIn->Rf,methodObj->Rl,hideAll->Rm,kasC_bind->Rx,kasC_modify->Ry,kas_item_eq->Sa,clsIn->Sb,looseW->Ss,absHeap->Sz,instObj->Tr,OpenLaw->Tw
open Nat renaming le_refl->Ap,ne_of_lt->Au,lt_of_lt_of_le->Av,lt_irrefl->Cb,zero_le->Dv,le_trans->Dz,le_succ->Fu,ne_of_gt->Hk,min_eq_left->Ik,le_of_succ_le->Jd,zero_add->Ks,lt_succ_of_lt->Li,lt_of_succ_lt_succ->Mj,le_of_lt->Mn,not_lt_zero->Mw,lt_of_le_of_lt->Ov,le_succ_of_le->Qa,lt_trans->Qj,add_comm->Qk,lt_of_not_le->Qr,succ_le_succ->Qu,min_le_left->Rv,add_assoc->Tn
open PySem.Value renaming ref->Ba,bool->Gj,type->Kz,int->Rj,str->Rk,isStrOf->Tb,builtin->Tl,isInt->Ud,float->Ue
open PySem.Str renaming ofString->Bf,ofString_eq_toList->Io
open PySem.F renaming slot_list_append->Bg,type_list_append->Bi,slot_dict_get->Eb,entry_dict_get->Fh,slot_tuple_iterator_next->Fi,excBase_ValueError->Hb,args_tuple_add_2->Hm,slot_list_extend->Hq,type_list_extend->Hr,entry_tuple_add->Ib,args_dict_get_2->Ig,plainAttrs_list->Ii,slot_tuple_add->Im,args_tuple_iterator_next_1->Js,entry_tuple_iterator_next->Kg,slot_zip_next->Kh,slot_int_rmul->Kk,slot_dict_getitem->Kw,args_dict_get_3->Lr,plainAttrs_dict->Ls,slot_list_index->Lw,type_list_index->Lx,type_dict_get->Mt,entry_bexc_ga->Mx,args_bexc_ga->Ng,args_list_index_2->Ob,entry_list_index->Ox,args_tuple_mul_2->Ph,args_zip_next_1->Px,slot_list_index->Py,args_int_rmul_2->Qd,entry_tuple_mul->Qe,entry_zip_next->Qt,entry_int_rmul->Ra,slot_tuple_mul->Rb,fills_int_mul->Sc
open PySem.NameKind renaming free->Bk,cell->Cc
open PySem.Builtin.SmallTypes renaming nextOf->Br,ownedTupleIsFree->Dw,ownedTupleHandOut->Hf
open Option.some renaming inj->Bv
open Array renaming toList_append->Ca,length_toList->Ge,toList_push->Gy,toList_reverse->Hd,perm_iff_toList_perm->Kq,eraseIdxIfInBounds->Ld,getD->Lj,find?_toList->Oo,toList_inj->Qx,toList->Tt
open PySem.AutoSeq1 renaming wpAny_loadPart'->Cm,idx_int->Mf
open List.Perm renaming append_left->Db,append_right->Go,trans->Kj,append->Qw,cons->Sm
open Prod renaming fst->Dj,snd->Er
open Ne renaming symm->Dm
open ForInStep renaming yield->Ds
open PyProof.Rows renaming assignInOrder_cons->Ed,callWith_type1->Ee,slot_tuple_getitem->Em,SortSt->Fv,seqObj->Ho,assignInOrder_nil->Iq,AllBare->Lo,subscriptTail_builtinR->Mh,listUpdate_at->Pe,unpackItems_tuple->Pn,pairsOf->Qb,SortKind->Ri,seqEpoch_at->Rz,expectedOf->Su,plainGoodE->Sv,plainGoodD->Sw,drecsOf->Ta,tail_any->Tc,IntsAre->Tg
open PySem.Calls renaming spliced_cons->Ef,evalArgs_plain->Ek,callWith_builtin->Fg,spliced_nil->Gw,Name_function_global->Gz,loadGlobal_global->Lp,Constant_str->Om
open PySem.PassesOwn renaming never->Ei
open PySem.SeqAt renaming shaped->Es,list_indexAt->Oy
open Int renaming emod_lt_of_pos->Ew,emod_nonneg->Il,toNat_natCast->Iu,toNat_of_nonneg->Oi
open PySem.PyData renaming keyHash->Ex,depthAll->Fe,canLay0->Gk,canLayAll0->Jb,depth->Jk,eqv->Ju,int->Ps,strOk->Ub
open Or renaming inr->Fd,inl->Gp
open PySem.Obj renaming mapSeq->Fj,data_mapFields->Ow,mapFields->Tj
open PySem.Builtin.Slice renaming slicePlaces->Fs,sliceAdjust->He,sliceApplied->Kn,slicePartIndex->Rh,sliceFields->Sg
open PyProof.Rows.KTD renaming datumAt->Ft
open PySem.Builtin.Tuple renaming tupleExact->Ga,tupleItemsOf->Ko,tupleTooMany->Kr,tupleIsExact->Sf
open PySem.Builtin.List renaming listTooLong->Gb
open Pure renaming pure->Gs
open False renaming elim->Gu
open PySem.Builtin.Range renaming rangeSize->Hx,small->Uh
open PyProof.Rows.SortSt renaming mk'->Jv
open Prod.mk renaming inj->Jx
open PyProof.Rows.IsTup renaming new->Ka
open List.cons renaming injEq->Kl
open PySem.Code renaming quiet_builtin->Ku,builtin->Ua
open List.Pairwise renaming map->Ll,nil->Pr
open PySem.Builtin.Dict renaming updateFrom->Ly,pairItems->Mk,missed->Oa
open PySem.Challenge renaming pw_lanepacks_k01_blocks->Mm,rw_lanepacks_k01_blocks->Na
open Classical renaming choose_spec->Mu
open PySem.W.Looks renaming ld->Nd
open PySem.Around renaming under_plainId->Nh
open PySem.SeqAt.EqAt renaming bool_bool->Ni
open PySem.Heap.SameBut renaming update->Nz
open PySem.EntryCells renaming newEntry->Oe
open PySem.Paired renaming length->Ol,snoc->Ug
open Sum renaming inl->Pk,inr->Pl
open Char renaming toNat->Qf
open PySem.Heap.DictOf renaming new->Rq
open PySem.Shared renaming heap->Rs
open Function renaming comp->Ti
open PySem.Heap.UpToSlots renaming of_keeps->Tp
open PySem.MeetsSeq.EqGives renaming int->Uc
open PySem.IsRange renaming new->Uf
open PySem.Heap.IsSliceOf renaming new->Ui
open PySem.W.WShape renaming has->Uj
noncomputable section
namespace KK
open PySem PySem.W
noncomputable def G7:List Uy->Nat->BT->Option BT
 |[],_,t=>some t
 |o::l,n,t=>match((t.ins n o).get n).isSome with
  |true=>G7 l (n+1) (t.ins n o)
  |false=>none
theorem LJ{life:Life}:∀{l:List Uy} {n:Nat} {t t':BT},G7 l n t=some t'->Sz t' (n+l.length) life=⟨(Sz t n life).objs++l.toArray,life⟩
 |[],n,t,t',h=>by cases h;simp[Sz]
 | o :: l,n,t,t',h => by
  unfold G7 at h;split at h
  ·rename_i g
   have ih:=LJ (life:=life) h;rw[show n+(o::l).length=n+1+l.length by simp;lia,ih,absHeap_ins g];simp[Heap.push]
  ·cases h
noncomputable def toT(s:Ad):Option Nv:=(G7 s.heap.objs.toList 0 .nil).map λt=>⟨t,s.heap.objs.size,s.heap.life,s.gens,s.drawn,s.toks,s.os⟩
theorem FA{s:Ad}{u:Nv}(h:toT s=some u):u.abs=s:=by
 unfold toT at h;cases e:G7 s.heap.objs.toList 0 .nil with
 |none=>rw[e] at h;cases h
 |some t=>
  rw[e] at h;cases h;have:=LJ (life:=s.heap.life) e;simp only[Ks,Ge] at this;obtain⟨⟨objs,life⟩,gens,drawn,toks,os⟩:=s;show(⟨Sz t objs.size life,gens,drawn,toks,os⟩:Ad)=_;rw[this];simp[Sz,BT.list]
noncomputable def VR(tb:String->Option Du)(p:As)(w:Uu)(n₀:Nat)(ann:Option Ul):Nat->Nv->Thread->Option Nv
 |0,_,_=>none
 | n + 1,s,t => match through t with
  |true=>some s
  | false => match stepOk n₀ ann t with
   |false=>none
   |true=>match stepT (denote tb) p w s t with
    |some (s',t')=>VR tb p w n₀ ann n s' t'
    |none=>none
theorem OR{tb:String->Option Du}{p:As}{w:Uu}{n₀:Nat}{ann:Option Ul}:∀{n:Nat} {s s':Nv} {t:Thread},VR tb p w n₀ ann n s t=some s'->topRun tb p w n₀ ann n s.abs t=some s'.abs
 |0,_,_,_,h=>by cases h
 | n + 1,s,s',t,h => by
  unfold VR at h;unfold topRun;cases ht:through t with
  |true=>rw[ht] at h;cases h;rfl
  |false=>
   rw[ht] at h;cases hk:stepOk n₀ ann t with
   |false=>rw[hk] at h;cases h
   |true=>
    rw[hk] at h;cases hs:stepT (denote tb) p w s t with
    |none=>rw[hs] at h;cases h
    |some r=>obtain⟨s₂,t₂⟩:=r;rw[hs] at h;rw[stepT_spec hs];exact OR h
noncomputable def FW(tb:String->Option Du)(p:As)(w:Uu):Nat->Nv->Thread->Option Nv
 |0,_,_=>none
 | n + 1,s,t => match t.atExitBegin with
  |some []=>some s
  |some (_::_)=>none
  |none=>match stepT (denote tb) p w s t with
   |some (s',t')=>FW tb p w n s' t'
   |none=>none
theorem D4{tb:String->Option Du}{p:As}{w:Uu}:∀{n:Nat} {s s':Nv} {t:Thread},FW tb p w n s t=some s'->importEnds tb p w n s.abs t=some s'.abs
 |0,_,_,_,h=>by cases h
 | n + 1,s,s',t,h => by
  unfold FW at h;unfold importEnds;cases he:t.atExitBegin with
  |some x=>
   rw[he] at h;cases x with
   |nil=>cases h;rfl
   |cons=>cases h
  |none=>
   rw[he] at h;cases hs:stepT (denote tb) p w s t with
   |none=>rw[hs] at h;cases h
   |some r=>obtain⟨s₂,t₂⟩:=r;rw[hs] at h;dsimp only;rw[stepT_spec hs];exact D4 h
noncomputable def NP(tb:String->Option Du)(p:As)(w:Uu)(N:Nat):Option Ad:=
 (toT (start (Jw p)).1).bind λu=>(FW tb (Jw p) w N u (start (Jw p)).2).bind λu1=>(Lm p u1.abs).bind λs₀=>
 match s₀.heap.isNs Up&&s₀.gens.size==0 with
 | true => (toT s₀).bind λv => (VR tb p w s₀.heap.objs.size (s₀.heap.nsMap Up "__annotations__") N v (topStub p)).bind λv1 =>
  match staticsOk (Hs p.main.body) s₀.heap v1.abs.heap&&namesBound p v1.abs.heap&&gensDone v1.abs&&laidKept s₀.heap v1.abs.heap with
   |true=>some v1.abs
   |false=>none
 |false=>none
theorem HF{tb:String->Option Du}{p:As}{w:Uu}{N:Nat}{s:Ad}(h:NP tb p w N=some s):Rc tb p w N=some s:=by
 unfold NP at h;unfold Rc fencedOpening;cases e1:toT (start (Jw p)).1 with
 |none=>rw[e1] at h;cases h
 |some u=>
  rw[e1,Af] at h;cases e2:FW tb (Jw p) w N u (start (Jw p)).2 with
  |none=>rw[e2] at h;cases h
  |some u1=>
   rw[e2,Af] at h;have e3:=D4 e2;rw[FA e1] at e3;rw[e3,Af];cases e4:Lm p u1.abs with
   |none=>rw[e4] at h;cases h
   |some s₀=>
    rw[e4,Af] at h;rw[Af];unfold topFrom;cases e5:(s₀.heap.isNs Up&&s₀.gens.size==0) with
    |false=>rw[e5] at h;cases h
    |true=>
     rw[e5] at h;dsimp only at h⊢;cases e6:toT s₀ with
     |none=>rw[e6] at h;cases h
     |some v=>
      rw[e6,Af] at h;cases e7:VR tb p w s₀.heap.objs.size (s₀.heap.nsMap Up "__annotations__") N v (topStub p) with
      |none=>rw[e7] at h;cases h
      |some v1=>
       rw[e7,Af] at h;have e8:=OR e7;rw[FA e6] at e8;rw[e8,Af];exact h
theorem HV{α:Type}{tb:String->Option Du}{p:As}{w:Uu}{N:Nat}{f:Ad->α}{v:α}(h:(NP tb p w N).map f=some v):(Rc tb p w N).map f=some v:=by
 cases e:NP tb p w N with
 |none=>rw[e] at h;cases h
 |some s=>
  rw[e] at h;rw[HF e];exact h
noncomputable def chkU(p:As)(s₀ s:Ad):Bool:=staticsOk (Hs p.main.body) s₀.heap s.heap&&namesBound p s.heap&&gensDone s&&laidKept s₀.heap s.heap
noncomputable def HG(tb:String->Option Du)(p:As)(w:Uu)(N:Nat):Option (Ad×Ad):=
 (toT (start (Jw p)).1).bind λu=>(FW tb (Jw p) w N u (start (Jw p)).2).bind λu1=>(Lm p u1.abs).bind λs₀=>
 match s₀.heap.isNs Up&&s₀.gens.size==0 with
 |true=>(toT s₀).bind λv=>(VR tb p w s₀.heap.objs.size (s₀.heap.nsMap Up "__annotations__") N v (topStub p)).bind λv1=>some (s₀,v1.abs)
 |false=>none
theorem fF{tb:String->Option Du}{p:As}{w:Uu}{N:Nat}{q:Ad×Ad}(h:HG tb p w N=some q)(hc:chkU p q.1 q.2=true):NP tb p w N=some q.2:=by
 unfold HG at h;unfold NP;cases e1:toT (start (Jw p)).1 with
 |none=>rw[e1] at h;cases h
 |some u=>
  rw[e1,Af] at h;rw[Af];cases e2:FW tb (Jw p) w N u (start (Jw p)).2 with
  |none=>rw[e2] at h;cases h
  |some u1=>
   rw[e2,Af] at h;rw[Af];cases e4:Lm p u1.abs with
   |none=>rw[e4] at h;cases h
   |some s₀=>
    rw[e4,Af] at h;rw[Af];cases e5:(s₀.heap.isNs Up&&s₀.gens.size==0) with
    |false=>rw[e5] at h;cases h
    |true=>
     rw[e5] at h;dsimp only at h⊢;cases e6:toT s₀ with
     |none=>rw[e6] at h;cases h
     |some v=>
      rw[e6,Af] at h;rw[Af];cases e7:VR tb p w s₀.heap.objs.size (s₀.heap.nsMap Up "__annotations__") N v (topStub p) with
      |none=>rw[e7] at h;cases h
      |some v1=>
       rw[e7,Af] at h;cases h;rw[Af];unfold chkU at hc;rw[hc]
theorem mapU{α:Type}{tb:String->Option Du}{p:As}{w:Uu}{N:Nat}{f:Ad->α}{v:α}(h:(HG tb p w N).map (λq=>f q.2)=some v)(hc:(HG tb p w N).map (λq=>chkU p q.1 q.2)=some true):(Rc tb p w N).map f=some v:=by
 cases e:HG tb p w N with
 |none=>rw[e] at h;cases h
 |some q=>
  rw[e] at h hc;rw[HF (fF e (Bv hc))];exact h
end KK
namespace RR
open PySem
def top(i:Nat):Ux:=PySem.Challenge.pw_lanepacks_k01_blocks.main.body.getD i (.Pass ⟨0,0,0,0⟩)
def mem(i j:Nat):Ux:=match top i with
 |.ClassDef _ _ _ b _ _ _ _ _ _ _=>b.getD j (.Pass ⟨0,0,0,0⟩)
 |s=>s
end RR
namespace KK
open PySem PySem.W PySem.Calls PyProof.Rows
def dA(s:Ux):Arguments:=match s with
 |.FunctionDef _ a _ _ _ _ _ _ _ _=>a
 |_=>⟨[],[],none,[],[],none,[]⟩
def dB(s:Ux):List Ux:=match s with
 |.FunctionDef _ _ b _ _ _ _ _ _ _=>b
 |_=>[]
def dS(s:Ux):Vd:=match s with
 |.FunctionDef _ _ _ _ _ _ c _ _ _=>c
 |_=>{kind:=.function,names:=[],isGenerator:=false,isCoroutine:=false}
abbrev s(x:Us)(t:Nat):Ul:=.str x t
abbrev e(P:Qg)(x:Us)(t:Nat)(v:Ul):Ml:=⟨PyData.keyHash P x,s x t,v⟩
abbrev f(a i:Nat)(n:Us)(d m:Ul):Nat×Uy:=(a,⟨.type "function",none,.func (fnOf n n (dA (RR.top i)) (dB (RR.top i)) (dS (RR.top i)) d .none .none m none (.ref (a - 1)) .none),#[]⟩)
abbrev fm(a i j:Nat)(q:Us)(m:Ul):Nat×Uy:=(a,⟨.type "function",none,.func (fnOf "__init__" q (dA (RR.mem i j)) (dB (RR.mem i j)) (dS (RR.mem i j)) .none .none .none m none (.ref (a - 1)) .none),#[]⟩)
abbrev fk(a i:Nat)(n:Us)(d k m:Ul):Nat×Uy:=(a,⟨.type "function",none,.func (fnOf n n (dA (RR.top i)) (dB (RR.top i)) (dS (RR.top i)) d k .none m none (.ref (a - 1)) .none),#[]⟩)
abbrev co(a:Nat)(n:Us)(t:Nat)(l k:Int)(u:Nat)(x y z v:Ul):Nat×Uy:=(a,⟨.type "code",none,.fields #[s n t,s n (t+1),s "/claim/cut.py" (t+2),.int l 0,.int k 0,.int 0 0,.int 0 0,.int 3 0,x,.bool true,.int 181 0,y,.none,z,v,.ref (a - 1),.int u 0,.int l 0,s "/claim/cut.py" (u+1)],#[]⟩)
abbrev c(a:Nat)(n:Us)(t:Nat)(l k:Int)(u:Nat):Nat×Uy:=co a n t l k u (.ref (a - 5)) (.ref (a - 4)) (.ref (a - 3)) (.ref (a - 2))
abbrev b(a:Nat)(n:Us)(t:Nat)(l k:Int)(u:Nat):Nat×Uy:=co a n t l k u (.ref (a - 3)) (.ref (a - 2)) .none .none
abbrev m:Ul:=s "law_lanepacks_k01_blocks" 598
abbrev kc(a q:Nat)(n:Us)(b t u:Nat):Nat×Uy:=(a,⟨.type "type",none,.cls {name:=n,bases:=[.ref q],mro:=[.ref a,.ref q,.type "ValueError",.type "Exception",.type "BaseException",.type "object"],ns:=a - 1,qualname:=n},#[some (.ref b),none,some (s n t),some (s n u),some (.builtin "ValueError.__new__"),some (.bool true)]⟩)
abbrev kn(P:Qg)(a m w l r:Nat):Nat×Uy:=(a,⟨.type "dict",none,.dict #[e P "__module__" m (s "lanepacks.errors" w),e P "__firstlineno__" (m+4) (.int l (m+3)),e P "__static_attributes__" (m+5) (.ref r),e P "__doc__" (m+6) .none] 2,#[]⟩)
noncomputable def K(P:Qg):Vg:=[(2,⟨.none,none,.dict #[] 0,#[]⟩),(3,⟨.type "dict",none,.dict #[e P "__name__" 165 (s "law_lanepacks_k01_blocks" 598),e P "__doc__" 166 (.none),e P "__package__" 167 (.none),e P "__loader__" 168 (.builtin "__main__.__loader__#opaque"),e P "__spec__" 169 (.none),e P "__annotations__" 170 (.ref 6),e P "__builtins__" 171 (.ref 4),e P "__file__" 173 (s "/claim/cut.py" 172),e P "__cached__" 174 (.none),e P "PackError" 206 (.ref 24),e P "NoBlock" 222 (.ref 37),e P "NoCells" 238 (.ref 49),e P "NoRow" 263 (.ref 68),e P "NoLanes" 279 (.ref 80),e P "NoPlan" 295 (.ref 92),e P "NoProgram" 311 (.ref 104),e P "NoTree" 327 (.ref 116),e P "NoLoop" 343 (.ref 128),e P "NoText" 359 (.ref 140),e P "NoName" 384 (.ref 159),e P "TooMany" 400 (.ref 171),e P "TooLong" 416 (.ref 183),e P "NotValid" 441 (.ref 202),e P "Nothing" 457 (.ref 214),e P "MOST_WORD" 461 (.int 999 460),e P "DEEDS" 469 (.ref 217),e P "is_whole" 478 (.ref 224),e P "MOST_SURE" 482 (.int 64 481),e P "MOST_ROWS" 484 (.int 40 483),e P "MOST_PLACE" 486 (.int 63 485),e P "DEED_PARTS" 489 (.ref 225),e P "OTHER_PARTS" 515 (.ref 226),e P "WRITERS" 518 (.ref 233),e P "parts_of" 525 (.ref 240),e P "makes_word" 532 (.ref 247),e P "names_of" 538 (.ref 252),e P "may_name" 546 (.ref 259),e P "fits" 555 (.ref 266),e P "is_row" 561 (.ref 271),e P "is_block" 572 (.ref 278),e P "row_at" 581 (.ref 285),e P "makes" 589 (.ref 292),e P "named" 597 (.ref 299),e P "_law_cell_at" 609 (.ref 306),e P "_law_mixed" 619 (.ref 313),e P "_law_draw" 628 (.ref 320),e P "_law_pick" 637 (.ref 327),e P "_law_place" 648 (.ref 334),e P "_law_row" 654 (.ref 339),e P "_law_rows" 668 (.ref 346),e P "_law_next" 685 (.ref 353),e P "_law_block" 691 (.ref 358),e P "_law_names" 698 (.ref 365),e P "_law_may" 704 (.ref 370),e P "_law_must" 710 (.ref 375),e P "_law_which" 718 (.ref 382),e P "_law_none" 727 (.ref 389),e P "_law_mixed_order" 733 (.ref 394),e P "_law_renamed" 739 (.ref 399),e P "_law_ask" 749 (.ref 406),e P "_law_named" 756 (.ref 413),e P "law" 762 (.ref 418)] 62,#[]⟩),(23,⟨.type "dict",none,.dict #[e P "__module__" 196 (s "lanepacks.errors" 187),e P "__firstlineno__" 200 (.int 2 199),e P "__static_attributes__" 201 (.ref 22),e P "__weakref__" 203 (.ref 25),e P "__doc__" 204 (.none)] 3,#[]⟩),(24,⟨.type "type",none,.cls {name:= "PackError",bases:=[.type "ValueError"],mro:=[.ref 24,.type "ValueError",.type "Exception",.type "BaseException",.type "object"],ns:=23,qualname:= "PackError",subclasses:=[.ref 37,.ref 49,.ref 68,.ref 80,.ref 92,.ref 104,.ref 116,.ref 128,.ref 140,.ref 159,.ref 171,.ref 183,.ref 202,.ref 214]},#[some (.ref 15),none,some (s "PackError" 189),some (s "PackError" 197),some (.builtin "ValueError.__new__"),some (.bool true)]⟩),kn P 36 214 187 4 35,kc 37 24 "NoBlock" 28 207 215,kn P 48 230 187 6 47,kc 49 24 "NoCells" 40 223 231,fm 65 4 0 "NoRow.__init__" (s "lanepacks.errors" 187),(64,⟨.type "code",none,.fields #[s "__init__" 251,s "NoRow.__init__" 252,s "/claim/cut.py" 253,.int 10 0,.int 2 0,.int 0 0,.int 0 0,.int 3 0,.ref 59,.bool true,.int 181 0,.ref 60,.none,.ref 61,.ref 62,.ref 63,.int 256 0,.int 10 0,s "/claim/cut.py" 257],#[]⟩),(67,⟨.type "dict",none,.dict #[e P "__module__" 246 (s "lanepacks.errors" 187),e P "__firstlineno__" 250 (.int 8 249),e P "__init__" 258 (.ref 65),e P "__static_attributes__" 260 (.ref 66),e P "__doc__" 261 (.none)] 2,#[]⟩),kc 68 24 "NoRow" 52 239 247,kn P 79 271 187 13 78,kc 80 24 "NoLanes" 71 264 272,kn P 91 287 187 15 90,kc 92 24 "NoPlan" 83 280 288,kn P 103 303 187 17 102,kc 104 24 "NoProgram" 95 296 304,kn P 115 319 187 19 114,kc 116 24 "NoTree" 107 312 320,kn P 127 335 187 21 126,kc 128 24 "NoLoop" 119 328 336,kn P 139 351 187 23 138,kc 140 24 "NoText" 131 344 352,(158,⟨.type "dict",none,.dict #[e P "__module__" 367 (s "lanepacks.errors" 187),e P "__firstlineno__" 371 (.int 25 370),e P "__init__" 379 (.ref 156),e P "__static_attributes__" 381 (.ref 157),e P "__doc__" 382 (.none)] 2,#[]⟩),kc 159 24 "NoName" 143 360 368,kn P 170 392 187 30 169,kc 171 24 "TooMany" 162 385 393,kn P 182 408 187 32 181,kc 183 24 "TooLong" 174 401 409,(201,⟨.type "dict",none,.dict #[e P "__module__" 424 (s "lanepacks.errors" 187),e P "__firstlineno__" 428 (.int 34 427),e P "__init__" 436 (.ref 199),e P "__static_attributes__" 438 (.ref 200),e P "__doc__" 439 (.none)] 2,#[]⟩),kc 202 24 "NotValid" 186 417 425,kn P 213 449 187 39 212,kc 214 24 "Nothing" 205 442 450,(217,⟨.type "tuple",none,.seq #[s "plus" 462,s "minus" 463,s "times" 464,s "least" 465,s "most" 466,s "less" 467,s "over" 468] 0,#[]⟩),f 224 19 "is_whole" (.none) (s "lanepacks.words" 458),c 223 "is_whole" 470 44 3 476,(225,⟨.type "tuple",none,.seq #[s "row" 487,s "row" 488] 0,#[]⟩),(226,⟨.type "dict",none,.dict #[e P "number" 490 (.ref 227),e P "pick" 492 (.ref 228),e P "load" 496 (.ref 229),e P "take" 498 (.ref 230),e P "store" 502 (.ref 231),e P "put" 505 (.ref 232)] 6,#[]⟩),(227,⟨.type "tuple",none,.seq #[s "word" 491] 0,#[]⟩),(228,⟨.type "tuple",none,.seq #[s "row" 493,s "row" 494,s "row" 495] 0,#[]⟩),(229,⟨.type "tuple",none,.seq #[s "place" 497] 0,#[]⟩),(230,⟨.type "tuple",none,.seq #[s "place" 499,s "row" 500,s "row" 501] 0,#[]⟩),(231,⟨.type "tuple",none,.seq #[s "place" 503,s "row" 504] 0,#[]⟩),(232,⟨.type "tuple",none,.seq #[s "place" 506,s "row" 507,s "row" 508] 0,#[]⟩),(233,⟨.type "tuple",none,.seq #[s "store" 516,s "put" 517] 0,#[]⟩),f 240 27 "parts_of" (.none) (s "lanepacks.blocks" 479),c 239 "parts_of" 519 55 1 523,f 247 28 "makes_word" (.none) (s "lanepacks.blocks" 479),c 246 "makes_word" 526 59 1 530,f 252 29 "names_of" (.none) (s "lanepacks.blocks" 479),b 251 "names_of" 533 61 1 536,f 259 30 "may_name" (.none) (s "lanepacks.blocks" 479),c 258 "may_name" 539 64 2 544,f 266 31 "fits" (.none) (s "lanepacks.blocks" 479),c 265 "fits" 547 66 3 553,f 271 32 "is_row" (.none) (s "lanepacks.blocks" 479),b 270 "is_row" 556 72 2 559,f 278 33 "is_block" (.none) (s "lanepacks.blocks" 479),c 277 "is_block" 562 80 1 570,f 285 34 "row_at" (.none) (s "lanepacks.blocks" 479),c 284 "row_at" 573 94 2 579,f 292 35 "makes" (.none) (s "lanepacks.blocks" 479),c 291 "makes" 582 101 2 587,f 299 36 "named" (.none) (s "lanepacks.blocks" 479),c 298 "named" 590 103 2 595,f 306 38 "_law_cell_at" (.none) m,c 305 "_law_cell_at" 600 106 2 607,f 313 39 "_law_mixed" (.none) m,c 312 "_law_mixed" 610 115 3 617,f 320 40 "_law_draw" (.none) m,c 319 "_law_draw" 620 118 3 626,f 327 41 "_law_pick" (.none) m,c 326 "_law_pick" 629 121 3 635,f 334 42 "_law_place" (.none) m,c 333 "_law_place" 638 123 5 646,f 339 43 "_law_row" (.none) m,b 338 "_law_row" 649 126 5 652,f 346 44 "_law_rows" (.none) m,c 345 "_law_rows" 655 144 4 666,f 353 45 "_law_next" (.none) m,c 352 "_law_next" 669 156 6 683,f 358 46 "_law_block" (.none) m,b 357 "_law_block" 686 167 3 689,f 365 47 "_law_names" (.none) m,c 364 "_law_names" 692 176 1 696,f 370 48 "_law_may" (.none) m,b 369 "_law_may" 699 180 2 702,f 375 49 "_law_must" (.none) m,b 374 "_law_must" 705 185 1 708,f 382 50 "_law_which" (.none) m,c 381 "_law_which" 711 197 1 716,f 389 51 "_law_none" (.none) m,c 388 "_law_none" 719 205 2 725,f 394 52 "_law_mixed_order" (.none) m,b 393 "_law_mixed_order" 728 212 3 731,f 399 53 "_law_renamed" (.none) m,b 398 "_law_renamed" 734 219 2 737,f 406 54 "_law_ask" (.none) m,c 405 "_law_ask" 740 224 3 747,f 413 55 "_law_named" (.none) m,c 412 "_law_named" 750 231 1 754,f 418 56 "law" (.none) m,b 417 "law" 757 235 1 760]
noncomputable def A:List Nat:=[2,3,23,24,36,37,48,49,65,64,67,68,79,80,91,92,103,104,115,116,127,128,139,140,158,159,170,171,182,183,201,202,213,214,217,224,223,225,226,227,228,229,230,231,232,233,240,239,247,246,252,251,259,258,266,265,271,270,278,277,285,284,292,291,299,298,306,305,313,312,320,319,327,326,334,333,339,338,346,345,353,352,358,357,365,364,370,369,375,374,382,381,389,388,394,393,399,398,406,405,413,412,418,417]
noncomputable def view:As:={Mm with main:={PySem.Challenge.pw_lanepacks_k01_blocks.main with body:=[1,2,3,4,5,6,7,8,9,10,11,12,13,14,15,17,18,19,21,22,23,24,25,26,27,28,29,30,31,32,33,34,35,36,38,39,40,41,42,43,44,45,46,47,48,49,50,51,52,53,54,55,56].map RR.top}}
abbrev lo:List Us:=["OTHER_PARTS"]
theorem kA(P:Qg):A=(K P).map (·.1):=by kernel_rfl
noncomputable def X(s:Ad):Bool:=xlAt view [] s&&recOk (RowW.records (OpenRow.toRowW PySem.Challenge.rw_lanepacks_k01_blocks.row)) s
noncomputable abbrev H:Hook:=kHook K A kA
abbrev pr:As:=PySem.Challenge.rw_lanepacks_k01_blocks.row.prog
abbrev go(w:Uu)(b:Bool):Option Ad:=NP treeTable pr (w.withFollow "special-get-raises" b) 8904
noncomputable abbrev fA(s:Ad):=seen ((recsOf view).map (·.name)) (ownsOf view) [] {s with gens:= #[]}
noncomputable abbrev fB(s:Ad):=(s.heap.bltView,tabsOk view s)
noncomputable abbrev fC(s:Ad):Bool:=s.heap.keysOk (Ss view lo) ((recsOf view).map (·.name)) ((litsOf view).map (·.1)) ((clssOf view (Ss view lo)).map (·.name))&&s.heap.accountedOkI (Hs pr.main.body)&&s.heap.isNs Up&&s.heap.isNs builtinsNs&&tablesOk view s.heap&&X s&&(if true then s.gens.size==0 else !leftWithCleanup s.gens)
noncomputable abbrev fD(s:Ad):=(pinSeenD view (Ta view) s,plainSeenE view (Ss view lo) s,plainSeenD view lo s,wideSeen view s,clsSeenW view lo s,H.obs s)
set_option maxRecDepth 100000 in
set_option maxHeartbeats 0 in
theorem rAf(w:Uu):(go w false).map fA=some (Su view):=by kernel_rfl
set_option maxRecDepth 100000 in
set_option maxHeartbeats 0 in
theorem rBf(w:Uu):(go w false).map fB=some ((Oj,true)):=by kernel_rfl
set_option maxRecDepth 100000 in
set_option maxHeartbeats 0 in
theorem rCf(w:Uu):(go w false).map fC=some (true):=by kernel_rfl
set_option maxRecDepth 100000 in
set_option maxHeartbeats 0 in
theorem rDf(w:Uu):(go w false).map fD=some ((pinGoodD (Ta view),Sv view (Ss view lo),Sw view lo,wideGood view,clsGoodW view lo,H.val (w.withFollow "special-get-raises" false))):=by kernel_rfl
set_option maxRecDepth 100000 in
set_option maxHeartbeats 0 in
theorem rAt(w:Uu):(go w true).map fA=some (Su view):=by kernel_rfl
set_option maxRecDepth 100000 in
set_option maxHeartbeats 0 in
theorem rBt(w:Uu):(go w true).map fB=some ((Oj,true)):=by kernel_rfl
set_option maxRecDepth 100000 in
set_option maxHeartbeats 0 in
theorem rCt(w:Uu):(go w true).map fC=some (true):=by kernel_rfl
set_option maxRecDepth 100000 in
set_option maxHeartbeats 0 in
theorem rDt(w:Uu):(go w true).map fD=some ((pinGoodD (Ta view),Sv view (Ss view lo),Sw view lo,wideGood view,clsGoodW view lo,H.val (w.withFollow "special-get-raises" true))):=by kernel_rfl
theorem jn{o:Option Ad}{v:H.α}(ha:o.map fA=some (Su view))(hb:o.map fB=some (Oj,true))(hc:o.map fC=some true)(hd:o.map fD=some (pinGoodD (Ta view),Sv view (Ss view lo),Sw view lo,wideGood view,clsGoodW view lo,v)):o.map (λs=>(openSeen view lo (Hs pr.main.body) X true s,H.obs s))=some (openGood view lo,v):=by
 cases o with
 |none=>cases ha
 |some s=>
  have ea:fA s=_:=Bv ha;have eb:fB s=_:=Bv hb;have ec:fC s=_:=Bv hc;have ed:fD s=_:=Bv hd;obtain⟨b1,b2⟩:=Jx eb;obtain⟨d1,ed⟩:=Jx ed;obtain⟨d2,ed⟩:=Jx ed;obtain⟨d3,ed⟩:=Jx ed;obtain⟨d4,ed⟩:=Jx ed;obtain⟨d5,d6⟩:=Jx ed;show some ((fA s,s.heap.bltView,fC s,tabsOk view s,pinSeenD view (Ta view) s,plainSeenE view (Ss view lo) s,plainSeenD view lo s,wideSeen view s,clsSeenW view lo s),H.obs s)=_;rw[ea,b1,ec,b2,d1,d2,d3,d4,d5,d6];rfl
theorem hl:LeftO pr view lo X H.obs H.val 8904:=λw=>byRow2 "special-get-raises" (P:=λw=>(Rc treeTable pr w 8904).map (λs=>(openSeen view lo (Hs pr.main.body) X true s,H.obs s))=some (openGood view lo,H.val w)) (λw=>jn (HV (rAf w)) (HV (rBf w)) (HV (rCf w)) (HV (rDf w))) (λw=>jn (HV (rAt w)) (HV (rBt w)) (HV (rCt w)) (HV (rDt w))) w
set_option maxRecDepth 100000 in
set_option maxHeartbeats 0 in
theorem said:PySem.Challenge.rw_lanepacks_k01_blocks.wellSaid=true:=by kernel_rfl
end KK
namespace L2
open PySem PySem.Spec PyProof.Rows
abbrev aG:=Sum Int Us
noncomputable def L5:aG->Ul->Bool
 |.inl k,v=>Ud k v
 |.inr x,v=>Tb x v
def keyH(w:Uu):aG->Int
 |.inl k=>hashInt k
 |.inr x=>hashStr w x
theorem ZU:∀{k:aG} {v:Ul},L5 k v=true->(∃i t,k=Pk i/\v=Rj i t)∨(∃x t,k=Pl x/\v=Rk x t)
 |.inl i,v,h=>by obtain⟨t,e⟩:=Value.isInt_shape (k:=i) (v:=v) h;exact .inl ⟨i,t,rfl,e⟩
 |.inr x,v,h=>by obtain⟨t,e⟩:=Value.isStrOf_shape (x:=x) (v:=v) h;exact .inr ⟨x,t,rfl,e⟩
theorem CJ(i:Int)(t:Vh):L5 (.inl i) (.int i t)=true:=by simp[L5,Ud]
theorem CK(x:Us)(t:Vh):L5 (.inr x) (.str x t)=true:=by simp[L5,Tb]
theorem nJ(a b:Int):decide ((Pk a:aG)=Pk b)=(a==b):=by
 by_cases e:a=b
 ·subst e;simp
 ·have h : ¬ (Pk a : aG) = Pk b := λq => e (Sum.inl.inj q)
  rw[decide_eq_false h];exact(beq_eq_false_iff_ne.mpr e).symm
theorem kC(a b:Us):decide ((Pl a:aG)=Pl b)=decide (a=b):=by
 by_cases e:a=b
 ·subst e;simp
 ·have h : ¬ (Pl a : aG) = Pl b := λq => e (Sum.inr.inj q)
  rw[decide_eq_false h,decide_eq_false e]
theorem kH(a:Int)(b:Us):decide ((Pk a:aG)=Pl b)=false:=decide_eq_false (λq=>nomatch q)
theorem iX(a:Us)(b:Int):decide ((Pl a:aG)=Pk b)=false:=decide_eq_false (λq=>nomatch q)
noncomputable def aQ(prog:As)(w:Uu):PySem.KeyKind prog w aG where
 is:=L5
 hash:=keyH w
 inj:=λv a b ha hb=>by
  rcases ZU ha with⟨i,t,rfl,rfl⟩|⟨x,t,rfl,rfl⟩
  ·rcases ZU hb with⟨j,u,rfl,e⟩|⟨y,u,rfl,e⟩
   ·injection e with e1 _;rw[e1]
   ·exact nomatch e
  ·rcases ZU hb with⟨j,u,rfl,e⟩|⟨y,u,rfl,e⟩
   ·exact nomatch e
   ·injection e with e1 _;rw[e1]
 byValue:=λk v h=>by
  rcases ZU h with⟨i,t,rfl,rfl⟩|⟨x,t,rfl,rfl⟩<;>rfl
 pyHash:=λhv h=>by
  rcases ZU hv with⟨i,t,rfl,rfl⟩|⟨x,t,rfl,rfl⟩
  ·exact wpAny_pyHash_int h
  ·exact wpAny_pyHash_str h
 eqBool:=λhu hv h=>by
  rcases ZU hu with⟨i,t,rfl,rfl⟩|⟨x,t,rfl,rfl⟩
  ·rcases ZU hv with⟨j,u,rfl,rfl⟩|⟨y,u,rfl,rfl⟩
   ·rw[nJ] at h;exact Lz h
   ·rw[kH] at h;exact SeqAt.EqAt.int_str i t y u _ _ _ _ h
  ·rcases ZU hv with⟨j,u,rfl,rfl⟩|⟨y,u,rfl,rfl⟩
   ·rw[iX] at h;exact SeqAt.EqAt.str_int x t j u _ _ _ _ h
   ·rw[kC] at h;exact wpAny_eqBool_str h
 «strs» :=λk x t v h=>by
  rcases ZU h with⟨i,u,rfl,e⟩|⟨y,u,rfl,e⟩
  ·exact nomatch e
  ·injection e with e1 _
   subst e1;cases v<;>rfl
theorem HY(prog:As)(w:Uu)(i:Int)(t:Vh):(aQ prog w).is (.inl i) (.int i t)=true:=CJ i t
theorem HZ(prog:As)(w:Uu)(x:Us)(t:Vh):(aQ prog w).is (.inr x) (.str x t)=true:=CK x t
inductive V where
 |non|bl (b:Bool)|int (i:Int)|str (x:Us)|byt (b:Array UInt8)|flt (b:UInt64)|ref (a:Um)|ty (n:String)
 deriving DecidableEq
def bS:V->Ul->Prop
 |.non,u=>u=Value.none
 |.bl b,u=>u=Gj b
 |.int i,u=>∃t,u=Rj i t
 |.str x,u=>∃t,u=Rk x t
 |.byt b,u=>∃t,u=Value.bytes b t
 |.flt b,u=>∃t,u=Ue b t
 |.ref a,u=>u=Ba a
 |.ty n,u=>u=Kz n
abbrev bE:List V->List Ul->Prop:=Paired bS
theorem bE.length{xs:List V}{us:List Ul}(r:bE xs us):xs.length=us.length:=Ol r
theorem bE.get:∀{xs:List V} {us:List Ul} {i:Nat} {x:V},bE xs us->xs[i]?=some x->∃u,us[i]?=some u/\bS x u
 |_,_,_,_,.nil,e=>by simp at e
 |_,_,0,_,.cons r _,e=>by simp at e;subst e;exact⟨_,rfl,r⟩
 |_,_,i+1,x,.cons _ t,e=>by obtain⟨u,h1,h2⟩:=bE.get (i:=i) (x:=x) t (by simpa using e);exact⟨u,by simpa using h1,h2⟩
theorem bE.append:∀{xs ys:List V} {us ws:List Ul},bE xs us->bE ys ws->bE (xs++ys) (us++ws)
 |_,_,_,_,.nil,s=>s
 |_,_,_,_,.cons r t,s=>.cons r (bE.append t s)
theorem bE.take:∀{xs:List V} {us:List Ul} (n:Nat),bE xs us->bE (xs.take n) (us.take n)
 |_,_,0,_=>.nil
 |_,_,_+1,.nil=>.nil
 |_,_,n+1,.cons r t=>.cons r (bE.take n t)
theorem bE.drop:∀{xs:List V} {us:List Ul} (n:Nat),bE xs us->bE (xs.drop n) (us.drop n)
 |_,_,0,r=>r
 |_,_,_+1,.nil=>.nil
 |_,_,n+1,.cons _ t=>bE.drop n t
noncomputable def TH:Option V->Option Ul->Prop
 |some v,some u=>bS v u
 |none,none=>True
 |_,_=>False
def KV{κ:Type}:List (κ×V)->List (κ×Ul)->Prop:=Paired λ(p:κ×V) (q:κ×Ul)=>p.1=q.1/\bS p.2 q.2
noncomputable def kV:aG->V
 |.inl i=>.int i
 |.inr x=>.str x
inductive HO where
 |lst (xs:List V)
 |tup (xs:List V)
 |dK (kvs:List (aG×V))|dT (kvs:List (List aG×V))
 |set (S:Int->Bool) (n:Nat)
 |ins (C dx:Um) (fs:List (Us×V))
 |own (x:Um)
 |xd (fs:List (Us×V))
 |met (f x:Um)
 |rng (lo hi:Int)
 |frz (o:Uy) (u:HO)
 |tbl (ps:Array Ul)
 |ext (φ:Uw->Prop)
abbrev Hp:=Um->Option HO
noncomputable def upd(H:Hp)(a:Um)(o:HO):Hp:=λb=>if b=a then some o else H b
theorem b5{H:Hp}{a:Um}{o:HO}:upd H a o a=some o:=by unfold upd;rw[if_pos rfl]
theorem bM{H:Hp}{a b:Um}{o:HO}(h:b≠a):upd H a o b=H b:=by unfold upd;rw[if_neg h]
theorem nM{H:Hp}{a b:Um}{o u:HO}(h:H a=some o)(h':H b=some u)(d:o≠u):a≠b:=by intro e;subst e;rw[h] at h';exact d (Bv h')
theorem X4{H:Hp}{a b:Um}{o:HO}(h:H a=some o)(h':H b=none):a≠b:=by intro e;subst e;rw[h] at h';cases h'
section
variable(P:As)(w:Uu)
def ZR(H:Hp)(h:Uw)(a:Um):HO->Prop
 |.lst xs=>xs.length<=sizeLine/\∃(its:List Ul) (n:Nat),bE xs its/\h.get? a=some {cls:=.type "list",data:=.seq its.toArray n}
 |.tup xs=>xs.length<=sizeLine/\∃its:List Ul,bE xs its/\IsTup h a its.toArray
 |.dK kvs=>kvs.length<=sizeLine/\(a==Fy)=false/\∃vs,KV kvs vs/\h.DictOf (aQ P w) a vs
 | .dT kvs => kvs.length <= sizeLine /\ (a == Fy) = false /\ ∃ xs : List (List aG × Um × Ul),
   Paired (λ(p:List aG×V) (q:List aG×Um×Ul)=>p.1=q.1/\H q.2.1=some (.tup (p.1.map kV))/\bS p.2 q.2.2) kvs xs∧
   ∃o es ep,h.get? a=some o/\o.ExactDict/\o.data=.dict es ep/\es.toList=xs.map (entryOfKey (tupleKind (aQ P w)))/\(xs.map (·.1)).Nodup
 |.set S n=>h.SetOf (intKind P w) a S n
 | .ins C dx fs => H dx = some (.own a) /\ fs.length <= 1000 /\ dx ≠ a /\ h.get? a = some (Tr C dx) ∧
   ∃mA,h.Ns1 dx mA/\(∀f,TH (fs.lookup f) (mA f))/\Ts mA (fs.map (·.1))
 |.own _=>∃o,h.get? a=some o
 |.xd fs=>∃mA,h.Ns1 a mA/\∀f,TH (fs.lookup f) (mA f)
 |.rng lo hi=>∃t u v,h.get? a=some {cls:=.type "range",data:=.fields #[.int lo t,.int hi u,.int 1 v]}
 |.frz o u=>h.get? a=some o/\ZR H h a u
 |.tbl ps=>h.get? a=some {cls:=.none,data:=.fields ps}
 |.met f x=>h.get? a=some (Rl (.ref f) (.ref x))
 |.ext φ=>φ h/\(∃o,h.get? a=some o)/\∀h1 h2:Uw,φ h1->(∀o,h1.get? a=some o->h2.get? a=some o)->φ h2
def TF(H:Hp)(h:Uw):Prop:=∀a o,H a=some o->ZR P w H h a o
end
section
variable{P:As}{w:Uu}{H H':Hp}{h h':Uw}{a:Um}{o:HO}
theorem ZR.lt(x:ZR P w H h a o):a<h.objs.size:=by
 cases o with
 |lst xs=>obtain⟨_,_,_,_,e⟩:=x;exact Aj e
 |tup xs=>obtain⟨_,_,_,p⟩:=x;exact p.lt
 |dK kvs=>obtain⟨_,_,_,_,o,_,_,e,_⟩:=x;exact Aj e
 |dT kvs=>obtain⟨_,_,_,_,o,_,_,e,_⟩:=x;exact Aj e
 |set S n=>obtain⟨o,_,_,_,e,_⟩:=x;exact Aj e
 |ins C dx fs=>obtain⟨_,_,_,e,_⟩:=x;exact Aj e
 |own y=>obtain⟨_,e⟩:=x;exact Aj e
 |xd fs=>obtain⟨_,⟨_,_,_,e,_⟩,_⟩:=x;exact Aj e
 |rng lo hi=>obtain⟨_,_,_,e⟩:=x;exact Aj e
 |frz ob u=>obtain⟨e,_⟩:=x;exact Aj e
 |tbl ps=>exact Aj (show h.get? a=some _ from x)
 |met f y=>exact Aj (show h.get? a=some _ from x)
 |ext φ=>obtain⟨_,⟨_,e⟩,_⟩:=x;exact Aj e
theorem Paired.mapP{α β:Type}{F G:α->β->Prop}:∀{l₁:List α} {l₂:List β},Paired F l₁ l₂->(∀a b,F a b->G a b)->Paired G l₁ l₂
 |_,_,.nil,_=>.nil
 |_,_,.cons r t,f=>.cons (f _ _ r) (Paired.mapP t f)
theorem ZR.stay(x:ZR P w H h a o)(k:∀b u,(b=a∨H b=some (.own a))->h.get? b=some u->h'.get? b=some u)(ho:∀b,H b=some (.own a)->H' b=some (.own a))(ht:∀b xs,H b=some (.tup xs)->H' b=some (.tup xs)):ZR P w H' h' a o:=by
 induction o with
 |lst xs=>obtain⟨z,its,n,r,e⟩:=x;exact⟨z,its,n,r,k _ _ (.inl rfl) e⟩
 |tup xs=>obtain⟨z,its,r,ob,e,c⟩:=x;exact⟨z,its,r,ob,k _ _ (.inl rfl) e,c⟩
 |dK kvs=>obtain⟨z,y,vs,r,ob,es,ep,e,c⟩:=x;exact⟨z,y,vs,r,ob,es,ep,k _ _ (.inl rfl) e,c⟩
 |dT kvs=>
  obtain⟨z,y,xs,r,ob,es,ep,e,c⟩:=x;exact⟨z,y,xs,Paired.mapP r λp q z=>⟨z.1,ht _ _ z.2.1,z.2.2⟩,ob,es,ep,k _ _ (.inl rfl) e,c⟩
 |set S n=>obtain⟨ob,es,ep,t,e,c⟩:=x;exact⟨ob,es,ep,t,k _ _ (.inl rfl) e,c⟩
 |ins C dx fs=>
  obtain⟨d,z,ne,e,mA,⟨od,es,ep,e2,c⟩,r⟩:=x;exact⟨ho _ d,z,ne,k _ _ (.inl rfl) e,mA,⟨od,es,ep,k _ _ (.inr d) e2,c⟩,r⟩
 |own y=>obtain⟨ob,e⟩:=x;exact⟨ob,k _ _ (.inl rfl) e⟩
 |xd fs=>obtain⟨mA,⟨od,es,ep,e,c⟩,r⟩:=x;exact⟨mA,⟨od,es,ep,k _ _ (.inl rfl) e,c⟩,r⟩
 |rng lo hi=>obtain⟨t,u,v,e⟩:=x;exact⟨t,u,v,k _ _ (.inl rfl) e⟩
 |frz ob u ih=>obtain⟨e,q⟩:=x;exact⟨k _ _ (.inl rfl) e,ih q⟩
 |tbl ps=>
  have e:h.get? a=some {cls:=.none,data:=.fields ps}:=x;show h'.get? a=some {cls:=.none,data:=.fields ps};exact k a _ (.inl rfl) e
 |met f y=>
  have e:h.get? a=some (Rl (.ref f) (.ref y)):=x;show h'.get? a=some (Rl (.ref f) (.ref y));exact k a _ (.inl rfl) e
 |ext φ=>obtain⟨p,⟨o,e⟩,st⟩:=x;exact⟨st _ _ p λo q=>k _ _ (.inl rfl) q,⟨o,k _ _ (.inl rfl) e⟩,st⟩
theorem TF.lt(x:TF P w H h)(e:H a=some o):a<h.objs.size:=(x a o e).lt
theorem TF.fresh(x:TF P w H h)(e:h.objs.size<=a):H a=none:=by
 cases q:H a with
 |none=>rfl
 |some u=>exact absurd (Av (x.lt q) e) (Cb _)
theorem TF.kept(x:TF P w H h)(k:∀b u,h.get? b=some u->h'.get? b=some u):TF P w H h':=λa o e=>
 (x a o e).stay (λb u _ q=>k b u q) (λ_ q=>q) λ_ _ q=>q
theorem TF.laid(x:TF P w H h)(k:∀b u,h.get? b=some u->h'.get? b=some u)(hp:h.objs.size<=a)(new:ZR P w (upd H a o) h' a o):TF P w (upd H a o) h':=λb u e=>by
 have hn:=x.fresh hp;by_cases hb:b=a
 ·subst hb;rw[b5] at e;cases e;exact new
 ·rw[bM hb] at e
  exact(x b u e).stay (λc v _ q=>k c v q) (λc q=>by rw[bM (X4 q hn)];exact q) λc xs q=>by rw[bM (X4 q hn)];exact q
end
def Rd(H:Hp)(a:Um)(u:HO):Prop:=H a=some u∨∃o,H a=some (.frz o u)
theorem Rd.ok{P:As}{w:Uu}{H:Hp}{h:Uw}{a:Um}{u:HO}(r:Rd H a u)(x:TF P w H h):ZR P w H h a u:=by
 rcases r with r|⟨o,r⟩
 ·exact x a u r
 ·obtain⟨_,q⟩:=x a _ r
  exact q
def Mut:Option HO->Prop
 |some (.lst _)=>True
 |some (.dK _)=>True
 |some (.dT _)=>True
 |some (.set _ _)=>True
 |some (.ins _ _ _)=>True
 |some (.ext _)=>True
 |_=>False
section
variable{P:As}{w:Uu}{H:Hp}{h h':Uw}{x e:Um}{o':HO}
theorem TF.write(ok:TF P w H h)(mu:Mut (H x))(he:e=x∨H e=some (.own x))(k:∀b u,b≠e->h.get? b=some u->h'.get? b=some u)(heo:∃u,h'.get? e=some u)
  (new:ZR P w (upd H x o') h' x o'):TF P w (upd H x o') h':=λb u q=>by
 have lj:∀c y,H c=some (.own y)->c≠x:=λc y r z=>by subst z;rw[r] at mu;exact mu
 have ni:∀c xs,H c=some (.tup xs)->c≠x:=λc xs r z=>by subst z;rw[r] at mu;exact mu
 by_cases hb:b=x
 ·subst hb;rw[b5] at q;cases q;exact new
 ·rw[bM hb] at q
  by_cases hbe:b=e
  ·have q':H b=some (.own x):=by
    rcases he with z|z
    ·exact absurd (hbe.trans z) hb
    ·rw[hbe];exact z
   rw[q] at q';cases q';obtain⟨v,hv⟩:=heo;exact⟨v,by rw[hbe];exact hv⟩
  ·refine (ok b u q).stay (λc v hc r => k c v ?_ r) (λc r => by rw [bM (lj c b r)];exact r) λc xs r => by rw [bM (ni c xs r)];exact r
   rcases hc with rfl|hc
   ·exact hbe
   ·rintro rfl
    rcases he with z|z
    ·exact lj c b hc z
    ·rw[hc] at z;cases z;exact hb rfl
end
structure Un(fs ex:List Um)(H H':Hp)(h h':Uw):Prop where
 keep:∀b o,h.get? b=some o->H b=none->b∉fs->b∉ex->h'.get? b=some o
 slot:∀b o,h.get? b=some o->H b=none->b∈fs->b∉ex->∃sl,h'.get? b=some {o with slots:=sl}
 free:∀b o,h.get? b=some o->H b=none->b∉ex->H' b=none
 there:∀b o,h.get? b=some o->b∉ex->∃o',h'.get? b=some o'
 tups:∀b xs,H b=some (.tup xs)->H' b=some (.tup xs)
 frzs:∀b o u,H b=some (.frz o u)->H' b=some (.frz o u)
 tbls:∀b ps,H b=some (.tbl ps)->∃more,H' b=some (.tbl (ps++more))
section
variable{fs fs' ex ex':List Um}{H H1 H2:Hp}{h h1 h2 h':Uw}{a x e:Um}{o:HO}
theorem Un.any(u:Un fs ex H H1 h h1){b:Um}{ob:Uy}(q:h.get? b=some ob)(n:H b=none)(hx:b∉ex):∃sl,h1.get? b=some {ob with slots:=sl}:=by
 by_cases hb:b∈fs
 ·exact u.slot b ob q n hb hx
 ·exact⟨ob.slots,u.keep b ob q n hb hx⟩
theorem Un.kept(k:∀b u,h.get? b=some u->h'.get? b=some u):Un fs ex H H h h':=
 ⟨λb ob q _ _ _=>k b ob q,λb ob q _ _ _=>⟨ob.slots,k b ob q⟩,λ_ _ _ n _=>n,λb ob q _=>⟨ob,k b ob q⟩,λ_ _ q=>q,λ_ _ _ q=>q,λ_ ps q=>⟨#[],by rw[q];simp⟩⟩
theorem Un.refl:Un fs ex H H h h:=Un.kept λ_ _ q=>q
theorem Un.laid(k:∀b u,h.get? b=some u->h'.get? b=some u)(hp:h.objs.size<=a)(hn:H a=none):Un fs ex H (upd H a o) h h' where
 keep:=λb u q _ _ _=>k b u q
 slot:=λb u q _ _ _=>⟨u.slots,k b u q⟩
 free:=λb u q n _=>by rw[bM (Au (Av (Aj q) hp))];exact n
 there:=λb u q _=>⟨u,k b u q⟩
 tups:=λb xs q=>by rw[bM (X4 q hn)];exact q
 frzs:=λb u xs q=>by rw[bM (X4 q hn)];exact q
 tbls:=λb ps q=>⟨#[],by rw[bM (X4 q hn),q];simp⟩
theorem Un.write(mu:Mut (H x))(he:e=x∨H e=some (.own x))(k:∀b u,b≠e->h.get? b=some u->h'.get? b=some u)(heo:∃u,h'.get? e=some u):Un fs ex H (upd H x o) h h':=by
 have hx:∀b,H b=none->b≠x:=λb n z=>by subst z;rw[n] at mu;exact mu
 have hb:∀b,H b=none->b≠e:=λb n z=>by
  subst z;rcases he with r|r
  ·exact hx b n r
  ·rw[n] at r;cases r
 have hm:∀b u,H b=some u->¬Mut (some u)->b≠x:=λb u q nm z=>by subst z;rw[q] at mu;exact nm mu
 refine⟨λb u q n _ _=>k b u (hb b n) q,λb u q n _ _=>⟨u.slots,k b u (hb b n) q⟩,λb u q n _=>by rw[bM (hx b n)];exact n,λb u q _=>?_,λb xs q=>by rw[bM (hm b _ q λz=>z)];exact q,λb u xs q=>by rw[bM (hm b _ q λz=>z)];exact q,λb ps q=>⟨#[],by rw[bM (hm b _ q λz=>z),q];simp⟩⟩
 by_cases hbe:b=e
 ·subst hbe;exact heo
 ·exact⟨u,k b u hbe q⟩
end
noncomputable def trk(h:Uw)(H:Hp):List Um:=(Bb h.objs.size).filter λa=>(H a).isSome
def J4(h:Uw)(H:Hp):Uw:=Rm h (trk h H)
theorem CH(h:Uw)(H:Hp):(J4 h H).objs.size=h.objs.size:=W.hideAll_size _ _
theorem iA{h:Uw}{H:Hp}{b:Um}{o:Uy}(e:h.get? b=some o)(n:H b=none):(J4 h H).get? b=some o:=
 Ln _ e λhm=>by have q:(H b).isSome=true:=(Ht.mp hm).2;rw[n] at q;simp at q
theorem eF{h:Uw}{H:Hp}{b:Um}{o:Uy}(e:(J4 h H).get? b=some o):h.get? b=some o/\H b=none:=by
 have e':h.get? b=some o:=Qh (trk h H) e;refine⟨e',?_⟩;cases q:H b with
 |none=>rfl
 |some x=>
  have hm:b∈trk h H:=Ht.mpr ⟨Cn.mpr (Aj e'),by simp[q]⟩;have z:(J4 h H).get? b=none:=Nk (trk h H) hm;rw[z] at e;cases e
structure Mod(K:Ai)(mg:Us->Option Ul)(base:Uw):Prop where
 kin:K.In base
 glob:base.Ns Up mg
 blt:∃mb,base.Ns builtinsNs mb/\∀x:Us,x≠ "__name__" ->mb x=Be x
 nolimit:base.NoLimit
structure Cx where
 prog:As
 w:Uu
 K:Ai
 mg:Us->Option Ul
 base:Uw
 A:Bt
 N:List Us
 s₀:Ad
 H₀:Hp
 env:Env
 outer:List Env
 stack:List Env
 ex:List Um
 fn:Us->Bool
 calm:Bool
 pn:List (Um×Uy)
 xe:Ul->Ad->Prop
def U0(l:List Env):List Um:=l.filterMap (·.frame)
abbrev Cx.fs(X:Cx):List Um:=U0 X.outer
def Vis(sc:Vd)(x:Us):Prop:=sc.names.lookup x=some .local∨sc.names.lookup x=some .cell∨sc.names.lookup x=some .free
def BO(sc:Vd)(x:Us):Prop:=sc.names.lookup x=some .local∨sc.names.lookup x=some .cell
def Look(env:Env)(h:Uw)(m:Us->Option Ul)(x:Us)(u:Ul):Prop:=
 (env.kindOf x=some .local/\m x=some u)∨((env.kindOf x=some .cell∨env.kindOf x=some .free)/\∃c,env.cells.lookup x=some c/\h.IsCell c (some u))
structure Cx.Ok(X:Cx):Prop where
 mod:Mod X.K X.mg X.base
 kind:X.env.scope.kind=.function
 glob:X.env.globals=Up
 blt:X.env.builtins=builtinsNs
 above:X.s₀.heap.objs.size<=X.env.locals
 inj:∀x y c,X.env.cells.lookup x=some c->X.env.cells.lookup y=some c->x=y
 has:∀x,(X.env.kindOf x=some .cell∨X.env.kindOf x=some .free)->∃c,X.env.cells.lookup x=some c
 cab:∀x c,X.fn x=true->X.env.cells.lookup x=some c->X.s₀.heap.objs.size<=c
 hd:X.calm=true->X.A.handled=none
 frames:X.A.frames=some X.stack
 stk:X.stack=X.outer∨(X.stack=X.env::X.outer/\X.env.frame=some X.env.locals)
 exf:∀b∈X.ex,b≠X.env.locals/\∀x c,X.env.cells.lookup x=some c->c≠b
 bs:∀b o,X.base.get? b=some o->X.s₀.heap.get? b=some o/\X.H₀ b=none
 bsz:X.base.objs.size<=X.s₀.heap.objs.size
 noex:∀b o,X.base.get? b=some o->b∉X.ex
 exfs:∀b∈X.ex,b∉X.fs
 funs:X.s₀.heap.FunFrames X.base X.outer
 frf:∀b∈X.fs,X.H₀ b=none
structure b9(X:Cx)(aa:List (Um×Uy))(σ:List (Option V))(H:Hp)(s:Ad):Prop where
 ok:X.Ok
 os:s.os=X.s₀.os
 bare:Lo s.gens
 base:Un X.fs X.ex X.H₀ H X.s₀.heap s.heap
 loc:∃m,s.heap.Ns X.env.locals m/\∀(i:Nat) (x:Us) (v:V),X.N[i]?=some x->σ[i]?=some (some v)->Vis X.env.scope x->∃u,bS v u/\Look X.env s.heap m x u
 cell:∀x c,X.env.cells.lookup x=some c->∃v,s.heap.IsCell c v
 free:H X.env.locals=none
 freeC:∀x c,X.env.cells.lookup x=some c->H c=none
 pin:∀p∈X.pn++aa,s.heap.get? p.1=some p.2/\H p.1=none/\p.1≠X.env.locals/\p.1∉X.fs/\∀v,p.2.data≠ .cell v
 hok:TF X.prog X.w H s.heap
 len:σ.length=X.N.length
section
variable{X:Cx}{aa:List (Um×Uy)}{σ:List (Option V)}{H H':Hp}{s:Ad}{h':Uw}
theorem Cx.Ok.nofr(ok:X.Ok){b:Um}{o:Uy}(e:X.base.get? b=some o):b∉X.fs:=λhb=>by have:=(ok.funs.mem hb).1;rw[e] at this;cases this
theorem b9.bs(I:b9 X aa σ H s):∀b o,X.base.get? b=some o->s.heap.get? b=some o/\H b=none:=λb o e=>
 ⟨I.base.keep b o (I.ok.bs b o e).1 (I.ok.bs b o e).2 (I.ok.nofr e) (I.ok.noex b o e),I.base.free b o (I.ok.bs b o e).1 (I.ok.bs b o e).2 (I.ok.noex b o e)⟩
theorem b9.bk(I:b9 X aa σ H s):∀b o,X.base.get? b=some o->s.heap.get? b=some o:=λb o e=>(I.bs b o e).1
theorem b9.mod(I:b9 X aa σ H s):Mod X.K X.mg X.base:=I.ok.mod
theorem b9.kIn(I:b9 X aa σ H s):X.K.In s.heap:=I.ok.mod.kin.keeps I.bk
theorem b9.nolimit(I:b9 X aa σ H s):s.heap.NoLimit:=I.ok.mod.nolimit.keeps I.bk
theorem b9.lt(I:b9 X aa σ H s):X.env.locals<s.heap.objs.size:=let ⟨_,hn,_⟩:=I.loc;hn.lt
theorem b9.sz(I:b9 X aa σ H s):X.s₀.heap.objs.size<=s.heap.objs.size:=Dz I.ok.above (Mn I.lt)
theorem b9.nofs(I:b9 X aa σ H s){a:Um}(h:s.heap.objs.size<=a):a∉X.fs:=λhb=>by obtain⟨_,o,ho,_⟩:=I.ok.funs.mem hb;exact absurd (Av (Aj ho) (Dz I.sz h)) (Cb _)
theorem b9.cne(I:b9 X aa σ H s):∀x c,X.env.cells.lookup x=some c->c≠X.env.locals:=λx c e z=>by obtain⟨v,o,ho,hd⟩:=I.cell x c e;obtain⟨m,⟨o',es,ep,ho',hd',_⟩,_⟩:=I.loc;rw[z,ho'] at ho;cases ho;rw[hd'] at hd;cases hd
theorem b9.funs(I:b9 X aa σ H s):s.heap.FunFrames X.base X.outer:=by
 have all:∀(l:List Env),(∀b∈U0 l,b∈X.fs)->X.s₀.heap.FunFrames X.base l->s.heap.FunFrames X.base l:=by
  intro l;induction l with
  |nil=>intro _ _;trivial
  |cons env r ih=>
   intro hs hl;obtain⟨hk,⟨L,o,hf,hn,ho,hd⟩,hr⟩:=hl;have hL:L∈X.fs:=hs L (by unfold U0;rw[Jy,hf];exact Ar);obtain⟨sl,e⟩:=I.base.slot L o ho (I.ok.frf L hL) hL λz=>I.ok.exfs L z hL;exact⟨hk,⟨L,_,hf,hn,e,hd⟩,ih (λb hb=>hs b (by unfold U0;rw[Jy,hf];exact An _ hb)) hr⟩
 exact all X.outer (λ_ hb=>hb) I.ok.funs
theorem b9.stack(I:b9 X aa σ H s):s.heap.FunFrames X.base X.stack:=by
 rcases I.ok.stk with e|⟨e,hf⟩
 ·rw[e];exact I.funs
 ·rw[e]
  obtain⟨m,hn,_⟩:=I.loc;refine .cons (by rw[I.ok.kind];decide) hf hn ?_ I.funs;exact Jp (Dz I.ok.bsz I.ok.above)
theorem b9.stkSub(I:b9 X aa σ H s):∀b∈U0 X.stack,b∈X.env.locals::X.fs:=λb hb=>by
 rcases I.ok.stk with e|⟨e,hf⟩
 ·rw[e] at hb;exact An _ hb
 ·rw[e] at hb
  unfold U0 at hb;rw[Jy,hf] at hb;exact hb
theorem b9.stkFree(I:b9 X aa σ H s):∀b∈U0 X.stack,H b=none:=λb hb=>by
 rcases Ak.mp (I.stkSub b hb) with e|hb
 ·rw[e];exact I.free
 ·obtain⟨_,o,ho,_⟩:=I.ok.funs.mem hb
  exact I.base.free b o ho (I.ok.frf b hb) λz=>I.ok.exfs b z hb
theorem b9.step{g':Array GenState}{t':Nat}{d':Drawn}{ch:List Um}(I:b9 X aa σ H s)(hch:∀b∈ch,(b∈X.ex∨X.s₀.heap.objs.size<=b)/\b≠X.env.locals/\(∀x c,X.env.cells.lookup x=some c->c≠b)/\∀p∈X.pn++aa,p.1≠b)(keep:∀b o,b≠X.env.locals->b∉X.fs->b∉ch->s.heap.get? b=some o->H b=none->h'.get? b=some o)(slot:∀b o,b≠X.env.locals->b∈X.fs->b∉ch->s.heap.get? b=some o->H b=none->∃sl,h'.get? b=some {o with slots:=sl})(free:∀b o,b∉ch->s.heap.get? b=some o->H b=none->H' b=none)(there:∀b o,b∉ch->s.heap.get? b=some o->∃o',h'.get? b=some o')(tups:∀b xs,H b=some (.tup xs)->H' b=some (.tup xs))(frzs:∀b o u,H b=some (.frz o u)->H' b=some (.frz o u))(tbls:∀b ps,H b=some (.tbl ps)->∃more,H' b=some (.tbl (ps++more)))(ns:∀m,s.heap.Ns X.env.locals m->h'.Ns X.env.locals m)(hok:TF X.prog X.w H' h')(hg:Lo g'):b9 X aa σ H' {s with heap:=h',gens:=g',drawn:=d',toks:=t'}:=by
 have neL:∀b o,X.s₀.heap.get? b=some o->b≠X.env.locals:=λb o e=>Au (Av (Aj e) I.ok.above);have neC:∀b o,X.s₀.heap.get? b=some o->b∉X.ex->b∉ch:=λb o e hx hb=>by
  rcases(hch b hb).1 with z|z
  ·exact hx z
  ·exact absurd (Av (Aj e) z) (Cb _)
 have f9:∀x c,X.env.cells.lookup x=some c->∀v,s.heap.IsCell c v->h'.IsCell c v:=λx c e v q0=>by
  obtain⟨o,ho,hd⟩:=q0;have nch:c∉ch:=λz=>(hch c z).2.2.1 x c e rfl;by_cases hc:c∈X.fs
  ·obtain⟨sl,q⟩:=slot c o (I.cne x c e) hc nch ho (I.freeC x c e)
   exact⟨_,q,hd⟩
  ·exact⟨o,keep c o (I.cne x c e) hc nch ho (I.freeC x c e),hd⟩
 refine⟨I.ok,I.os,hg,⟨λb o e n hb hx=>?_,λb o e n hb hx=>?_,λb o e n hx=>?_,λb o e hx=>?_,λb xs e=>tups b xs (I.base.tups b xs e),λb o xs e=>frzs b o xs (I.base.frzs b o xs e),λb ps e=>?_⟩,?_,λx c e=>?_,?_,λx c e=>?_,λp hp=>?_,hok,I.len⟩
 ·exact keep b o (neL b o e) hb (neC b o e hx) (I.base.keep b o e n hb hx) (I.base.free b o e n hx)
 ·obtain⟨sl,e1⟩:=I.base.slot b o e n hb hx
  obtain⟨sl',e2⟩:=slot b _ (neL b o e) hb (neC b o e hx) e1 (I.base.free b o e n hx);exact⟨sl',e2⟩
 ·obtain⟨o',e1⟩:=I.base.there b o e hx
  exact free b o' (neC b o e hx) e1 (I.base.free b o e n hx)
 ·obtain⟨o',e1⟩:=I.base.there b o e hx
  exact there b o' (neC b o e hx) e1
 ·obtain⟨m1,e1⟩:=I.base.tbls b ps e
  obtain⟨m2,e2⟩:=tbls b _ e1;exact⟨m1++m2,by rw[e2,Array.append_assoc]⟩
 ·obtain⟨m,hn,hl⟩:=I.loc
  refine⟨m,ns m hn,λi x v e1 e2 e3=>?_⟩;obtain⟨u,r,l⟩:=hl i x v e1 e2 e3;refine⟨u,r,?_⟩;rcases l with l|⟨k,c,e,z⟩
  ·exact .inl l
  ·exact .inr ⟨k,c,e,f9 x c e _ z⟩
 ·obtain⟨v,z⟩:=I.cell x c e
  exact⟨v,f9 x c e v z⟩
 ·obtain⟨m,⟨o,_,_,ho,_⟩,_⟩:=I.loc
  exact free _ o (λz=>(hch _ z).2.1 rfl) ho I.free
 ·obtain⟨v,o,ho,hd⟩:=I.cell x c e
  exact free c o (λz=>(hch c z).2.2.1 x c e rfl) ho (I.freeC x c e)
 ·obtain⟨e,n,ne,nf,d⟩:=I.pin p hp
  have nch:p.1∉ch:=λz=>(hch p.1 z).2.2.2 p hp rfl;exact⟨keep p.1 p.2 ne nf nch e n,free p.1 p.2 nch e n,ne,nf,d⟩
theorem b9.un{t':Nat}(I:b9 X aa σ H s)(u:Un X.fs [] H H' s.heap h')(hok:TF X.prog X.w H' h'):b9 X aa σ H' {s with heap:=h',toks:=t'}:=by
 obtain⟨m,⟨o,es,ep,ho,r⟩,_⟩:=id I.loc;obtain⟨sl,hL⟩:=u.any ho I.free (by simp);exact I.step (g':=s.gens) (d':=s.drawn) (ch:=[]) (λ_ z=>nomatch z) (λb o _ hb _ e n=>u.keep b o e n hb (by simp)) (λb o _ hb _ e n=>u.slot b o e n hb (by simp)) (λb o _ e n=>u.free b o e n (by simp)) (λb o _ e=>u.there b o e (by simp)) u.tups u.frzs u.tbls (λm' hm=>by obtain⟨o',es',ep',ho',r'⟩:=hm;rw[ho] at ho';cases ho';exact⟨_,es',ep',hL,r'⟩) hok I.bare
theorem b9.call{g':Array GenState}{t':Nat}{d':Drawn}{ch:List Um}(I:b9 X aa σ H s)(u:Un (U0 X.stack) ch H H' s.heap h')(hok:TF X.prog X.w H' h')(hg:Lo g')(hch:∀b∈ch,(b∈X.ex∨X.s₀.heap.objs.size<=b)/\b≠X.env.locals/\(∀x c,X.env.cells.lookup x=some c->c≠b)/\∀p∈X.pn++aa,p.1≠b):b9 X aa σ H' {s with heap:=h',gens:=g',drawn:=d',toks:=t'}:=by
 obtain⟨m,⟨o,es,ep,ho,r⟩,_⟩:=id I.loc;obtain⟨sl,hL⟩:=u.any ho I.free λz=>(hch _ z).2.1 rfl;exact I.step (ch:=ch) hch (λb o hL hb hc e n=>u.keep b o e n (λz=>(Ak.mp (I.stkSub b z)).elim hL hb) hc) (λb o _ _ hc e n=>u.any e n hc) (λb o hc e n=>u.free b o e n hc) (λb o hc e=>u.there b o e hc) u.tups u.frzs u.tbls (λm' hm=>by obtain⟨o',es',ep',ho',r'⟩:=hm;rw[ho] at ho';cases ho';exact⟨_,es',ep',hL,r'⟩) hok hg
theorem b9.turned{t':Nat}{it:Um}(I:b9 X aa σ H s)(k:∀b o,b≠it->s.heap.get? b=some o->h'.get? b=some o)(hn:H it=none)(hL:it≠X.env.locals)(h1:it∈X.ex∨X.s₀.heap.objs.size<=it)(h2:∀x c,X.env.cells.lookup x=some c->c≠it)(h3:∀p∈X.pn++aa,p.1≠it):b9 X aa σ H {s with heap:=h',toks:=t'}:=by
 have nit:∀b u,H b=some u->b≠it:=λb u e z=>by rw[z,hn] at e;cases e
 refine I.step (g':=s.gens) (d':=s.drawn) (ch:=[it]) (λb hb=>?_) (λb o _ _ hc e _=>k b o (λz=>hc (by simp[z])) e) (λb o _ _ hc e _=>⟨o.slots,k b o (λz=>hc (by simp[z])) e⟩) (λ_ _ _ _ n=>n)
  (λb o hc e=>⟨o,k b o (λz=>hc (by simp[z])) e⟩) (λ_ _ e=>e) (λ_ _ _ e=>e) (λb ps e=>⟨#[],by rw[e];simp⟩) (λm hm=>?_) (λb u e=>?_) I.bare
 ·have e : b = it := by simpa using hb
  subst e;exact⟨h1,hL,h2,h3⟩
 ·obtain⟨o,es,ep,ho,r⟩:=hm
  exact⟨o,es,ep,k _ o (Dm hL) ho,r⟩
 ·refine (I.hok b u e).stay (λc v hc q => k c v ?_ q) (λ_ q => q) λ_ _ q => q
  rcases hc with z|z
  ·rw[z];exact nit b u e
  ·exact nit c _ z
theorem b9.tok(I:b9 X aa σ H s)(t:Nat):b9 X aa σ H {s with toks:=t}:=I.un (h':=s.heap) (t':=t) Un.refl I.hok
theorem b9.kept{t':Nat}(I:b9 X aa σ H s)(k:∀b u,s.heap.get? b=some u->h'.get? b=some u):b9 X aa σ H {s with heap:=h',toks:=t'}:=I.un (Un.kept k) (I.hok.kept k)
theorem b9.laid{a:Um}{o:HO}{t':Nat}(I:b9 X aa σ H s)(k:∀b u,s.heap.get? b=some u->h'.get? b=some u)(hp:s.heap.objs.size<=a)(new:ZR X.prog X.w (upd H a o) h' a o):b9 X aa σ (upd H a o) {s with heap:=h',toks:=t'}:=I.un (Un.laid k hp (I.hok.fresh hp)) (I.hok.laid k hp new)
theorem b9.write{x e:Um}{o:HO}{t':Nat}(I:b9 X aa σ H s)(mu:Mut (H x))(he:e=x∨H e=some (.own x))(k:∀b u,b≠e->s.heap.get? b=some u->h'.get? b=some u)(heo:∃u,h'.get? e=some u)(new:ZR X.prog X.w (upd H x o) h' x o):b9 X aa σ (upd H x o) {s with heap:=h',toks:=t'}:=I.un (Un.write mu he k heo) (I.hok.write mu he k heo new)
theorem b9.weak{σ':List (Option V)}(I:b9 X aa σ H s)(hl:σ'.length=σ.length)(w:∀(i:Nat) v,σ'[i]?=some (some v)->σ[i]?=some (some v)):b9 X aa σ' H s:=
 ⟨I.ok,I.os,I.bare,I.base,let ⟨m,hn,hl'⟩:=I.loc;⟨m,hn,λi x v e1 e2 e3=>hl' i x v e1 (w i v e2) e3⟩,I.cell,I.free,I.freeC,I.pin,I.hok,hl.trans I.len⟩
theorem b9.pins_of{jd:List (Um×Uy)}(I:b9 X aa σ H s)(h:∀p∈jd,s.heap.get? p.1=some p.2/\H p.1=none/\p.1≠X.env.locals/\p.1∉X.fs/\∀v,p.2.data≠ .cell v):b9 X jd σ H s:=
 ⟨I.ok,I.os,I.bare,I.base,I.loc,I.cell,I.free,I.freeC,λp hp=>(Cq.mp hp).elim (λz=>I.pin p (Bw _ z)) (h p),I.hok,I.len⟩
theorem IC{N:List Us}(hN:N.Nodup){i j:Nat}{x:Us}(a:N[i]?=some x)(b:N[j]?=some x):i=j:=by obtain⟨h1,e1⟩:=Ag.mp a;obtain⟨h2,e2⟩:=Ag.mp b;exact(Qo hN).mp (e1.trans e2.symm)
theorem MP{M:Vi}{A:Bt}{E:Ul->Ad->Prop}{i:Nat}{x:Us}{v:V}{u:Ul}{Q:Unit->Ad->Prop}(I:b9 X aa σ H s)(hN:X.N.Nodup)(hi:X.N[i]?=some x)(hx:BO X.env.scope x)(r:bS v u)(h:∀s',b9 X aa (σ.set i (some v)) H s'->(∃a,Fl a s.heap s'.heap/\(a=X.env.locals∨X.env.cells.lookup x=some a))->Q () s')(hf:X.fn x=true∨X.env.scope.names.lookup x=some .local:=by first|exact .inl rfl|exact .inr rfl|assumption):Uq M A (storeName X.env x u) Q E s:=by
 obtain⟨m,hn,hl⟩:=id I.loc;have oz:(X.env.scope.kind== .class || (X.env.scope.kind== .module&&X.env.locals !=X.env.globals))=false:=by rw[I.ok.kind];rfl
 have hiσ:i<σ.length:=by rw[I.len];exact(Ag.mp hi).1
 have cne:=I.cne;have gb:∀{a:Um} {h':Uw},(∃o,s.heap.get? a=some o/\H a=none)->Fl a s.heap h'->TF X.prog X.w H h':=λ{a h'} ha hs b ob e=>by
  obtain⟨_,_,c7⟩:=ha;refine(I.hok b ob e).stay (λc w' hc q=>(hs.2 c ?_).trans q) (λ_ q=>q) λ_ _ q=>q;rintro rfl;rcases hc with rfl|hc
  ·rw[c7] at e;cases e
  ·rw[c7] at hc;cases hc
 rcases hx with hk|hk
 ·refine wpAny_storeName_local hk hn (λh' hn' hs => ?_) oz
  obtain⟨oL,_,_,hoL,_⟩:=id hn;refine h _ ⟨I.ok,I.os,I.bare,⟨λb o e n hb hx=>?_,λb o e n hb hx=>?_,I.base.free,λb o e hx=>?_,I.base.tups,I.base.frzs,I.base.tbls⟩,⟨_,hn',λj y v' e1 e2 e3=>?_⟩,λy c e=>?_,I.free,I.freeC,λp hp=>?_,gb ⟨oL,hoL,I.free⟩ hs,by simpa using I.len⟩ ⟨_,hs,.inl rfl⟩
  ·exact(hs.2 b (Au (Av (Aj e) I.ok.above))).trans (I.base.keep b o e n hb hx)
  ·obtain⟨sl,e1⟩:=I.base.slot b o e n hb hx
   exact⟨sl,(hs.2 b (Au (Av (Aj e) I.ok.above))).trans e1⟩
  ·obtain⟨o',e1⟩:=I.base.there b o e hx
   exact⟨o',(hs.2 b (Au (Av (Aj e) I.ok.above))).trans e1⟩
  ·by_cases hj:j=i
   ·subst hj
    rw[hi] at e1;cases e1;rw[Cj hiσ] at e2;cases e2;exact⟨u,r,.inl ⟨hk,by simp⟩⟩
   ·rw[Bo (Dm hj)] at e2
    obtain⟨u',r',q⟩:=hl j y v' e1 e2 e3;refine⟨u',r',?_⟩;rcases q with⟨k,e⟩|⟨k,c,e,z⟩
    ·refine .inl ⟨k,?_⟩
     have:y≠x:=λe=>hj (IC hN e1 (e▸hi));simp[this,e]
    ·exact .inr ⟨k,c,e,z.sameBut hs (cne y c e)⟩
  ·obtain⟨w',z⟩:=I.cell y c e
   exact⟨w',z.sameBut hs (cne y c e)⟩
  ·obtain⟨e,n,ne,nf,d⟩:=I.pin p hp
   exact⟨(hs.2 p.1 ne).trans e,n,ne,nf,d⟩
 ·have hfn:X.fn x=true:=by
   rcases hf with z|z
   ·exact z
   ·rw[z] at hk;cases hk
  obtain⟨c,hc⟩:=I.ok.has x (.inl hk);obtain⟨w',z⟩:=I.cell x c hc;refine wpAny_storeName_cell I.ok.kind hk hc z (λh' hc' hs=>?_);obtain⟨oc,hoc,o6⟩:=id z;refine h {s with heap:=h'} ⟨I.ok,I.os,I.bare,⟨λb o e n hb hx=>?_,λb o e n hb hx=>?_,I.base.free,λb o e hx=>?_,I.base.tups,I.base.frzs,I.base.tbls⟩,⟨m,hn.sameBut hs (Dm (cne x c hc)),λj y v' e1 e2 e3=>?_⟩,λy c' e=>?_,I.free,I.freeC,λp hp=>?_,gb ⟨oc,hoc,I.freeC x c hc⟩ hs,by simpa using I.len⟩ ⟨c,hs,.inr hc⟩
  ·exact(hs.2 b (Au (Av (Aj e) (I.ok.cab x c hfn hc)))).trans (I.base.keep b o e n hb hx)
  ·obtain⟨sl,e1⟩:=I.base.slot b o e n hb hx
   exact⟨sl,(hs.2 b (Au (Av (Aj e) (I.ok.cab x c hfn hc)))).trans e1⟩
  ·obtain⟨o',e1⟩:=I.base.there b o e hx
   exact⟨o',(hs.2 b (Au (Av (Aj e) (I.ok.cab x c hfn hc)))).trans e1⟩
  ·by_cases hj:j=i
   ·subst hj
    rw[hi] at e1;cases e1;rw[Cj hiσ] at e2;cases e2;exact⟨u,r,.inr ⟨.inl hk,c,hc,hc'⟩⟩
   ·rw[Bo (Dm hj)] at e2
    obtain⟨u',r',q⟩:=hl j y v' e1 e2 e3;refine⟨u',r',?_⟩;rcases q with q|⟨k,c',e,z'⟩
    ·exact .inl q
    ·refine .inr ⟨k,c',e,z'.sameBut hs ?_⟩
     rintro rfl;exact hj (IC hN e1 (I.ok.inj _ _ _ e hc▸hi))
  ·by_cases hcc:c'=c
   ·subst hcc;exact⟨_,hc'⟩
   ·obtain⟨w2,z2⟩:=I.cell y c' e
    exact⟨w2,z2.sameBut hs hcc⟩
  ·obtain⟨e,n,ne,nf,d⟩:=I.pin p hp
   refine⟨(hs.2 p.1 ?_).trans e,n,ne,nf,d⟩;intro q;rw[q,hoc] at e;have q':oc=p.2:=Bv e;exact d w' (by rw[<-q'];exact o6)
theorem YY{M:Vi}{A:Bt}{E:Ul->Ad->Prop}{i:Nat}{x:Us}{v:V}{u:Ul}{Q:Unit->Ad->Prop}(I:b9 X aa σ H s)(hN:X.N.Nodup)(hi:X.N[i]?=some x)(hx:BO X.env.scope x)(r:bS v u)(h:∀s',b9 X aa (σ.set i (some v)) H s'->Q () s')(hf:X.fn x=true∨X.env.scope.names.lookup x=some .local:=by first|exact .inl rfl|exact .inr rfl|assumption):Uq M A (storeName X.env x u) Q E s:=
 MP I hN hi hx r (λs' I' _=>h s' I') hf
theorem b9.call'{s':Ad}{ch:List Um}(I:b9 X aa σ H s)(ho:s'.os=s.os)(u:Un (U0 X.stack) ch H H' s.heap s'.heap)(hok:TF X.prog X.w H' s'.heap)(hg:Lo s'.gens)(hch:∀b∈ch,(b∈X.ex∨X.s₀.heap.objs.size<=b)/\b≠X.env.locals/\(∀x c,X.env.cells.lookup x=some c->c≠b)/\∀p∈X.pn++aa,p.1≠b):b9 X aa σ H' s':=by obtain⟨h',g',d',t',o'⟩:=s';have e:o'=s.os:=ho;subst e;exact I.call (g':=g') (t':=t') (d':=d') u hok hg hch
end
abbrev XK:=Ul->Option Um->Hp->Prop
abbrev St:=List (Option V)
abbrev VK:=V->Hp->Prop
abbrev TE:=St->Hp->VK->Prop
abbrev TT:=St->Hp->(Bool->Hp->Prop)->Prop
abbrev TA:=St->Hp->(List V->Hp->Prop)->Prop
structure M3 where
 nx:St->Hp->Prop
 rt:VK
 bk:St->Hp->Prop:=λ_ _=>False
 ct:St->Hp->Prop:=λ_ _=>False
abbrev TS:=M3->St->Hp->Prop
def EP(X:Cx)(aa:List (Um×Uy))(σ:St)(Q:VK)(u:Ul)(s':Ad):Prop:=∃v H',b9 X aa σ H' s'/\bS v u/\Q v H'
def TP(X:Cx)(aa:List (Um×Uy))(σ:St)(Q:Bool->Hp->Prop)(b:Bool)(s':Ad):Prop:=∃H',b9 X aa σ H' s'/\Q b H'
def AP(X:Cx)(aa:List (Um×Uy))(σ:St)(Q:List V->Hp->Prop)(us:List Ul)(s':Ad):Prop:=∃vs H',b9 X aa σ H' s'/\bE vs us/\Q vs H'
def SP(X:Cx)(aa:List (Um×Uy))(D:M3)(f:Flow)(s':Ad):Prop:=
 match f with
 |.next=>∃σ' H',b9 X aa σ' H' s'/\D.nx σ' H'
 |.brk=>∃σ' H',b9 X aa σ' H' s'/\D.bk σ' H'
 |.cont=>∃σ' H',b9 X aa σ' H' s'/\D.ct σ' H'
 |.ret u=>∃v σ' H',b9 X aa σ' H' s'/\bS v u/\D.rt v H'
def PE(X:Cx)(e:Ut)(t:TE):Prop:=
 ∀(aa:List (Um×Uy)) (s:Ad) (σ:St) (H:Hp) (Q:VK),b9 X aa σ H s->t σ H Q->Uq (Ur X.prog X.w) X.A (eval e X.env) (EP X aa σ Q) X.xe s
def PT(X:Cx)(e:Ut)(t:TT):Prop:=
 ∀(aa:List (Um×Uy)) (s:Ad) (σ:St) (H:Hp) (Q:Bool->Hp->Prop),b9 X aa σ H s->t σ H Q->Uq (Ur X.prog X.w) X.A (isTrue e X.env (eval e X.env)) (TP X aa σ Q) X.xe s
def PW(X:Cx)(e:Ut)(t:TT):Prop:=
 ∀(bq:Vf Ul) (aa:List (Um×Uy)) (s:Ad) (σ:St) (H:Hp) (Q:Bool->Hp->Prop),b9 X aa σ H s->t σ H Q->Uq (Ur X.prog X.w) X.A (isTrue e X.env bq) (TP X aa σ Q) X.xe s
theorem PW.pt{X:Cx}{e:Ut}{t:TT}(h:PW X e t):PT X e t:=h _
def PA(X:Cx)(es:List Ut)(t:TA):Prop:=
 ∀(pos:Pos) (aa:List (Um×Uy)) (s:Ad) (σ:St) (H:Hp) (Q:List V->Hp->Prop),b9 X aa σ H s->t σ H Q->Uq (Ur X.prog X.w) X.A (spliced (Dq pos (Uo es X.env))) (AP X aa σ Q) X.xe s
def PS(X:Cx)(st:Ux)(t:TS):Prop:=
 ∀(aa:List (Um×Uy)) (s:Ad) (σ:St) (H:Hp) (D:M3),b9 X aa σ H s->t D σ H->Uq (Ur X.prog X.w) X.A (exec st X.env) (SP X aa D) X.xe s
def WZ(X:Cx)(st:List Ux)(t:TS):Prop:=
 ∀(aa:List (Um×Uy)) (s:Ad) (σ:St) (H:Hp) (D:M3),b9 X aa σ H s->t D σ H->Uq (Ur X.prog X.w) X.A (execs st X.env) (SP X aa D) X.xe s
theorem ZD{α:Type}{t:Vf α}{Q Q':α->Ad->Prop}{M:Vi}{A:Bt}{E:Ul->Ad->Prop}{s:Ad}(h:Uq M A t Q E s)(hQ:∀a s,Q a s->Q' a s):Uq M A t Q' E s:=Bj h hQ λ_ _ x=>x
section
variable{X:Cx}
def KZ(i:Nat):TE:=λσ H Q=>∃v,σ[i]?=some (some v)/\Q v H
def tC(v:V):TE:=λ_ H Q=>Q v H
theorem GA{i:Nat}{x:Us}{pos:Pos}(hN:X.N[i]?=some x)(hv:Vis X.env.scope x)(hd:(x==("__debug__":Us))=false:=by decide)(hcd:(x==("__classdict__":Us))=false:=by decide):PE X (.Name x pos) (KZ i):=by
 intro aa s σ H Q I h;obtain⟨v,e,h⟩:=h;obtain⟨m,hn,hl⟩:=I.loc;obtain⟨u,r,l⟩:=hl i x v hN e hv;have fin:EP X aa σ Q u s:=⟨v,H,I,r,h⟩;rcases l with⟨hk,hm⟩|⟨hk,c,hc,jh⟩
 ·exact La (Hc I.ok.kind hk hn hm fin) hd
 ·rcases hk with hk|hk
  ·exact La (wpAny_loadName_cell I.ok.kind hk hc jh fin) hd
  ·exact La (wpAny_loadName_free I.ok.kind hk hc jh fin hcd) hd
theorem nT{i j pos}:PE X (.Constant (.int i) j pos) (tC (.int i)):=λ_ _ _ H _ I h=>wpAny_Constant_int ⟨.int i,H,I.tok _,⟨_,rfl⟩,h⟩
theorem jP{b j pos}:PE X (.Constant (.bool b) j pos) (tC (.bl b)):=λ_ _ _ H _ I h=>Constant_bool ⟨.bl b,H,I,rfl,h⟩
theorem Zs{j pos}:PE X (.Constant .none j pos) (tC .non):=λ_ _ _ H _ I h=>Constant_none ⟨.non,H,I,rfl,h⟩
theorem Xy{x j pos}:PE X (.Constant (.str x) j pos) (tC (.str x)):=λ_ _ _ H _ I h=>Om ⟨.str x,H,I.tok _,⟨_,rfl⟩,h⟩
def Gl(X:Cx)(x:Us):Prop:=X.env.kindOf x=some .globalImplicit
theorem WK{E:Ul->Ad->Prop}{aa:List (Um×Uy)}{s:Ad}{σ:St}{H:Hp}{x:Us}{u:Ul}{pos:Pos}{Q:Ul->Ad->Prop}(I:b9 X aa σ H s)(hg:Gl X x)(hm:X.mg x=some u)(h:Q u s)(hd:(x==("__debug__":Us))=false:=by decide):Uq (Ur X.prog X.w) X.A (eval (.Name x pos) X.env) Q E s:=
 Gz I.ok.kind hg (Lp (by rw[I.ok.glob];exact I.mod.glob.keeps I.bk) hm h) hd
theorem SM{E:Ul->Ad->Prop}{aa:List (Um×Uy)}{s:Ad}{σ:St}{H:Hp}{x:Us}{u:Ul}{pos:Pos}{Q:Ul->Ad->Prop}(I:b9 X aa σ H s)(hg:Gl X x)(hm:X.mg x=none)(hv:Be x=some u)(h:Q u s)(hn:x≠ "__name__":=by decide)(hd:(x==("__debug__":Us))=false:=by decide):Uq (Ur X.prog X.w) X.A (eval (.Name x pos) X.env) Q E s:=by obtain⟨mb,h1,h2⟩:=I.mod.blt;exact Gz I.ok.kind hg (Calls.loadGlobal_builtin (by rw[I.ok.glob];exact I.mod.glob.keeps I.bk) hm (by rw[I.ok.blt];exact h1.keeps I.bk) ((h2 x hn).trans hv) h) hd
theorem eL{x:Us}{v:V}{u:Ul}{pos:Pos}(hg:Gl X x)(hm:X.mg x=some u)(r:bS v u)(hd:(x==("__debug__":Us))=false:=by decide):PE X (.Name x pos) (tC v):=
 λ_ _ _ H _ I h=>WK I hg hm ⟨v,H,I,r,h⟩ hd
theorem gA{x:Us}{v:V}{u:Ul}{pos:Pos}(hg:Gl X x)(hm:X.mg x=none)(hv:Be x=some u)(r:bS v u)(hn:x≠ "__name__":=by decide)(hd:(x==("__debug__":Us))=false:=by decide):PE X (.Name x pos) (tC v):=
 λ_ _ _ H _ I h=>SM I hg hm hv ⟨v,H,I,r,h⟩ hn hd
variable{a b:Ut}{ta tb:TE}{pos:Pos}
def tB(t:TE):TT:=λσ H Q=>t σ H λx H1=>∃c,x=.bl c/\Q c H1
theorem mD{e:Ut}{t:TE}(h:PE X e t)(he:∀bq,isTrue e X.env bq=(do let v<-bq;standAt e.pos;holding [v] (truthy v)):=by intro _;rfl):PT X e (tB t):=by intro aa s σ H Q I hw;refine isTrue_plain (ZD (h aa s σ H _ I hw) λv s1 ⟨x,H1,I1,r1,q1⟩=>?_) (he _);obtain⟨d,rfl,q⟩:=q1;cases r1;exact Fa ⟨H1,I1,q⟩
variable{tA tB':TT}{rest:List Ut}
def tAnd(t u:TT):TT:=λσ H Q=>t σ H λc H1=>if c=true then u σ H1 Q else Q false H1
def tOr(t u:TT):TT:=λσ H Q=>t σ H λc H1=>if c=true then Q true H1 else u σ H1 Q
def tNot(t:TT):TT:=λσ H Q=>t σ H λc H1=>Q (!c) H1
theorem kU(ha:PT X a tA):PW X (.BoolOp .And [a] pos) tA:=by
 intro wh aa s σ H Q I h;refine isTrue_and (ZD (ha aa s σ H Q I h) λc s1 e=>?_);cases c with
 |true=>exact isTrue_and_nil e
 |false=>exact e
theorem kJ(ha:PT X a tA):PW X (.BoolOp .Or [a] pos) tA:=by
 intro wh aa s σ H Q I h;refine isTrue_or (ZD (ha aa s σ H Q I h) λc s1 e=>?_);cases c with
 |false=>exact isTrue_or_nil e
 |true=>exact e
theorem gM(ha:PT X a tA)(hb:PW X (.BoolOp .And (b::rest) pos) tB'):PW X (.BoolOp .And (a::b::rest) pos) (tAnd tA tB'):=by
 intro wh aa s σ H Q I h;refine isTrue_and (ZD (ha aa s σ H _ I h) λc s1 ⟨H1,I1,q1⟩=>?_);cases c with
 |true=>exact hb wh aa s1 σ H1 Q I1 q1
 |false=>exact⟨H1,I1,q1⟩
theorem dU(ha:PT X a tA)(hb:PW X (.BoolOp .Or (b::rest) pos) tB'):PW X (.BoolOp .Or (a::b::rest) pos) (tOr tA tB'):=by
 intro wh aa s σ H Q I h;refine isTrue_or (ZD (ha aa s σ H _ I h) λc s1 ⟨H1,I1,q1⟩=>?_);cases c with
 |true=>exact⟨H1,I1,q1⟩
 |false=>exact hb wh aa s1 σ H1 Q I1 q1
theorem gH(ha:PT X a tA):PT X (.UnaryOp .Not a pos) (tNot tA):=by intro aa s σ H Q I h;exact isTrue_not (ha aa s σ H (λc H1=>Q (!c) H1) I h)
def gJ(ta tb:TE):TE:=λσ H Q=>ta σ H λx H1=>∃c,x=.bl c/\if c=true then tb σ H1 Q else Q (.bl false) H1
theorem mL{op}{t:TE}(h:PE X a t):PE X (.BoolOp op [a] pos) t:=λaa s σ H Q I hw=>BoolOp_one (h aa s σ H Q I hw)
theorem fY(ha:PE X a ta)(hb:PE X (.BoolOp .And (b::rest) pos) tb):PE X (.BoolOp .And (a::b::rest) pos) (gJ ta tb):=by
 intro aa s σ H Q I h;refine BoolOp_and (ZD (ha aa s σ H _ I h) λv s1 ⟨x,H1,I1,r1,q1⟩=>?_);obtain⟨c,rfl,q1⟩:=q1;cases r1;refine Fa ?_;cases c with
 |true=>exact hb aa s1 σ H1 Q I1 q1
 |false=>exact⟨.bl false,H1,I1,rfl,q1⟩
def tIf(t:TT)(ta tb:TE):TE:=λσ H Q=>t σ H λc H1=>if c=true then ta σ H1 Q else tb σ H1 Q
theorem Zb{c:Ut}(hc:PT X c tA)(ha:PE X a ta)(hb:PE X b tb):PE X (.IfExp c a b pos) (tIf tA ta tb):=by
 intro aa s σ H Q I h;refine wpAny_IfExp (ZD (hc aa s σ H _ I h) λd s1 ⟨H1,I1,q1⟩=>?_);cases d with
 |true=>exact ha aa s1 σ H1 Q I1 q1
 |false=>exact hb aa s1 σ H1 Q I1 q1
end
def X6(K:Ai)(H:Hp)(a:Um)(xs:List V):Prop:=
 Rd H a (.lst xs)∨
  ∃(o:Uy) (its:Array Ul) (n:Nat),K.lookup a=some o/\o.cls=.type "list" /\o.dict=none/\o.data=.seq its n/\its.size<=sizeLine/\bE xs its.toList
def WF(K:Ai)(H:Hp)(a:Um)(xs:List V):Prop:=
 Rd H a (.tup xs)∨
  ∃(o:Uy) (its:Array Ul) (n:Nat),K.lookup a=some o/\o.cls=.type "tuple" /\o.data=.seq its n/\its.size<=sizeLine/\bE xs its.toList
noncomputable def absV:Ul->Option V
 |.none=>some .non
 |.bool b=>some (.bl b)
 |.int i _=>some (.int i)
 |.str x _=>some (.str x)
 |.bytes b _=>some (.byt b)
 |.float b _=>some (.flt b)
 |.ref a=>some (.ref a)
 |.type n=>some (.ty n)
 |_=>none
theorem bS.abs{x:V}{u:Ul}(r:bS x u):absV u=some x:=by
 cases x with
 |non=>cases r;rfl
 |bl _=>cases r;rfl
 |int _=>obtain⟨t,rfl⟩:=r;rfl
 |str _=>obtain⟨t,rfl⟩:=r;rfl
 |byt _=>obtain⟨t,rfl⟩:=r;rfl
 |flt _=>obtain⟨t,rfl⟩:=r;rfl
 |ref _=>cases r;rfl
 |ty _=>cases r;rfl
theorem bS.inj{x y:V}{u:Ul}(r:bS x u)(q:bS y u):x=y:=Bv (r.abs.symm.trans q.abs)
theorem bE.inj:∀{xs ys:List V} {us:List Ul},bE xs us->bE ys us->xs=ys
 |_,_,_,.nil,.nil=>rfl
 |_,_,_,.cons r t,.cons r' t'=>by rw[r.inj r',bE.inj t t']
section
variable{X:Cx}{aa:List (Um×Uy)}{σ:St}{H:Hp}{s:Ad}{a:Um}{xs ys:List V}
theorem X6.of{K:Ai}(h:H a=some (.lst xs)):X6 K H a xs:=.inl (.inl h)
theorem WF.of{K:Ai}(h:H a=some (.tup xs)):WF K H a xs:=.inl (.inl h)
theorem b9.list(I:b9 X aa σ H s)(h:X6 X.K H a xs):∃its:List Ul,bE xs its/\PlainL s.heap a its.toArray/\xs.length<=sizeLine:=by
 rcases h with h|⟨o,its,n,hk,hc,hd,hs,hz,r⟩
 ·obtain⟨z,its,n,r,e⟩:=h.ok I.hok
  exact⟨its,r,⟨_,n,e,rfl,rfl,rfl⟩,z⟩
 ·refine ⟨its.toList,r,⟨o,n,I.kIn a o hk,hc,hd,by simpa using hs⟩,?_⟩
  have e:=r.length;simp only[Ge] at e;lia
theorem b9.tuple(I:b9 X aa σ H s)(h:WF X.K H a xs):∃its:List Ul,bE xs its/\IsTup s.heap a its.toArray/\xs.length<=sizeLine:=by
 rcases h with h|⟨o,its,n,hk,hc,hs,hz,r⟩
 ·obtain⟨z,its,r,p⟩:=h.ok I.hok
  exact⟨its,r,p,z⟩
 ·refine ⟨its.toList,r,⟨o,I.kIn a o hk,hc,n,by simpa using hs⟩,?_⟩
  have e:=r.length;simp only[Ge] at e;lia
theorem b9.list_inj(I:b9 X aa σ H s)(h:X6 X.K H a xs)(h':X6 X.K H a ys):xs=ys:=by
 obtain⟨its,r,⟨o,n,e,_,_,d⟩,_⟩:=I.list h;obtain⟨its',r',⟨o',n',e',_,_,d'⟩,_⟩:=I.list h';rw[e] at e';cases e';rw[d] at d';injection d' with d1 _;have:its=its':=by simpa using congrArg Tt d1
 subst this;exact r.inj r'
theorem b9.tuple_inj(I:b9 X aa σ H s)(h:WF X.K H a xs)(h':WF X.K H a ys):xs=ys:=by
 obtain⟨its,r,⟨o,e,_,n,d⟩,_⟩:=I.tuple h;obtain⟨its',r',⟨o',e',_,n',d'⟩,_⟩:=I.tuple h';rw[e] at e';cases e';rw[d] at d';injection d' with d1 _;have:its=its':=by simpa using congrArg Tt d1
 subst this;exact r.inj r'
end
abbrev Cx.wish(X:Cx)(E:Ul->Ad->Prop):Cx:={X with xe:=E}
abbrev Cx.nox(X:Cx):Cx:=X.wish λ_ _=>False
theorem Cx.Ok.wish{X:Cx}(ok:X.Ok)(E:Ul->Ad->Prop):(X.wish E).Ok:=
 ⟨ok.mod,ok.kind,ok.glob,ok.blt,ok.above,ok.inj,ok.has,ok.cab,ok.hd,ok.frames,ok.stk,ok.exf,ok.bs,ok.bsz,ok.noex,ok.exfs,ok.funs,ok.frf⟩
theorem Cx.Ok.unwish{X:Cx}{E:Ul->Ad->Prop}(ok:(X.wish E).Ok):X.Ok:=
 ⟨ok.mod,ok.kind,ok.glob,ok.blt,ok.above,ok.inj,ok.has,ok.cab,ok.hd,ok.frames,ok.stk,ok.exf,ok.bs,ok.bsz,ok.noex,ok.exfs,ok.funs,ok.frf⟩
section
variable{X:Cx}{aa:List (Um×Uy)}{σ:St}{H:Hp}{s:Ad}{E:Ul->Ad->Prop}
theorem b9.wish(I:b9 X aa σ H s)(E:Ul->Ad->Prop):b9 (X.wish E) aa σ H s:=⟨I.ok.wish E,I.os,I.bare,I.base,I.loc,I.cell,I.free,I.freeC,I.pin,I.hok,I.len⟩
theorem b9.unwish(I:b9 (X.wish E) aa σ H s):b9 X aa σ H s:=⟨I.ok.unwish,I.os,I.bare,I.base,I.loc,I.cell,I.free,I.freeC,I.pin,I.hok,I.len⟩
theorem SP.unwish{D:M3}{f:Flow}{s':Ad}(h:SP (X.wish E) aa D f s'):SP X aa D f s':=by
 cases f with
 |next=>obtain⟨σ',H',I,q⟩:=h;exact⟨σ',H',I.unwish,q⟩
 |brk=>obtain⟨σ',H',I,q⟩:=h;exact⟨σ',H',I.unwish,q⟩
 |cont=>obtain⟨σ',H',I,q⟩:=h;exact⟨σ',H',I.unwish,q⟩
 |ret u=>obtain⟨v,σ',H',I,r,q⟩:=h;exact⟨v,σ',H',I.unwish,r,q⟩
theorem WZ.nox{st:List Ux}{t:TS}(h:WZ X.nox st t):WZ X st t:=λaa s σ H D I hw=>
 Bj (h aa s σ H D (I.wish _) hw) (λ_ _ q=>q.unwish) λ_ _ z=>Gu z
end
section
variable{X:Cx}{st:Ux}{rest:List Ux}{t u:TS}{e:Ut}{te:TE}{pos:Pos}
def nS:TS:=λD σ H=>D.nx σ H
def tSeq(t u:TS):TS:=λD σ H=>t {D with nx:=u D} σ H
theorem EO:WZ X [] nS:=λ_ _ σ H _ I h=>Hu ⟨σ,H,I,h⟩
theorem RU(h1:PS X st t)(h2:WZ X rest u):WZ X (st::rest) (tSeq t u):=by
 intro aa s σ H D I h;refine Ma (ZD (h1 aa s σ H {D with nx:=u D} I h) λf s1 q=>?_);cases f with
 |next=>
  obtain⟨σ',H',I',q⟩:=q;exact h2 aa s1 σ' H' D I' q
 |ret v=>exact q
 |brk=>exact q
 |cont=>exact q
theorem b9.quiet{aa:List (Um×Uy)}{σ:St}{H:Hp}{s:Ad}(I:b9 X aa σ H s):Rn X.env=false:=by simp[Rn,I.ok.kind]
def jT(te:TE):TS:=λD σ H=>te σ H λ_ H1=>D.nx σ H1
theorem lB(he:PE X e te)(hs:Vb e none pos.line X.env=pure false:=by rfl):PS X (.Expr e pos) (jT te):=by intro aa s σ H D I h;exact wpAny_Expr_any (ZD (he aa s σ H _ I h) λv s1 ⟨x,H1,I1,r1,q1⟩=>⟨σ,H1,I1,q1⟩) I.quiet hs
def tRet(te:TE):TS:=λD σ H=>te σ H D.rt
theorem GG(he:PE X e te):PS X (.Return (some e) pos) (tRet te):=by intro aa s σ H D I h;exact wpAny_Return_some (ZD (he aa s σ H _ I h) λv s1 ⟨x,H1,I1,r1,q1⟩=>⟨x,σ,H1,I1,r1,q1⟩)
def tIfS(c:TT)(t u:TS):TS:=λD σ H=>c σ H λb H1=>if b=true then t D σ H1 else u D σ H1
theorem We{c:Ut}{a b:List Ux}{tc:TT}(hc:PT X c tc)(ha:WZ X a t)(hb:WZ X b u):PS X (.If c a b pos) (tIfS tc t u):=by
 intro aa s σ H D I h;refine wpAny_If (ZD (hc aa s σ H _ I h) λd s1 ⟨H1,I1,q1⟩=>?_);cases d with
 |true=>exact ha aa s1 σ H1 D I1 q1
 |false=>exact hb aa s1 σ H1 D I1 q1
def iS:TS:=λ_ _ _=>False
theorem C2{sts:List Ux}:WZ X sts iS:=λ_ _ _ _ _ _ h=>h.elim
end
abbrev TG:=V->St->Hp->(St->Hp->Prop)->Prop
abbrev BR:=List V->St->Hp->(St->Hp->Prop)->Prop
def PG(X:Cx)(c9:Ut)(t:TG):Prop:=
 ∀(aa:List (Um×Uy)) (s:Ad) (σ:St) (H:Hp) (v:V) (u:Ul) (Q:St->Hp->Prop),b9 X aa σ H s->bS v u->t v σ H Q->
  Uq (Ur X.prog X.w) X.A (Hv c9 X.env u) (λ_ s'=>∃σ' H',b9 X aa σ' H' s'/\Q σ' H') X.xe s
def DR(X:Cx)(ts:List Ut)(t:BR):Prop:=
 ∀(aa:List (Um×Uy)) (s:Ad) (σ:St) (H:Hp) (vs:List V) (us:List Ul) (Q:St->Hp->Prop),b9 X aa σ H s->bE vs us->t vs σ H Q->
  Uq (Ur X.prog X.w) X.A (Ve ((Uv ts X.env).map (·.2)) us) (λ_ s'=>∃σ' H',b9 X aa σ' H' s'/\Q σ' H') X.xe s
section
variable{X:Cx}{pos:Pos}
def D1(i:Nat):TG:=λv σ H Q=>Q (σ.set i (some v)) H
theorem PQ{i:Nat}{x:Us}(hN:X.N.Nodup)(hi:X.N[i]?=some x)(hx:BO X.env.scope x)(hf:X.fn x=true∨X.env.scope.names.lookup x=some .local:=by first|exact .inl rfl|exact .inr rfl|assumption):PG X (.Name x pos) (D1 i):=by intro aa s σ H v u Q I r h;exact Ip (YY I hN hi hx r (λs' I'=>⟨_,H,I',h⟩) hf)
def gNil:BR:=λvs σ H Q=>vs=[]/\Q σ H
def jV(t:TG)(u:BR):BR:=λvs σ H Q=>∃v r,vs=v::r/\t v σ H λσ' H'=>u r σ' H' Q
theorem EK:DR X [] gNil:=by intro aa s σ H vs us Q I r h;obtain⟨e,h⟩:=h;subst e;cases r;exact Iq ⟨σ,H,I,h⟩
theorem RS{e:Ut}{es:List Ut}{t:TG}{u:BR}(h1:PG X e t)(h2:DR X es u)(hs:(Uv (e::es) X.env).map (·.2)=Hv e X.env::(Uv es X.env).map (·.2):=by rfl):DR X (e::es) (jV t u):=by
 intro aa s σ H vs us Q I r h;obtain⟨v,vr,e1,h⟩:=h;subst e1;cases r with
 |cons r rr=>
  rw[hs];refine Ed (ZD (h1 aa s σ H _ _ _ I r h) λ_ s1 ⟨σ1,H1,I1,q1⟩=>?_);exact h2 aa s1 σ1 H1 _ _ Q I1 rr q1
def gTup(K:Ai)(n:Nat)(t:BR):TG:=λv σ H Q=>∃a xs,v=.ref a/\WF K H a xs/\xs.length=n/\t xs σ H Q
theorem mC{es:List Ut}{k:Nat}{t:BR}{n:Nat}(hc:X.calm=true)(h:DR X es t)(hn:(Uv es X.env).length=n:=by rfl)(hst:(Uv es X.env).findIdx? (·.1)=none:=by rfl):PG X (.Tuple es k pos) (gTup X.K n t):=by intro aa s σ H v u Q I r hw;obtain⟨a,xs,e1,hq,hl,hw⟩:=hw;subst e1;cases r;obtain⟨its,rv,ht,hz⟩:=I.tuple hq;refine assign_Tuple_tuple (I.ok.hd hc) ht (by simp[hn,<-hl,rv.length]) hst λh' hx=>?_;have I1:b9 X aa σ H {s with heap:=h'}:=I.kept (t':=s.toks) λb o e=>hx b o (Au (Aj e)) e;exact h aa _ σ H xs _ Q I1 (by simpa using rv) hw
def tAsg(te:TE)(g:TG):TS:=λD σ H=>te σ H λx H1=>g x σ H1 D.nx
theorem GF{tg e:Ut}{te:TE}{g:TG}(he:PE X e te)(hg:PG X tg g)(hs:Gf [tg] e pos.line X.env=pure false:=by rfl)(hw:Gg [tg] e X.env=pure none:=by rfl)(h1:(Uv [tg] X.env).map (·.2)=[Hv tg X.env]:=by rfl):PS X (.Assign [tg] e pos) (tAsg te g):=by intro aa s σ H D I h;refine wpAny_Assign_stores (ZD (he aa s σ H _ I h) λv s1 ⟨x,H1,I1,r1,q1⟩=>?_) hs hw;rw[h1];exact ZD (hg aa s1 σ H1 x v _ I1 r1 q1) λ_ s2 q=>q
theorem nX{i:Nat}{x:Us}{e:Ut}{te:TE}{ci:Pos}(hN:X.N.Nodup)(hi:X.N[i]?=some x)(hx:BO X.env.scope x)(he:PE X e te)(hs:Vb e (some (.Name x ci)) pos.line X.env=pure false:=by rfl)(hf:X.fn x=true∨X.env.scope.names.lookup x=some .local:=by first|exact .inl rfl|exact .inr rfl|assumption):PS X (.Assign [.Name x ci] e pos) (tAsg te (D1 i)):=by intro aa s σ H D I h;refine wpAny_Assign_Name (ZD (he aa s σ H _ I h) λv s1 ⟨y,H1,I1,r1,q1⟩=>?_) hs;exact YY I1 hN hi hx r1 (λs2 I2=>⟨_,H1,I2,q1⟩) hf
def tPar(i j:Nat)(ta:TA):TS:=λD σ H=>ta σ H λvs H1=>∃v w,vs=[v,w]/\D.nx ((σ.set i (some v)).set j (some w)) H1
theorem dZ{i j:Nat}{x y:Us}{a b:Ut}{ta:TA}{px py pt:Pos}{kt k2 pt2}(hc:X.calm=true)(hN:X.N.Nodup)(hi:X.N[i]?=some x)(hj:X.N[j]?=some y)(hij:i≠j)(hx:X.env.scope.names.lookup x=some .local)(hy:X.env.scope.names.lookup y=some .local)(ha:PA X [a,b] ta)(hw:Gg [.Tuple [.Name x px,.Name y py] kt pt] (.Tuple [a,b] k2 pt2) X.env=pure (some [x,y]))(hs:Gf [.Tuple [.Name x px,.Name y py] kt pt] (.Tuple [a,b] k2 pt2) pos.line X.env=pure false:=by rfl):PS X (.Assign [.Tuple [.Name x px,.Name y py] kt pt] (.Tuple [a,b] k2 pt2) pos) (tPar i j ta):=by
 intro aa s σ H D I h;rw[exec_Assign_arm];refine Aa (Fm ?_);rw[hs];refine Aa (Ah ?_);rw[if_neg (by decide)];refine Aa (Tuple_ (ZD (ha _ aa s σ H _ I h) λus s1 ⟨vs,H1,I1,r1,q1⟩=>?_));obtain⟨v,w,e1,q1⟩:=q1;subst e1;obtain⟨u1,u2,rfl,rv,rw'⟩:∃u1 u2,us=[u1,u2]/\bS v u1/\bS w u2:=by
  cases r1 with
  |cons p q=>
   cases q with
   |cons p' q'=>
    cases q';exact⟨_,_,rfl,p,p'⟩
 refine Df ?_ (by show 2<=sizeLine;decide);have I2:b9 X aa σ H1 {s1 with heap:=s1.heap.push {cls:=.type "tuple",data:=.seq [u1,u2].toArray}}:=I1.kept (t':=s1.toks) λb o e=>Ac _ e;rw[hw];refine Aa (Ah ?_);show Uq (Ur X.prog X.w) X.A (do rule "assign.swapped-stores";let items<-Jz (.ref s1.heap.objs.size) 2 none;Ve [λv=>Je X.env y v,λv=>Je X.env x v] items.reverse;pure Flow.next) _ _ _;refine Aa (Ir (Aa (Pn (items:= #[u1,u2]) (I.ok.hd hc) (Ka s1.heap _) λh' hx'=>?_)));have I3:=I2.kept (h':=h') (t':=s1.toks) λb o e=>hx' b o (Au (Aj e)) e;show Uq _ _ (Ve [λv=>Je X.env y v,λv=>Je X.env x v] [u2,u1]>>=λ_=>pure Flow.next) _ _ _;refine Aa (Ed (Jf (YY I3 hN hj (.inl hy) rw' (λs2 I4=>?_) (.inr hy))));refine Ed (Jf (YY I4 hN hi (.inl hx) rv (λs3 I5=>Iq (Ah ?_)) (.inr hx)));rw[Eo _ _ (Dm hij)] at I5;exact⟨_,H1,I5,q1⟩
end
section
variable{X:Cx}{pos:Pos}
def jC(c:TT)(tb:TS):TS:=λD σ H=>∃W:Nat->St->Hp->Prop,(∃m,W m σ H)/\∀m σ H,W m σ H->
 c σ H λb H1=>if b=true then∃N:St->Hp->Prop,(∀σ' H',N σ' H'->∃m',m'<m/\W m' σ' H')/\tb {D with nx:=N,ct:=N,bk:=D.nx} σ H1 else D.nx σ H1
theorem eE{c:Ut}{body:List Ux}{tc:TT}{tb:TS}(hp:Ro (Ur X.prog X.w) X.A X.env X.xe)(hc:PT X c tc)(hb:WZ X body tb):PS X (.While c body [] pos) (jC tc tb):=by
 intro aa s σ H D I h;obtain⟨W,⟨m0,w0⟩,turn⟩:=h;refine wpAny_While (codeAny_whileLoop (λn s'=>∃σ' H',b9 X aa σ' H' s'/\W n σ' H') ?_ m0 ⟨σ,H,I,w0⟩);rintro n s1 ⟨σ1,H1,I1,w1⟩;refine Fz hp (ZD (hc aa s1 σ1 H1 _ I1 (turn n σ1 H1 w1)) λb s2 ⟨H2,I2,q2⟩=>?_);cases b with
 |true=>
  obtain⟨N,hN,q2⟩:=q2;rw[if_pos rfl];refine Fz hp (ZD (hb aa s2 σ1 H2 _ I2 q2) λf s3 q3=>?_);cases f with
  |next=>
   obtain⟨σ3,H3,I3,n3⟩:=q3;obtain⟨m',hm,w3⟩:=hN σ3 H3 n3;exact⟨m',hm,σ3,H3,I3,w3⟩
  |cont=>
   obtain⟨σ3,H3,I3,n3⟩:=q3;obtain⟨m',hm,w3⟩:=hN σ3 H3 n3;exact⟨m',hm,σ3,H3,I3,w3⟩
  |brk=>exact q3
  |ret v=>exact q3
 |false=>
  rw[if_neg Dr];exact Hu ⟨σ1,H2,I2,q2⟩
end
structure It where
 go:Nat->Hp->Prop
 yld:Nat->Hp->V->Hp->Prop
 stop:Nat->Hp->Prop
def M4(X:Cx)(aa:List (Um×Uy))(H:Hp)(b:Um):Prop:=
 H b=none/\b≠X.env.locals/\b∉X.fs/\(b∈X.ex∨X.s₀.heap.objs.size<=b)/\(∀x c,X.env.cells.lookup x=some c->c≠b)/\∀p∈X.pn++aa,p.1≠b
theorem b9.fpOk{X:Cx}{aa:List (Um×Uy)}{σ:St}{H H':Hp}{s:Ad}{b:Um}(I:b9 X aa σ H s)(hb:s.heap.objs.size<=b)(hn:H' b=none):M4 X aa H' b:=by
 refine⟨hn,Hk (Av I.lt hb),I.nofs hb,.inr (Dz I.sz hb),λx c e z=>?_,λp hp z=>?_⟩
 ·obtain⟨v,q⟩:=I.cell x c e
  exact absurd (Av q.lt (by rw[z];exact hb)) (Cb _)
 ·exact absurd (Av (Aj (I.pin p hp).1) (by rw[z];exact hb)) (Cb _)
structure FL(P:As)(w:Uu)(K:Ai)(tg:Ut)(J:It)(fp:List Um)(it:Um)(tn:Nat->Uw->Prop):Prop where
 mem:it∈fp
 obj:∀i h,tn i h->∀b∈fp,∃o,h.get? b=some o/\∀v,o.data≠ .cell v
 keep:∀i h h',tn i h->(∀b∈fp,∀o,h.get? b=some o->h'.get? b=some o)->tn i h'
 item:∀(X:Cx),X.prog=P->X.w=w->X.K=K->X.calm=true->∀(i:Nat) (aa:List (Um×Uy)) (s:Ad) (σ:St) (H:Hp) (E:Ul->Ad->Prop),b9 X aa σ H s->(∀b∈fp,M4 X aa H b)->tn i s.heap->J.go i H->
  Uq (Ur P w) X.A (pyNext (.ref it)) (λr s1=>∃u,r=some u∧
   Uq (Ur P w) X.A (Kb tg (.ref it) u) (λ_ s2=>∃x H',b9 X aa σ H' s2/\bS x u/\J.yld i H x H'/\tn (i+1) s2.heap/\∀b∈fp,H' b=none) E s1) E s
 done:∀(X:Cx),X.prog=P->X.w=w->X.K=K->X.calm=true->∀(i:Nat) (aa:List (Um×Uy)) (s:Ad) (σ:St) (H:Hp) (E:Ul->Ad->Prop),b9 X aa σ H s->(∀b∈fp,M4 X aa H b)->tn i s.heap->J.stop i H->
  Uq (Ur P w) X.A (pyNext (.ref it)) (λr s1=>r=none/\b9 X aa σ H s1) E s
 self:∀(A:Bt) (i:Nat) (s:Ad) (Q:Ul->Ad->Prop) (E:Ul->Ad->Prop),tn i s.heap->Q (.ref it) s->Uq (Ur P w) A (pyIter (.ref it)) Q E s
abbrev TI:=St->Hp->(It->Hp->Prop)->Prop
def PIE(X:Cx)(aa:List (Um×Uy))(σ:St)(tg:Ut)(R:It->Hp->Prop)(itv:Ul)(s2:Ad):Prop:=
 ∃(it:Um) (fp:List Um) (tn:Nat->Uw->Prop) (J:It) (H':Hp),itv=.ref it/\b9 X aa σ H' s2/\FL X.prog X.w X.K tg J fp it tn/\tn 0 s2.heap/\(∀b∈fp,M4 X aa H' b)/\R J H'
def PI(X:Cx)(tg iter:Ut)(wi:TI):Prop:=
 ∀(aa:List (Um×Uy)) (s:Ad) (σ:St) (H:Hp) (R:It->Hp->Prop),b9 X aa σ H s->wi σ H R->
  Uq (Ur X.prog X.w) X.A (eval iter X.env) (λv s1=>Uq (Ur X.prog X.w) X.A (pyIter v) (PIE X aa σ tg R) X.xe s1) X.xe s
theorem Vl{M:Vi}{A:Bt}{E:Ul->Ad->Prop}{s:Ad}{tg:Ut}{it:Um}{u:Ul}{o:Uy}{n:String}{vs:Array Ul}{Q:Unit->Ad->Prop}(ho:s.heap.get? it=some o)(hc:o.cls= .type n)(hd:o.data= .fields vs)(hn:["enumerate","zip","dict_itemiterator","dict_reverseitemiterator","odict_iterator","itertools.zip_longest","itertools.pairwise"].contains n=false)(hQ:Q () s):Uq M A (Kb tg (.ref it) u) Q E s:=by
  unfold Kb;cases tg<;>first
    |exact Ah hQ
    |(cases u<;>first
        |exact Ah hQ
        | (refine Aa (wpAny_load ho ?_)
           rw[hc,hd];show Uq M A (if(["enumerate","zip","dict_itemiterator","dict_reverseitemiterator","odict_iterator","itertools.zip_longest","itertools.pairwise"].contains n&&vs[0]? ==some (rawInt _))=true then _ else _) Q E s;rw[if_neg (by intro h;rw[hn,Bool.false_and] at h;cases h)];exact Ah hQ))
def Itl(K:Ai)(a:Um):It:=
 ⟨λi H=>∃xs x,X6 K H a xs/\xs[i]?=some x,λi H x H'=>H'=H/\∀xs,X6 K H a xs->xs[i]?=some x,λi H=>∃xs,X6 K H a xs/\xs.length<=i⟩
def Itt(K:Ai)(a:Um):It:=
 ⟨λi H=>∃xs x,WF K H a xs/\xs[i]?=some x,λi H x H'=>H'=H/\∀xs,WF K H a xs->xs[i]?=some x,λi H=>∃xs,WF K H a xs/\xs.length<=i⟩
def Itr(lo:Int)(n:Nat):It:=⟨λi _=>i<n,λi H x H'=>H'=H/\x=.int (lo+i),λi _=>n<=i⟩
theorem DE{P:As}{w:Uu}{K:Ai}{tg:Ut}(a it:Um):FL P w K tg (Itl K a) [it] it (λi h=>h.IsListIter it a i) where
 mem:=by simp
 obj:=λi h st b hb=>by
  have e:b=it:=by simpa using hb
  subst e;obtain⟨o,e,c,d⟩:=st;exact⟨o,e,λv z=>by rw[d] at z;cases z⟩
 keep:=λi h h' st k=>st.at λo e=>k it (by simp) o e
 item:=by intro X hP hw hK hc i aa s σ H E I hf st hg;subst hP hw hK;obtain⟨xs,x,hq,hx⟩:=hg;obtain⟨its,rv,p,hz⟩:=I.list hq;obtain⟨u,hu,ru⟩:=rv.get hx;obtain⟨f0,f1,f2,f3,f4,f5⟩:=hf it (by simp);refine Mg st p.isList (x:=u) (by simpa using hu) λh' st' sb=>?_;have I1:b9 X aa σ H {s with heap:=h'}:=I.turned (t':=s.toks) (λb o hb e=>(sb.2 b hb).trans e) f0 f1 f3 f4 f5;obtain⟨o,e,c,d⟩:=id st';exact⟨u,rfl,Vl (s:={s with heap:=h'}) e c d (by decide) ⟨x,H,I1,ru,⟨rfl,λys hy=>by rw[I.list_inj hy hq];exact hx⟩,st',λb hb=>(hf b hb).1⟩⟩
 done:=by intro X hP hw hK hc i aa s σ H E I hf st hg;subst hP hw hK;obtain⟨xs,hq,hx⟩:=hg;obtain⟨its,rv,p,hz⟩:=I.list hq;obtain⟨f0,f1,f2,f3,f4,f5⟩:=hf it (by simp);have hl:=rv.length;exact Mo (I.ok.hd hc) st p.isList (by simp;lia) λh' eb=>⟨rfl,I.turned (t':=s.toks) (λb o hb e=>eb b o hb e) f0 f1 f3 f4 f5⟩
 self:=λ_ _ _ _ _ st h=>wpAny_pyIter_listiter st h
theorem GW{P:As}{w:Uu}{K:Ai}{tg:Ut}(a it:Um):FL P w K tg (Itt K a) [it] it (λi h=>h.IsTupleIter it a i) where
 mem:=by simp
 obj:=λi h st b hb=>by
  have e:b=it:=by simpa using hb
  subst e;obtain⟨o,e,c,d⟩:=st;exact⟨o,e,λv z=>by rw[d] at z;cases z⟩
 keep:=λi h h' st k=>st.at λo e=>k it (by simp) o e
 item:=by intro X hP hw hK hc i aa s σ H E I hf st hg;subst hP hw hK;obtain⟨xs,x,hq,hx⟩:=hg;obtain⟨its,rv,p,hz⟩:=I.tuple hq;obtain⟨u,hu,ru⟩:=rv.get hx;obtain⟨f0,f1,f2,f3,f4,f5⟩:=hf it (by simp);refine wpAny_pyNext_tuple_item st (show s.heap.IsTuple a its.toArray from p) (x:=u) (by simpa using hu) λh' st' sb=>?_;have I1:b9 X aa σ H {s with heap:=h'}:=I.turned (t':=s.toks) (λb o hb e=>(sb.2 b hb).trans e) f0 f1 f3 f4 f5;obtain⟨o,e,c,d⟩:=id st';exact⟨u,rfl,Vl (s:={s with heap:=h'}) e c d (by decide) ⟨x,H,I1,ru,⟨rfl,λys hy=>by rw[I.tuple_inj hy hq];exact hx⟩,st',λb hb=>(hf b hb).1⟩⟩
 done:=by intro X hP hw hK hc i aa s σ H E I hf st hg;subst hP hw hK;obtain⟨xs,hq,hx⟩:=hg;obtain⟨its,rv,p,hz⟩:=I.tuple hq;obtain⟨f0,f1,f2,f3,f4,f5⟩:=hf it (by simp);have hl:=rv.length;exact wpAny_pyNext_tuple_end (I.ok.hd hc) st (show s.heap.IsTuple a its.toArray from p) (by simp;lia) λh' eb=>⟨rfl,I.turned (t':=s.toks) (λb o hb e=>eb b o hb e) f0 f1 f3 f4 f5⟩
 self:=λ_ _ _ _ _ st h=>wpAny_pyIter_tupleiter st h
theorem GV{P:As}{w:Uu}{K:PySem.W.Frag}{tg:Ut}(it:Um)(lo:Int)(n:Nat):FL P w K tg (Itr lo n) [it] it (λi h=>IsRangeIter h it (lo+(i:Nat)*1) ((n:Int) - (i:Nat)) 1) where
 mem:=by simp
 obj:=λi h st b hb=>by
  have e:b=it:=by simpa using hb
  subst e;exact⟨_,st,λv z=>by have z':Data.fields _=Data.cell v:=z;cases z'⟩
 keep:=λi h h' st k=>k it (by simp) _ st
 item:=by intro X hP hw hK hc i aa s σ H E I hf st hg;subst hP hw hK;obtain⟨f0,f1,f2,f3,f4,f5⟩:=hf it (by simp);have W:=Walks.range (prog:=X.prog) (w:=X.w) (I.ok.hd hc) it lo 1 n;refine W.item i s _ _ hg st λv h' tk hv st' kk=>?_;obtain⟨t,rfl⟩:=hv;have I1:b9 X aa σ H {s with heap:=h',toks:=tk}:=I.turned (λb o hb e=>kk b o (by simpa using hb) e) f0 f1 f3 f4 f5;refine⟨_,rfl,Vl (s:={s with heap:=h',toks:=tk}) (n:= "range_iterator") st' rfl rfl (by decide) ⟨.int (lo+i),H,I1,⟨t,?_⟩,⟨rfl,rfl⟩,st',λb hb=>(hf b hb).1⟩⟩;rw[Int.mul_one]
 done:=by intro X hP hw hK hc i aa s σ H E I hf st hg;subst hP hw hK;obtain⟨f0,f1,f2,f3,f4,f5⟩:=hf it (by simp);exact wpAny_pyNext_range_end (I.ok.hd hc) st (by have:n<=i:=hg;lia) λh' eb=>⟨rfl,I.turned (t':=s.toks) (λb o hb e=>eb b o hb e) f0 f1 f3 f4 f5⟩
 self:=λ_ _ _ _ _ st h=>wpAny_pyIter_rangeiter st h
section
variable{X:Cx}{tg:Ut}
def Yg(K:Ai)(tl:TE):TI:=λσ H R=>tl σ H λx H1=>∃a,x=.ref a/\(∃xs,X6 K H1 a xs)/\R (Itl K a) H1
def iTup(K:Ai)(tl:TE):TI:=λσ H R=>tl σ H λx H1=>∃a,x=.ref a/\(∃xs,WF K H1 a xs)/\R (Itt K a) H1
theorem Yx{l:Ut}{tl:TE}(hl:PE X l tl):PI X tg l (Yg X.K tl):=by
 intro aa s σ H R I h;refine ZD (hl aa s σ H _ I h) λv s1 ⟨x,H1,I1,r1,q1⟩=>?_;obtain⟨a,e,⟨xs,hq⟩,q⟩:=q1;subst e;cases r1;obtain⟨its,rv,p,hz⟩:=I1.list hq;refine Gv p.isList ?_;refine⟨s1.heap.objs.size,[s1.heap.objs.size],_,_,H1,rfl,I1.kept (t':=s1.toks) λb o e=>Ac _ e,DE a _,⟨_,Aq _ rfl,rfl,rfl⟩,λb hb=>?_,q⟩;have e:b=s1.heap.objs.size:=by simpa using hb
 subst e;exact I1.fpOk (Ap _) (I1.hok.fresh (Ap _))
theorem Zv{l:Ut}{tl:TE}(hl:PE X l tl):PI X tg l (iTup X.K tl):=by
 intro aa s σ H R I h;refine ZD (hl aa s σ H _ I h) λv s1 ⟨x,H1,I1,r1,q1⟩=>?_;obtain⟨a,e,⟨xs,hq⟩,q⟩:=q1;subst e;cases r1;obtain⟨its,rv,p,hz⟩:=I1.tuple hq;refine Hw (show s1.heap.IsTuple a its.toArray from p) ?_;refine⟨s1.heap.objs.size,[s1.heap.objs.size],_,_,H1,rfl,I1.kept (t':=s1.toks) λb o e=>Ac _ e,GW a _,⟨_,Aq _ rfl,rfl,rfl⟩,λb hb=>?_,q⟩;have e:b=s1.heap.objs.size:=by simpa using hb
 subst e;exact I1.fpOk (Ap _) (I1.hok.fresh (Ap _))
theorem IK{aa:List (Um×Uy)}{σ:St}{H:Hp}{s:Ad}{R:It->Hp->Prop}{E:Ul->Ad->Prop}{lo hi:Int}{t u v:Vh}{tk:Nat}(I:b9 X aa σ H s)(h1: -(2 ^ 62)<=lo)(h2:lo<2 ^ 62)(h3: -(2 ^ 62)<=hi)(h4:hi<2 ^ 62)(q:R (Itr lo (hi - lo).toNat) H):Uq (Ur X.prog X.w) X.A (pyIter (.ref s.heap.objs.size)) (PIE X aa σ tg R) E {s with heap:=s.heap.push {cls:=.type "range",data:=.fields #[.int lo t,.int hi u,.int 1 v]},toks:=tk}:=by
 refine wpAny_pyIter_range (Uf ..) (small_one h1 h2 h3 h4) ?_;have I1:b9 X aa σ H {s with heap:=s.heap.push {cls:=.type "range",data:=.fields #[.int lo t,.int hi u,.int 1 v]},toks:=tk}:=I.kept λb o e=>Ac _ e;refine⟨(s.heap.push {cls:=.type "range",data:=.fields #[.int lo t,.int hi u,.int 1 v]}).objs.size,[(s.heap.push {cls:=.type "range",data:=.fields #[.int lo t,.int hi u,.int 1 v]}).objs.size],_,_,H,rfl,I1.kept (t':=tk) λb o e=>Ac _ e,GV _ lo (hi - lo).toNat,?_,λb hb=>?_,q⟩
 ·have e1 : lo + ((0 : Nat) : Int) * 1 = lo := by simp
  have e2:(((hi - lo).toNat:Nat):Int) - ((0:Nat):Int)=Hx lo hi 1:=by rw[rangeSize_one];split<;>lia
  show IsRangeIter _ _ (lo+((0:Nat):Int)*1) ((((hi - lo).toNat:Nat):Int) - ((0:Nat):Int)) 1;rw[e1,e2];exact Aq _ rfl
 ·have e : b = (s.heap.push { cls := .type "range",data := .fields #[.int lo t,.int hi u,.int 1 v] }).objs.size := by simpa using hb
  subst e;exact I1.fpOk (Ap _) (I1.hok.fresh (Ap _))
def mP(ta:TA):TI:=λσ H R=>ta σ H λvs H1=>∃j:Int,vs=[.int j]/\ -(2 ^ 62)<=j/\j<2 ^ 62/\R (Itr 0 j.toNat) H1
def jQ(ta:TA):TI:=λσ H R=>ta σ H λvs H1=>∃i j:Int,vs=[.int i,.int j]/\(-(2 ^ 62)<=i/\i<2 ^ 62/\ -(2 ^ 62)<=j/\j<2 ^ 62)/\R (Itr i (j - i).toNat) H1
theorem CY{a:Ut}{ta:TA}{p pos:Pos}(hg:Gl X "range")(hm:X.mg "range"=none)(ha:PA X [a] ta)(hs:Uo [a] X.env=[(false,eval a X.env)]:=by rfl):PI X tg (.Call (.Name "range" p) [a] [] pos) (mP ta):=by
 intro aa s σ H R I h;refine Call_ (SM I hg hm boot_range (Ee (ZD (ha pos aa s σ H _ I h) λus s1 ⟨vs,H1,I1,r1,q1⟩=>?_) hs rfl));obtain⟨j,e,q1,q2,q⟩:=q1;subst e;cases r1 with
 |cons r rr=>
  cases rr;obtain⟨t,rfl⟩:=r;exact call_range_1 (IK I1 (by lia) (by lia) q1 q2 (by simpa using q))
theorem CZ{a b:Ut}{ta:TA}{p pos:Pos}(hg:Gl X "range")(hm:X.mg "range"=none)(ha:PA X [a,b] ta)(hs:Uo [a,b] X.env=[(false,eval a X.env),(false,eval b X.env)]:=by rfl)(hs2:Uo [b] X.env=[(false,eval b X.env)]:=by rfl):PI X tg (.Call (.Name "range" p) [a,b] [] pos) (jQ ta):=by
 intro aa s σ H R I h;refine Call_ (SM I hg hm boot_range (Ee (ZD (ha pos aa s σ H _ I h) λus s1 ⟨vs,H1,I1,r1,q1⟩=>?_) (by rw[hs,hs2]) (by rw[hs2];rfl)));obtain⟨i,j,e,⟨q1,q2,q3,q4⟩,q⟩:=q1;subst e;cases r1 with
 |cons r rr=>
  cases rr with
  |cons r' rr=>
   cases rr;obtain⟨t,rfl⟩:=r;obtain⟨t',rfl⟩:=r';exact call_range_2 (IK I1 q1 q2 q3 q4 q)
def tFor(wi:TI)(g:TG)(tb:TS):TS:=λD σ H=>wi σ H λJ H1=>∃W:Nat->Nat->St->Hp->Prop,(∃m,W 0 m σ H1)/\∀i m σ H,W i m σ H->
 (J.stop i H/\D.nx σ H)∨(J.go i H/\∃N:St->Hp->Prop,(∀σ' H',N σ' H'->∃m',m'<m/\W (i+1) m' σ' H')/\∀x H',J.yld i H x H'->g x σ H' λσ2 H2=>tb {D with nx:=N,ct:=N,bk:=D.nx} σ2 H2)
noncomputable def OF(fp:List Um)(h:Uw):List (Um×Uy):=fp.filterMap λb=>(h.get? b).map λo=>(b,o)
theorem VN{fp:List Um}{h:Uw}{b:Um}{o:Uy}(hb:b∈fp)(e:h.get? b=some o):(b,o)∈OF fp h:=Hy.mpr ⟨b,hb,by rw[e];rfl⟩
theorem CW{fp:List Um}{h:Uw}{p:Um×Uy}(hp:p∈OF fp h):p.1∈fp/\h.get? p.1=some p.2:=by
 obtain⟨b,hb,e⟩:=Hy.mp hp;cases q:h.get? b with
 |none=>rw[q] at e;cases e
 |some o=>
  rw[q] at e;have e':(b,o)=p:=Bv e;subst e';exact⟨hb,q⟩
theorem b9.pinned{aa:List (Um×Uy)}{σ:St}{H:Hp}{s:Ad}{fp:List Um}(I:b9 X aa σ H s)(hf:∀b∈fp,M4 X aa H b)(ho:∀b∈fp,∃o,s.heap.get? b=some o/\∀v,o.data≠ .cell v):b9 X (aa++OF fp s.heap) σ H s:=
 I.pins_of λp hp=>(Cq.mp hp).elim (λz=>I.pin p (Bp _ z)) λz=>by obtain⟨hb,e⟩:=CW z;obtain⟨f0,f1,f2,_⟩:=hf p.1 hb;obtain⟨o,e',d⟩:=ho p.1 hb;rw[e] at e';cases e';exact⟨e,f0,f1,f2,d⟩
theorem b9.unpinned{aa pl:List (Um×Uy)}{σ:St}{H:Hp}{s:Ad}(I:b9 X (aa++pl) σ H s):b9 X aa σ H s:=I.pins_of λp hp=>I.pin p (Bp _ (Bw _ hp))
theorem Yy{iter:Ut}{body:List Ux}{wi:TI}{g:TG}{tb:TS}{pos:Pos}(hp:Ro (Ur X.prog X.w) X.A X.env X.xe)(hc:X.calm=true)(hi:PI X tg iter wi)(hg:PG X tg g)(hb:WZ X body tb)(hs:∀x,Uz iter X.env x=pure x:=by intro _;rfl):PS X (.For tg iter body [] pos) (tFor wi g tb):=by
 intro aa s σ H D I h;refine wpAny_For (ZD (hi aa s σ H _ I h) λv s1 h1=>ZD h1 λitv s2 h2=>?_) hs;obtain⟨it,fp,tn,J,H2,e,I2,T,st2,f2,W,⟨m0,w0⟩,turn⟩:=h2;subst e;have stat:∀{H':Hp},(∀b∈fp,H' b=none)->∀b∈fp,M4 X aa H' b:=λhn b hb=>⟨hn b hb,(f2 b hb).2⟩;refine codeAny_forLoop_any (λn s'=>∃i σ' H',b9 X aa σ' H' s'/\tn i s'.heap/\(∀b∈fp,H' b=none)/\W i n σ' H') ?_ m0 ⟨0,σ,H2,I2,st2,λb hb=>(f2 b hb).1,w0⟩;rintro n s3 ⟨i,σ3,H3,I3,st3,fr3,w3⟩;rcases turn i n σ3 H3 w3 with⟨stop,qn⟩|⟨go,N,hN,step⟩
 ·refine Fz hp (ZD (T.done X rfl rfl rfl hc i aa s3 σ3 H3 X.xe I3 (stat fr3) st3 stop) λr s4 ⟨hr,I4⟩ => ?_)
  subst hr;exact Hu ⟨σ3,H3,I4,qn⟩
 ·refine Fz hp (ZD (T.item X rfl rfl rfl hc i aa s3 σ3 H3 X.xe I3 (stat fr3) st3 go) λr s4 ⟨u,hr,h4⟩ => ?_)
  subst hr;refine Fz hp (ZD h4 λ_ s5 ⟨x,H5,I5,r5,y5,st5,fr5⟩=>?_);have I5':=I5.pinned (stat fr5) (T.obj _ _ st5);refine Fz hp (ZD (hg _ s5 σ3 H5 x u _ I5' r5 (step x H5 y5)) λ_ s6 ⟨σ6,H6,I6,q6⟩=>?_);refine Fz hp (ZD (hb _ s6 σ6 H6 _ I6 q6) λf s7 q7=>?_);have YB:∀{σ7:St} {H7:Hp},b9 X (aa++OF fp s5.heap) σ7 H7 s7->N σ7 H7->∃m,m<n/\∃i σ' H',b9 X aa σ' H' s7/\tn i s7.heap/\(∀b∈fp,H' b=none)/\W i m σ' H':=λ{σ7 H7} I7 n7=>by obtain⟨m',hm,w7⟩:=hN σ7 H7 n7;refine⟨m',hm,i+1,σ7,H7,I7.unpinned,T.keep _ _ _ st5 λb hb o e=>(I7.pin (b,o) (Bp _ (Bp _ (VN hb e)))).1,λb hb=>?_,w7⟩;obtain⟨o,e,d⟩:=T.obj _ _ st5 b hb;exact(I7.pin (b,o) (Bp _ (Bp _ (VN hb e)))).2.1
  cases f with
  |next=>obtain⟨σ7,H7,I7,n7⟩:=q7;exact YB I7 n7
  |cont=>obtain⟨σ7,H7,I7,n7⟩:=q7;exact YB I7 n7
  |brk=>obtain⟨σ7,H7,I7,q7⟩:=q7;exact⟨σ7,H7,I7.unpinned,q7⟩
  |ret v=>obtain⟨x7,σ7,H7,I7,r7,q7⟩:=q7;exact⟨x7,σ7,H7,I7.unpinned,r7,q7⟩
end
abbrev R2:=V->V->Hp->VK->Prop
def W9(X:Cx)(f:Ul->Ul->Vf Ul)(r:R2):Prop:=
 ∀(aa:List (Um×Uy)) (s:Ad) (σ:St) (H:Hp) (x y:V) (v u:Ul) (Q:VK),b9 X aa σ H s->bS x v->bS y u->r x y H Q->
  Uq (Ur X.prog X.w) X.A (f v u) (EP X aa σ Q) X.xe s
def UnR(X:Cx)(f:Ul->Vf Ul)(r:V->Hp->VK->Prop):Prop:=
 ∀(aa:List (Um×Uy)) (s:Ad) (σ:St) (H:Hp) (x:V) (v:Ul) (Q:VK),b9 X aa σ H s->bS x v->r x H Q->
  Uq (Ur X.prog X.w) X.A (f v) (EP X aa σ Q) X.xe s
def Z1(X:Cx)(f:Ul)(r:List V->Hp->VK->Prop):Prop:=
 ∀(aa:List (Um×Uy)) (s:Ad) (σ:St) (H:Hp) (xs:List V) (us:List Ul) (Q:VK),b9 X aa σ H s->bE xs us->r xs H Q->
  Uq (Ur X.prog X.w) X.A (call f us) (EP X aa σ Q) X.xe s
def tOp(r:R2)(ta tb:TE):TE:=λσ H Q=>ta σ H λx H1=>tb σ H1 λy H2=>r x y H2 Q
def tUn(r:V->Hp->VK->Prop)(ta:TE):TE:=λσ H Q=>ta σ H λx H1=>r x H1 Q
def rI(C:Int->Int->Prop)(g:Int->Int->V):R2:=λx y H Q=>∃i j,x=.int i/\y=.int j/\C i j/\Q (g i j) H
def GH(g:Int->Int->V):R2:=λx y H Q=>∃i j,x=.int i/\y=.int j/\Q (g i j) H
def rU(g:Int->V):V->Hp->VK->Prop:=λx H Q=>∃i,x=.int i/\Q (g i) H
section
variable{X:Cx}{a b c:Ut}{ta tb tc:TE}{pos:Pos}
theorem binT(ha:PE X a ta)(hb:PE X b tb){aa:List (Um×Uy)}{s:Ad}{σ:St}{H:Hp}{R:V->V->Hp->Prop}(I:b9 X aa σ H s)(h:ta σ H λx H1=>tb σ H1 λy H2=>R x y H2){Q:Ul->Ad->Prop}{f:Ul->Ul->Vf Ul}(hf:∀v u s2 x y H2,b9 X aa σ H2 s2->bS x v->bS y u->R x y H2->Uq (Ur X.prog X.w) X.A (f v u) Q X.xe s2):Uq (Ur X.prog X.w) X.A (eval a X.env) (λv s₁=>Uq (Ur X.prog X.w) X.A (eval b X.env) (λu s₂=>Uq (Ur X.prog X.w) X.A (f v u) Q X.xe s₂) X.xe s₁) X.xe s:=by refine ZD (ha aa s σ H _ I h) λv s1 ⟨x,H1,I1,r1,q1⟩=>?_;refine ZD (hb aa s1 σ H1 _ I1 q1) λu s2 ⟨y,H2,I2,r2,q2⟩=>?_;exact hf v u s2 x y H2 I2 r1 r2 q2
theorem Yu{op:Operator}{r:R2}(ho:W9 X (Fn op) r)(ha:PE X a ta)(hb:PE X b tb):PE X (.BinOp a op b pos) (tOp r ta tb):=by intro aa s σ H Q I h;exact wpAny_BinOp (binT ha hb I h λv u s2 x y H2 I2 rx ry q=>ho aa s2 σ H2 x y v u Q I2 rx ry q)
theorem lF{op:UnaryOp}{r:V->Hp->VK->Prop}(ho:UnR X (unaryOp op) r)(ha:PE X a ta):PE X (.UnaryOp op a pos) (tUn r ta):=by intro aa s σ H Q I h;exact UnaryOp_ (ZD (ha aa s σ H _ I h) λv s1 ⟨x,H1,I1,r1,q1⟩=>ho aa s1 σ H1 x v Q I1 r1 q1)
theorem opI{f:Ul->Ul->Vf Ul}{C:Int->Int->Prop}{g:Int->Int->Int}(rule:∀(i j:Int) (t u:Vh) (s:Ad) (Q:Ul->Ad->Prop) (E:Ul->Ad->Prop),C i j->Q (.int (g i j) s.toks) {s with toks:=s.toks+1}->Uq (Ur X.prog X.w) X.A (f (.int i t) (.int j u)) Q E s):W9 X f (rI C λi j=>.int (g i j)):=by intro aa s σ H x y v u Q I rx ry h;obtain⟨i,j,rfl,rfl,hc,q⟩:=h;obtain⟨t,rfl⟩:=rx;obtain⟨t',rfl⟩:=ry;exact rule i j t t' s _ _ hc ⟨.int (g i j),H,I.tok _,⟨_,rfl⟩,q⟩
theorem opI0{f:Ul->Ul->Vf Ul}{g:Int->Int->Int}(rule:∀(i j:Int) (t u:Vh) (s:Ad) (Q:Ul->Ad->Prop) (E:Ul->Ad->Prop),Q (.int (g i j) s.toks) {s with toks:=s.toks+1}->Uq (Ur X.prog X.w) X.A (f (.int i t) (.int j u)) Q E s):W9 X f (GH λi j=>.int (g i j)):=by intro aa s σ H x y v u Q I rx ry h;obtain⟨i,j,rfl,rfl,q⟩:=h;obtain⟨t,rfl⟩:=rx;obtain⟨t',rfl⟩:=ry;exact rule i j t t' s _ _ ⟨.int (g i j),H,I.tok _,⟨_,rfl⟩,q⟩
theorem opB0{f:Ul->Ul->Vf Ul}{g:Int->Int->Bool}(rule:∀(i j:Int) (t u:Vh) (s:Ad) (Q:Ul->Ad->Prop) (E:Ul->Ad->Prop),Q (.bool (g i j)) s->Uq (Ur X.prog X.w) X.A (f (.int i t) (.int j u)) Q E s):W9 X f (GH λi j=>.bl (g i j)):=by intro aa s σ H x y v u Q I rx ry h;obtain⟨i,j,rfl,rfl,q⟩:=h;obtain⟨t,rfl⟩:=rx;obtain⟨t',rfl⟩:=ry;exact rule i j t t' s _ _ ⟨.bl (g i j),H,I,rfl,q⟩
def CDiv(i j:Int):Prop:=0<j/\j<1073741824
def CPow(i j:Int):Prop:=0<=j/\j<=1000000/\i.natAbs<2 ^ 64
def BK(i j:Int):Prop:=(-(2 ^ 64)<i/\i<2 ^ 64)∨(-(2 ^ 64)<j/\j<2 ^ 64)
theorem BK.ok{i j:Int}(h:BK i j):IntMulOk i j:=by
 rcases h with⟨h1,h2⟩|⟨h1,h2⟩
 ·exact .of_left (intBits_le_64 h1 h2)
 ·exact .of_right (intBits_le_64 h1 h2)
theorem zHL:W9 X (Fn .Add) (GH λi j=>.int (i+j)):=opI0 λ_ _ _ _ _ _ _ q=>add_int q
theorem UO:W9 X (Fn .Sub) (GH λi j=>.int (i - j)):=opI0 λ_ _ _ _ _ _ _ q=>sub_int q
theorem Zz:W9 X (Fn .Mult) (rI BK λi j=>.int (i*j)):=opI λ_ _ _ _ _ _ _ hc q=>mul_int q hc.ok
theorem EG:W9 X (Fn .FloorDiv) (rI CDiv λi j=>.int (i/j)):=opI λi j _ _ _ _ _ hc q=>by have h1:(0:Int)<j:=hc.1;have h2:j<1073741824:=hc.2;exact floordiv_int (by lia) (by rw[Int.fdiv_eq_ediv_of_nonneg i (by lia)];exact q) (.inl (PyProof.noPylong_small (by lia)))
theorem UN:W9 X (Fn .Mod) (rI (λ_ j=>0<j) λi j=>.int (i % j)):=opI λi j _ _ _ _ _ hc q=>by have h1:(0:Int)<j:=hc;exact mod_int' (by lia) (by rw[Int.fmod_eq_emod_of_nonneg i (by lia)];exact q)
theorem kM:W9 X (Fn .Pow) (rI CPow λi j=>.int (i ^ j.toNat)):=opI λ_ _ _ _ _ _ _ hc q=>pow_int_small hc.1 hc.2.1 hc.2.2 q
theorem unI{f:Ul->Vf Ul}{g:Int->Int}(rule:∀(i:Int) (t:Vh) (s:Ad) (Q:Ul->Ad->Prop) (E:Ul->Ad->Prop),Q (.int (g i) s.toks) {s with toks:=s.toks+1}->Uq (Ur X.prog X.w) X.A (f (.int i t)) Q E s):UnR X f (rU λi=>.int (g i)):=by intro aa s σ H x v Q I rx h;obtain⟨i,rfl,q⟩:=h;obtain⟨t,rfl⟩:=rx;exact rule i t s _ _ ⟨.int (g i),H,I.tok _,⟨_,rfl⟩,q⟩
theorem Zj:UnR X (unaryOp .USub) (rU λi=>.int (-i)):=unI λ_ _ _ _ _ q=>neg_int q
end
section
variable{X:Cx}{a b c:Ut}{ta tb tc:TE}{pos:Pos}
theorem FU{aa:List (Um×Uy)}{σ:St}{H:Hp}{s:Ad}{Q:VK}{k k':Bool}(I:b9 X aa σ H s)(q:Q (.bl k) H)(e:k=k'):EP X aa σ Q (.bool k') s:=by subst e;exact⟨.bl k,H,I,rfl,q⟩
theorem EH:W9 X (Cr .Lt) (GH λi j=>.bl (decide (i<j))):=opB0 λ_ _ _ _ _ _ _ q=>lt_int q
theorem Vv:W9 X (Cr .LtE) (GH λi j=>.bl (decide (i<=j))):=opB0 λ_ _ _ _ _ _ _ q=>le_int q
theorem Yn:W9 X (Cr .Gt) (GH λi j=>.bl (decide (j<i))):=opB0 λ_ _ _ _ _ _ _ q=>gt_int q
theorem gG:W9 X (Cr .GtE) (GH λi j=>.bl (decide (j<=i))):=opB0 λ_ _ _ _ _ _ _ q=>ge_int q
theorem jY:W9 X (Cr .Is) (λx y H Q=>y=.non/\Q (.bl (decide (x=.non))) H):=by
 intro aa s σ H x y v u Q I rx ry h;obtain⟨rfl,q⟩:=h;cases ry;refine is_none_gen (FU I q ?_);cases x<;>first
  |(cases rx;rfl)
  |(obtain⟨t,rfl⟩:=rx;rfl)
theorem W9.or{f:Ul->Ul->Vf Ul}{r r':R2}(h:W9 X f r)(h':W9 X f r'):W9 X f (λx y H Q=>r x y H Q∨r' x y H Q):=by
 intro aa s σ H x y v u Q I rx ry q;rcases q with q|q
 ·exact h aa s σ H x y v u Q I rx ry q
 ·exact h' aa s σ H x y v u Q I rx ry q
theorem Z4(b:Ut){op:CmpOp}(h:op≠ .In:=by decide)(h2:op≠ .NotIn:=by decide):Hz op b=false:=by
 have e1:(op==CmpOp.In)=false:=by cases op<;>first|rfl|exact absurd rfl h
 have e2:(op==CmpOp.NotIn)=false:=by cases op<;>first|rfl|exact absurd rfl h2
 cases b<;>simp[Hz,e1,e2]
theorem oO{op:CmpOp}{r:R2}(ho:W9 X (Cr op) r)(ha:PE X a ta)(hb:PE X b tb)(hm:Hz op b=false):PE X (.Compare a [op] [b] pos) (tOp r ta tb):=by intro aa s σ H Q I h;exact wpAny_Compare1 (binT ha hb I h λv u s2 x y H2 I2 rx ry q=>ho aa s2 σ H2 x y v u Q I2 rx ry q) hm
def Wa(t:TE):TT:=λσ H Q=>t σ H λx H'=>∃k,x=.bl k/\Q k H'
theorem iK{op:CmpOp}{r:R2}(ho:W9 X (Cr op) r)(ha:PE X a ta)(hb:PE X b tb)(hm:Hz op b=false):PT X (.Compare a [op] [b] pos) (Wa (tOp r ta tb)):=by
 intro aa s σ H Q I h;refine wpAny_isTrue_Compare1 (ZD (ha aa s σ H _ I h) λv s1 ⟨x,H1,I1,r1,q1⟩=>ZD (hb aa s1 σ H1 _ I1 q1) λu s2 ⟨y,H2,I2,r2,q2⟩=>
  ZD (ho aa s2 σ H2 x y v u _ I2 r1 r2 q2) λc s3 ⟨z,H3,I3,r3,k,e,q3⟩=>?_) hm
 subst e;cases r3;exact Fa ⟨H3,I3,q3⟩
def GU(r r':R2)(ta tb tc:TE):TE:=λσ H Q=>ta σ H λx H1=>tb σ H1 λy H2=>r x y H2 λz H3=>∃k,z=.bl k∧
 (if k=true then tc σ H3 λw' H4=>r' y w' H4 Q else Q (.bl false) H3)
theorem gB{op op':CmpOp}{r r':R2}(ho:W9 X (Cr op) r)(ho':W9 X (Cr op') r')(ha:PE X a ta)(hb:PE X b tb)(hc:PE X c tc)(hm:Rp [op,op'] [b,c]=false:=by with_unfolding_all rfl):PE X (.Compare a [op,op'] [b,c] pos) (GU r r' ta tb tc):=by
 intro aa s σ H Q I h;refine Compare_chain (ZD (ha aa s σ H _ I h) λv s1 ⟨x,H1,I1,r1,q1⟩=>chain_link (ZD (hb aa s1 σ H1 _ I1 q1) λu s2 ⟨y,H2,I2,r2,q2⟩=>
  ZD (ho aa s2 σ H2 x y v u _ I2 r1 r2 q2) λd s3 ⟨z,H3,I3,r3,k,e,q3⟩=>?_)) hm
 subst e;cases r3;refine Fa ?_;cases k with
 |false=>exact ite_ff ⟨.bl false,H3,I3,rfl,q3⟩
 |true=>exact ite_tt (chain_last (ZD (hc aa s3 σ H3 _ I3 q3) λw' s4 ⟨z',H4,I4,r4,q4⟩=>ho' aa s4 σ H4 y z' u w' Q I4 r2 r4 q4))
theorem dO{op op':CmpOp}{r r':R2}(ho:W9 X (Cr op) r)(ho':W9 X (Cr op') r')(ha:PE X a ta)(hb:PE X b tb)(hc:PE X c tc)(hm:Rp [op,op'] [b,c]=false:=by with_unfolding_all rfl):PT X (.Compare a [op,op'] [b,c] pos) (Wa (GU r r' ta tb tc)):=by
 intro aa s σ H Q I h;refine isTrue_chain (ZD (ha aa s σ H _ I h) λv s1 ⟨x,H1,I1,r1,q1⟩=>test_link (ZD (hb aa s1 σ H1 _ I1 q1) λu s2 ⟨y,H2,I2,r2,q2⟩=>
  ZD (ho aa s2 σ H2 x y v u _ I2 r1 r2 q2) λd s3 ⟨z,H3,I3,r3,k,e,q3⟩=>?_)) hm
 subst e;cases r3;refine Fa ?_;cases k with
 |false=>
  obtain⟨k',e',q'⟩:=q3;cases e';exact ite_ff ⟨H3,I3,q'⟩
 |true=>
  refine ite_tt (test_last (ZD (hc aa s3 σ H3 _ I3 q3) λw' s4 ⟨z',H4,I4,r4,q4⟩=>ZD (ho' aa s4 σ H4 y z' u w' _ I4 r2 r4 q4) λd' s5 ⟨z2,H5,I5,r5,k2,e2,q5⟩=>?_));subst e2;cases r5;exact Fa ⟨H5,I5,q5⟩
theorem N4:(sizeLine:Nat)<2 ^ 63:=by rw[Bu];decide
theorem F8:W9 X (Fn .Add) (λx y H Q=>∃i j,x=.str i/\y=.str j/\i.length+j.length<=sizeLine/\Q (.str (i++j)) H):=by intro aa s σ H x y v u Q I rx ry h;obtain⟨i,j,rfl,rfl,hz,q⟩:=h;obtain⟨t,rfl⟩:=rx;obtain⟨t',rfl⟩:=ry;exact add_str (λt' tk=>⟨.str (i++j),H,I.tok _,⟨_,rfl⟩,q⟩) hz
theorem TC{x:V}{us:List Ul}(r:bE [x] us):∃u,us=[u]/\bS x u:=by
 cases r with
 |cons r1 r2=>cases r2;exact⟨_,rfl,r1⟩
theorem JE{x y:V}{us:List Ul}(r:bE [x,y] us):∃u w',us=[u,w']/\bS x u/\bS y w':=by
 cases r with
 |cons r1 r2=>
  cases r2 with
  |cons r3 r4=>cases r4;exact⟨_,_,rfl,r1,r3⟩
theorem BW(hc:X.calm=true):Z1 X (.builtin "max") (λxs H Q=>∃i j,xs=[.int i,.int j]/\Q (.int (if j>i then j else i)) H):=by
 intro aa s σ H xs us Q I r h;obtain⟨i,j,rfl,q⟩:=h;obtain⟨u,w',rfl,⟨t,rfl⟩,⟨t',rfl⟩⟩:=JE r;refine max_two_ints (I.ok.hd hc) λh' tk k=>⟨_,H,I.kept k,?_,q⟩;by_cases hj:j>i
 ·rw[if_pos hj,if_pos hj];exact⟨_,rfl⟩
 ·rw[if_neg hj,if_neg hj];exact⟨_,rfl⟩
theorem BX(hc:X.calm=true):Z1 X (.builtin "min") (λxs H Q=>∃i j,xs=[.int i,.int j]/\Q (.int (if j<i then j else i)) H):=by
 intro aa s σ H xs us Q I r h;obtain⟨i,j,rfl,q⟩:=h;obtain⟨u,w',rfl,⟨t,rfl⟩,⟨t',rfl⟩⟩:=JE r;refine min_two_ints (I.ok.hd hc) λh' tk k=>⟨_,H,I.kept k,?_,q⟩;by_cases hj:j<i
 ·rw[if_pos hj,if_pos hj];exact⟨_,rfl⟩
 ·rw[if_neg hj,if_neg hj];exact⟨_,rfl⟩
end
structure ObjM(h:Uw)(x dx C:Um)(mA:Us->Option Ul):Prop where
 obj:h.get? x=some (Tr C dx)
 ns:h.Ns1 dx mA
 ne:dx≠x
theorem L7{h:Uw}{dx:Um}{mA:Us->Option Ul}(n:h.Ns1 dx mA):∃od,h.get? dx=some od/\∀name,W.lookIn name od=some (mA name):=by
 obtain⟨o,es,ep,ho,hd,hk,_,hm⟩:=n;refine⟨o,ho,λname=>?_⟩;have e:=hm name;unfold nsFind findBy at e;rw[<-Oo] at e;unfold W.lookIn;rw[hd];dsimp only;split
 ·rename_i y q
  rw[q] at e;exact congrArg some e
 ·rename_i q
  rw[q] at e;have a:es.toList.any (·.refKey)=false:=by rw[List.any_eq_false];intro y hy;obtain⟨z,t,oo⟩:=hk y (Array.mem_toList_iff.mp hy);simp[DictEntry.refKey,oo]
  have a':¬es.toList.any (·.refKey)=true:=by rw[a];exact Dr
  rw[if_neg a'];exact congrArg some e
theorem ObjM.look{h:Uw}{x dx C:Um}{mA:Us->Option Ul}(I:ObjM h x dx C mA):∃od,W.InstAt h x (Tr C dx) C (some od)/\∀name,W.lookIn name od=some (mA name):=
 let ⟨od,ho,hl⟩:=L7 I.ns
 ⟨od,⟨I.obj,rfl,rfl,ho⟩,hl⟩
theorem TH.some_of{v:V}{o:Option Ul}(r:TH (some v) o):∃u,o=some u/\bS v u:=by
 cases o with
 |none=>exact(show False from r).elim
 |some u=>exact⟨u,rfl,r⟩
section
variable{P:As}{w:Uu}{H H':Hp}{h h':Uw}{a C dx:Um}{fs fs':List (Us×V)}
theorem Zl(hok:TF P w H h)(e:H a=some (.ins C dx fs)):∃mA,ObjM h a dx C mA/\(∀f,TH (fs.lookup f) (mA f))/\Ts mA (fs.map (·.1))/\fs.length<=1000/\H dx=some (.own a):=by obtain⟨d,z,ne,ob,mA,n,r,q⟩:=(show ZR P w H h a (.ins C dx fs) from hok a _ e);exact⟨mA,⟨ob,n,ne⟩,r,q,z,d⟩
end
structure Cls(K:Ai)(C:Um):Prop where
 pg:W.plainGet K C Str.empty=true
 hd:W.hasDictIn K C=true
 po:W.plainOver K C=true
 sa:Rf K (.ref C) "__setattr__"=some (some (.builtin "object.__setattr__"))
theorem Cls.get{K:Ai}{C:Um}(c:Cls K C)(f:Us):W.plainGet K C f=true:=c.pg
section
variable{X:Cx}{aa:List (Um×Uy)}{σ:St}{H:Hp}{s:Ad}{a C dx:Um}{fs:List (Us×V)}{f:Us}{v:V}{A:Bt}{E:Ul->Ad->Prop}
theorem cY{prog:As}{w:Uu}{env:Env}{e:Ut}{f:Us}{pos:Pos}{s:Ad}{Q:Ul->Ad->Prop}(hb:Fo e f env (eval e env)=eval e env)(h:Uq (Ur prog w) A (eval e env) (λo s₁=>Uq (Ur prog w) A (getAttr o f true) Q E s₁) E s):Uq (Ur prog w) A (eval (.Attribute e f pos) env) Q E s:=
 Attribute_any_ h (by rw[arm_eval_Attribute,hb])
end
section
variable{X:Cx}{aa:List (Um×Uy)}{σ:St}{H:Hp}{s:Ad}{A:Bt}{E:Ul->Ad->Prop}{Q:Ul->Ad->Prop}{c:Ul}{b:Bool}
inductive PV(K:Ai)(H:Hp):V->Ul->Prop where
 |non:PV K H .non (.type "NoneType")
 |bl (x:Bool):PV K H (.bl x) (.type "bool")
 |int (i:Int):PV K H (.int i) (.type "int")
 |str (x:Us):PV K H (.str x) (.type "str")
 |flt (x:UInt64):PV K H (.flt x) (.type "float")
 |lst {a:Um} {xs:List V} (e:H a=some (.lst xs)):PV K H (.ref a) (.type "list")
 |frz {a:Um} {o:Uy} {xs:List V} (e:H a=some (.frz o (.lst xs))):PV K H (.ref a) (.type "list")
 |tup {a:Um} {xs:List V} (e:H a=some (.tup xs)):PV K H (.ref a) (.type "tuple")
 |dK {a:Um} {kvs:List (aG×V)} (e:H a=some (.dK kvs)):PV K H (.ref a) (.type "dict")
 |dT {a:Um} {kvs:List (List aG×V)} (e:H a=some (.dT kvs)):PV K H (.ref a) (.type "dict")
 |ins {a C dx:Um} {fs:List (Us×V)} (e:H a=some (.ins C dx fs)) (cl:Cls K C) (ha:Rf K (.ref C) "__class__"=some (some (.builtin "object.__class__")))
   (hn:W.specialIn K (.builtin "object.__class__") "__get__"=some (some (.builtin "getset_descriptor.__get__"))) (htk:W.takesIn K (.builtin "object.__class__")=some true)
   (hm:W.mroIn K C (.type "object")=some true):PV K H (.ref a) (.ref C)
theorem T4{x:V}{u t:Ul}(I:b9 X aa σ H s)(rx:bS x u)(ty:PV X.K H x t)(e:Hg X.K t c=some b)(h:∀tk,Q (.bool b) {s with toks:=tk}):Uq (Ur X.prog X.w) A (call (.builtin "isinstance") [u,c]) Q E s:=by
 cases ty with
 |non=>cases (show u=Value.none from rx);exact Fb W.kitx_none I.kIn True.intro e (λz=>nomatch z) h
 |bl y=>cases (show u=Gj y from rx);exact Fb W.kitx_bool I.kIn True.intro e (λz=>nomatch z) h
 |int i=>obtain⟨t,q⟩:=(show∃t,u=Rj i t from rx);cases q;exact Fb W.kitx_int I.kIn True.intro e (λz=>nomatch z) h
 |str y=>obtain⟨t,q⟩:=(show∃t,u=Rk y t from rx);cases q;exact Fb W.kitx_str I.kIn True.intro e (λz=>nomatch z) h
 |flt y=>obtain⟨t,q⟩:=(show∃t,u=Ue y t from rx);cases q;exact Fb W.kitx_float I.kIn True.intro e (λz=>nomatch z) h
 | @lst a xs ea=>
  cases (show u=Ba a from rx);obtain⟨_,_,n,_,h1⟩:=(show ZR X.prog X.w H s.heap a (.lst xs) from I.hok a _ ea);exact Fb Nw I.kIn ⟨_,h1,rfl⟩ e (λz=>nomatch z) h
 | @frz a ob xs ea=>
  cases (show u=Ba a from rx);obtain⟨_,_,_,n,_,h1⟩:=(show ZR X.prog X.w H s.heap a (.frz ob (.lst xs)) from I.hok a _ ea);exact Fb Nw I.kIn ⟨_,h1,rfl⟩ e (λz=>nomatch z) h
 | @tup a xs ea=>
  cases (show u=Ba a from rx);obtain⟨_,_,_,p⟩:=(show ZR X.prog X.w H s.heap a (.tup xs) from I.hok a _ ea);obtain⟨o,h1,h2,_⟩:=p;exact Fb W.kitx_tuple I.kIn ⟨o,h1,h2⟩ e (λz=>nomatch z) h
 | @dK a kvs ea=>
  cases (show u=Ba a from rx);obtain⟨_,_,vs,_,p⟩:=(show ZR X.prog X.w H s.heap a (.dK kvs) from I.hok a _ ea);obtain⟨o,es,ep,h1,h2,_⟩:=p;exact Fb W.kitx_dict I.kIn ⟨o,h1,h2.1⟩ e (λz=>nomatch z) h
 | @dT a kvs ea=>
  cases (show u=Ba a from rx);obtain⟨_,_,xs,_,o,es,ep,h1,h2,_⟩:=(show ZR X.prog X.w H s.heap a (.dT kvs) from I.hok a _ ea);exact Fb W.kitx_dict I.kIn ⟨o,h1,h2.1⟩ e (λz=>nomatch z) h
 | @ins a C dx fs ea cl ha hn htk hm=>
  cases (show u=Ba a from rx);obtain⟨mA,O,_⟩:=Zl I.hok ea;obtain⟨od,J,_⟩:=O.look;exact Fb (W.kitx_own (cl.get _) cl.hd ha hn htk hm) I.kIn J e (λz=>nomatch z) h
end
structure Y7(k:Nat)(A:Bt):Prop where
 hd:A.handled=none
 dp:A.depth+3*k+5<Ey
 un:A.units+16*k+200<cLine
theorem Y7.mono{j k:Nat}{A:Bt}(r:Y7 k A)(h:j<=k):Y7 j A:=⟨r.hd,by have:=r.dp;lia,by have:=r.un;lia⟩
theorem Y7.deeper{k:Nat}{A:Bt}(r:Y7 (k+1) A)(env:Env):Y7 k (A.deeper env):=
 ⟨r.hd,by have:=r.dp;show A.depth+1+3*k+5<_;lia,by have:=r.un;show A.units+3+16*k+200<_;lia⟩
theorem Y7.depth{k:Nat}{A:Bt}(r:Y7 k A):A.depth<Ey:=by have:=r.dp;lia
theorem Y7.units{k:Nat}{A:Bt}(r:Y7 k A):A.units+64<cLine:=by have:=r.un;lia
def AG:TA:=λ_ H Q=>Q [] H
def MQ(ta:TE)(tr:TA):TA:=λσ H Q=>ta σ H λx H1=>tr σ H1 λxs H2=>Q (x::xs) H2
section
variable{X:Cx}{e:Ut}{es:List Ut}{te:TE}{t:TA}{pos:Pos}
theorem ZO:PA X [] AG:=λ_ _ _ _ H Q I h=>Gw ⟨[],H,I,.nil,h⟩
theorem bD(ha:PE X e te)(hr:PA X es t)(hs:Uo (e::es) X.env=(false,eval e X.env)::Uo es X.env:=by rfl):PA X (e::es) (MQ te t):=by intro pos aa s σ H Q I h;rw[hs];show Uq _ _ (spliced ((false,eval e X.env)::Dq pos (Uo es X.env))) _ _ s;refine Ef (ZD (ha aa s σ H _ I h) λu s1 ⟨x,H1,I1,r1,q1⟩=>?_);exact ZD (hr pos aa s1 σ H1 _ I1 q1) λus s2 ⟨xs,H2,I2,r2,q2⟩=>⟨x::xs,H2,I2,.cons r1 r2,q2⟩
def tTup(t:TA):TE:=λσ H Q=>t σ H λxs H1=>xs.length<=sizeLine/\∀p,H1 p=none->Q (.ref p) (upd H1 p (.tup xs))
def tLst(t:TA):TE:=λσ H Q=>t σ H λxs H1=>xs.length<=sizeLine/\∀p,H1 p=none->Q (.ref p) (upd H1 p (.lst xs))
theorem Ym{x1}(h:PA X es t):PE X (.Tuple es x1 pos) (tTup t):=by intro aa s σ H Q I hq;refine wpAny_Tuple_spliced (ZD (h pos aa s σ H _ I hq) λus s1 ⟨xs,H1,I1,r,z,q⟩=>⟨by rw[<-r.length];exact z,?_⟩);have hf:H1 s1.heap.objs.size=none:=I1.hok.fresh (Ap _);refine⟨.ref s1.heap.objs.size,upd H1 s1.heap.objs.size (.tup xs),I1.laid (t':=s1.toks) (λb u e=>Ac _ e) (Ap _) ?_,rfl,q _ hf⟩;exact⟨z,us,r,⟨_,Aq _ rfl,rfl,_,rfl⟩⟩
theorem Wm(h:PA X es t):PE X (.List es pos) (tLst t):=by intro aa s σ H Q I hq;refine wpAny_List_spliced (ZD (h pos aa s σ H _ I hq) λus s1 ⟨xs,H1,I1,r,z,q⟩=>⟨by rw[<-r.length];exact z,?_⟩);have hf:H1 s1.heap.objs.size=none:=I1.hok.fresh (Ap _);refine⟨.ref s1.heap.objs.size,upd H1 s1.heap.objs.size (.lst xs),I1.laid (t':=s1.toks) (λb u e=>Ac _ e) (Ap _) ?_,rfl,q _ hf⟩;exact⟨z,us,0,r,Aq _ rfl⟩
end
abbrev Sp:=List V->Hp->VK->XK->Prop
abbrev BL:=List Env->Hp->Ad->XK->Ul->Ad->Prop
structure BM(P:As)(w:Uu)(K:Ai)(mg:Us->Option Ul)(base:Uw)(A:Bt)(outer:List Env)(s:Ad)(H:Hp):Prop where
 frames:A.frames=some outer
 mod:Mod K mg base
 bs:∀b o,base.get? b=some o->s.heap.get? b=some o/\H b=none
 bsz:base.objs.size<=s.heap.objs.size
 funs:s.heap.FunFrames base outer
 frf:∀b∈U0 outer,H b=none
 hok:TF P w H s.heap
 bare:Lo s.gens
def CE(outer:List Env)(P:As)(w:Uu)(H:Hp)(s:Ad)(Q:VK)(u:Ul)(s':Ad):Prop:=
 ∃v H',s'.os=s.os/\Lo s'.gens/\Un (U0 outer) [] H H' s.heap s'.heap/\TF P w H' s'.heap/\bS v u/\Q v H'
def CR(CX:BL)(outer:List Env)(P:As)(w:Uu)(H:Hp)(s:Ad)(Q:VK)(E:XK)(r:Tu)(s':Ad):Prop:=
 match r with
 |.ok (.ret u)=>CE outer P w H s Q u s'
 |.ok _=>False
 |.error e=>CX outer H s E e s'
structure Z7(P:As)(w:Uu)(K:Ai)(mg:Us->Option Ul)(base:Uw)(CX:BL)(k:Nat)(f:Um)(fd:Cu)(ps:List Us)(sp:Sp):Prop where
 len:∀vs H Q E,sp vs H Q E->vs.length=ps.length
 run:∀(A:Bt) (outer:List Env) (s:Ad) (H:Hp) (args:Args) (us:List Ul) (vs:List V) (Q:VK) (E:XK),Y7 k A->BM P w K mg base A outer s H->Po s fd args (ps.zip us)->bE vs us->sp vs H Q E->
  Jm (Ur P w) A (.call (.ref f) args) (CR CX outer P w H s Q E) s
section
variable{X:Cx}{aa:List (Um×Uy)}{σ:St}{H:Hp}{s s':Ad}
theorem b9.env0(I:b9 X aa σ H s):BM X.prog X.w X.K X.mg X.base X.A X.stack s H:=
 ⟨I.ok.frames,I.ok.mod,I.bs,Dz I.ok.bsz I.sz,I.stack,I.stkFree,I.hok,I.bare⟩
theorem b9.after{Q:VK}{u:Ul}(I:b9 X aa σ H s)(h:CE X.stack X.prog X.w H s Q u s'):EP X aa σ Q u s':=by obtain⟨v,H',os,bare,un,hok,r,q⟩:=h;obtain⟨hh,g,d,t,os'⟩:=s';obtain rfl:os'=s.os:=os;exact⟨v,H',I.call (h':=hh) (g':=g) (d':=d) (t':=t) (ch:=[]) un hok bare (λb z=>absurd z (by simp)),r,q⟩
end
def E8(sp:Sp)(dvs:List V)(E:XK)(t:TA):TE:=λσ H Q=>t σ H λvs H1=>sp (vs++dvs) H1 Q E
def U2(K:Ai)(fd:Cu)(ps:List Us)(ds:List Ul):Prop:=
 ∀(s:Ad) (us:List Ul),K.In s.heap->(us++ds).length=ps.length->Po s fd ⟨us,[]⟩ (ps.zip (us++ds))
theorem U2.all{K:Ai}{fd:Cu}{ps:List Us}(h:∀us:List Ul,us.length=ps.length->Rg fd ⟨us,[]⟩=pure (ps.zip us)):U2 K fd ps []:=λs us _ hl=>by rw[Cw] at hl⊢;exact .of_eq (h us hl)
def FJ(CX:BL)(X:Cx)(E:XK):Prop:=∀(aa:List (Um×Uy)) (σ:St) (H:Hp) (s:Ad) (e:Ul) (s':Ad),b9 X aa σ H s->CX X.stack H s E e s'->X.xe e s'
section
variable{X:Cx}{CX:BL}{k:Nat}{f C:Um}{fd:Cu}{ps:List Us}{sp:Sp}{dvs:List V}{ds:List Ul}{E:XK}{x m:Us}{p pos ao:Pos}{e o:Ut}{es:List Ut}{ta:TE}{t:TA}
theorem Yh{aa:List (Um×Uy)}{σ:St}{H:Hp}{s:Ad}{Q:VK}{us:List Ul}{vs:List V}(F:Z7 X.prog X.w X.K X.mg X.base CX k f fd ps sp)(hr:Y7 k X.A)(hb:U2 X.K fd ps ds)(hd:bE dvs ds)(hx:FJ CX X E)(I:b9 X aa σ H s)(r:bE vs us)(h:sp (vs++dvs) H Q E):Uq (Ur X.prog X.w) X.A (call (.ref f) us) (EP X aa σ Q) X.xe s:=by
 have r2:bE (vs++dvs) (us++ds):=r.append hd;have hl:(us++ds).length=ps.length:=by rw[<-r2.length];exact F.len _ _ _ _ h
 refine Hl (Jg (F.run X.A X.stack s H ⟨us,[]⟩ (us++ds) (vs++dvs) Q E hr I.env0 (hb s us I.kIn hl) r2 h) λr s' hq=>?_);cases r with
 |error e=>exact hx aa σ H s e s' I hq
 |ok fl=>
  cases fl with
  |ret u=>exact I.after hq
  |next=>exact Gu hq
  |brk=>exact Gu hq
  |cont=>exact Gu hq
theorem kN(F:Z7 X.prog X.w X.K X.mg X.base CX k f fd ps sp)(hr:Y7 k X.A)(hg:Gl X x)(hm:X.mg x=some (.ref f))(hk:Hh X.K (.ref f)=true)(hb:U2 X.K fd ps ds)(hd:bE dvs ds)(hx:FJ CX X E)(ha:PA X (e::es) t)(hdb:(x==("__debug__":Us))=false:=by decide)(he:Uo (e::es) X.env=(false,eval e X.env)::Uo es X.env:=by rfl)(hpl:(Dq pos (Uo es X.env)).any (·.1)=false:=by rfl):PE X (.Call (.Name x p) (e::es) [] pos) (E8 sp dvs E t):=by intro aa s σ H Q I h;refine Eg (WK I hg hm ?_ hdb);refine Jh (h₀:=X.base) I.ok.mod.kin hk (ZD (ha pos aa s σ H _ I h) λus s1 ⟨vs,H1,I1,r,q⟩=>⟨I1.kIn,?_⟩) he hpl;exact Yh F hr hb hd hx I1 r q
end
structure bX(N P:List Us)(sc:Vd):Prop where
 kind:sc.kind=.function
 co:sc.isCoroutine=false
 gen:sc.isGenerator=false
 nd:N.Nodup
 pre:N.take P.length=P
 par:∀x∈P,sc.names.lookup x=some .local∨sc.names.lookup x=some .cell
 nofree:∀y∈sc.names,y.2≠ .free
theorem LH{kindOf:Us->Option Vc}{x:Us}:∀{binds:List (Us×Ul)} {m:Us->Option Ul},(∀v,(x,v)∉binds)->bindL kindOf binds m x=m x
 |[],_,_=>rfl
 | (n,v) :: r,m,h => by
  unfold bindL;rw[LH λw hw=>h w (An _ hw)];split
  ·have : x ≠ n := by rintro rfl;exact h v Ar
   simp[this]
  ·rfl
theorem LD{kindOf:Us->Option Vc}{x:Us}:∀{binds:List (Us×Ul)} {m:Us->Option Ul},(∀v,(x,v)∉binds)->bindC kindOf binds m x=m x
 |[],_,_=>rfl
 | (n,v) :: r,m,h => by
  unfold bindC;rw[LD λw hw=>h w (An _ hw)];split
  ·rfl
  ·have : x ≠ n := by rintro rfl;exact h v Ar
   simp[this]
theorem LG{kindOf:Us->Option Vc}{x:Us}{v:Ul}:∀{P:List Us} {vs:List Ul} {i:Nat} {m:Us->Option Ul},P.Nodup->P[i]?=some x->vs[i]?=some v->kindOf x=some .local->bindL kindOf (P.zip vs) m x=some v
 |[],_,_,_,_,h,_,_=>by simp at h
 |_::_,[],_,_,_,_,h,_=>by simp at h
 |p::P,w::vs,0,m,nd,h1,h2,hk=>by simp at h1 h2;subst h1;subst h2;show bindL kindOf ((p,w)::P.zip vs) m p=_;unfold bindL;rw[LH λv hv=>(Cs.mp nd).1 (Ia hv).1,if_pos hk];simp
 |p::P,w::vs,i+1,m,nd,h1,h2,hk=>by show bindL kindOf ((p,w)::P.zip vs) m x=_;unfold bindL;exact LG (i:=i) (Cs.mp nd).2 (by simpa using h1) (by simpa using h2) hk
theorem LC{kindOf:Us->Option Vc}{x:Us}{v:Ul}:∀{P:List Us} {vs:List Ul} {i:Nat} {m:Us->Option Ul},P.Nodup->P[i]?=some x->vs[i]?=some v->kindOf x≠some .local->bindC kindOf (P.zip vs) m x=some v
 |[],_,_,_,_,h,_,_=>by simp at h
 |_::_,[],_,_,_,_,h,_=>by simp at h
 |p::P,w::vs,0,m,nd,h1,h2,hk=>by simp at h1 h2;subst h1;subst h2;show bindC kindOf ((p,w)::P.zip vs) m p=_;unfold bindC;rw[LD λv hv=>(Cs.mp nd).1 (Ia hv).1,if_neg hk];simp
 |p::P,w::vs,i+1,m,nd,h1,h2,hk=>by show bindC kindOf ((p,w)::P.zip vs) m x=_;unfold bindC;exact LC (i:=i) (Cs.mp nd).2 (by simpa using h1) (by simpa using h2) hk
noncomputable def start(N:List Us)(vs:List V):St:=vs.map some++At (N.length - vs.length) none
noncomputable def TJ(CX:BL)(P:As)(w:Uu)(K:Ai)(mg:Us->Option Ul)(base:Uw)(N:List Us)(qual:Us)(scope:Vd)(f:Um)(cd:Ul)(A:Bt)(outer:List Env)(s:Ad)(H:Hp)(E:XK):Cx where
 prog:=P
 w:=w
 K:=K
 mg:=mg
 base:=base
 A:=A.deeper (envOfC qual scope s.heap.objs.size f cd)
 N:=N
 s₀:=s
 H₀:=H
 env:=envOfC qual scope s.heap.objs.size f cd
 outer:=outer
 stack:=envOfC qual scope s.heap.objs.size f cd::outer
 ex:=[]
 calm:=true
 fn:=λ_=>true
 pn:=[]
 xe:=λe s'=>Uq (Ur P w) (A.deeper (envOfC qual scope s.heap.objs.size f cd)) (leaving (envOfC qual scope s.heap.objs.size f cd) e) (λ_ s''=>CX outer H s E e s'') (λe' s''=>CX outer H s E e' s'') s'
theorem HA{sc:Vd}{n:Nat}{x:Us}(h:sc.names.lookup x=some .cell):∃c,(Va n sc.names []).lookup x=some c:=by have q:=Mb sc.names n [] (.inl h);exact Option.isSome_iff_exists.mp q
theorem LW{CX:BL}{P:As}{w:Uu}{K:Ai}{mg:Us->Option Ul}{base:Uw}{N ps:List Us}{qual:Us}{scope:Vd}{f:Um}{cd:Ul}{A:Bt}{outer:List Env}{s s1:Ad}{H:Hp}{E:XK}{us:List Ul}{vs:List V}(S:bX N ps scope)(hd:A.handled=none)(e0:BM P w K mg base A outer s H)(hl:vs.length=ps.length)(r:bE vs us)(x:InCallC s s.heap.objs.size (bindL (envOfC qual scope s.heap.objs.size f cd).kindOf (ps.zip us) λ_=>none) (Va (s.heap.objs.size+1) scope.names []) (bindC (envOfC qual scope s.heap.objs.size f cd).kindOf (ps.zip us) λ_=>none) s1):b9 (TJ CX P w K mg base N qual scope f cd A outer s H E) [] (start N vs) H s1:=by
 have hpl:ps.length<=N.length:=by have:=congrArg List.length S.pre;rw[By] at this;lia
 obtain⟨h1,tk,rfl,hk⟩:=x.done;have noA:∀b:Um,b∉(TJ CX P w K mg base N qual scope f cd A outer s H E).ex:=λb z=>absurd (show b∈([]:List Um) from z) (by simp);refine⟨⟨e0.mod,S.kind,rfl,rfl,Ap _,λy z c h1 h2=>?_,λy hy=>?_,λy c _ h=>?_,λ_=>hd,Around.frames_deeper e0.frames,.inr ⟨rfl,rfl⟩,λb z=>absurd z (noA b),e0.bs,e0.bsz,λb _ _=>noA b,λb z=>absurd z (noA b),e0.funs,e0.frf⟩,rfl,e0.bare,Un.kept hk,⟨_,x.toInCall.ns,λi y v h1 h2 h3=>?_⟩,λy c h=>⟨_,x.cell y c h⟩,e0.hok.fresh (Ap _),λy c h=>?_,λp hp=>absurd (show p∈([]:List (Um×Uy)) from hp) (by simp),e0.hok.kept hk,?_⟩
 ·exact name_of_addr x.apart (Co h1) (Co h2)
 ·have hy:scope.names.lookup y=some .cell∨scope.names.lookup y=some .free:=hy
  rcases hy with hy|hy
  ·exact HA hy
  ·exact absurd rfl (S.nofree _ (Co hy))
 ·exact Mn (x.above y c (Co h))
 ·have hi:i<vs.length:=by
   unfold start at h2;by_cases hi:i<vs.length
   ·exact hi
   ·rw [Dk (by simpa using hi)] at h2
    rw[Dg] at h2;split at h2<;>cases h2
  have ha:vs[i]?=some v:=by
   unfold start at h2;rw[Ao (by simpa using hi),Dh] at h2;cases e:vs[i]? with
   |none=>rw[e] at h2;cases h2
   |some a=>rw[e] at h2;cases h2;rfl
  obtain⟨u,hu,rv⟩:=r.get ha;have hp:ps[i]?=some y:=by rw[<-S.pre,Cv (by lia)];exact h1
  have ndP:ps.Nodup:=by rw[<-S.pre];exact S.nd.sublist (List.take_sublist _ _)
  refine⟨u,rv,?_⟩;rcases S.par y (Ej hp) with k|k
  ·exact .inl ⟨k,LG ndP hp hu k⟩
  ·obtain⟨c,e⟩:=HA (n:=s.heap.objs.size+1) k
   refine .inr ⟨.inl k,c,e,?_⟩;have q:=x.cell y c e;rw[LC ndP hp hu (by show scope.names.lookup y≠_;rw[k];decide)] at q;exact q
 ·exact e0.hok.fresh (Mn (x.above y c (Co h)))
 ·unfold start
  show _=N.length;rw[Cf,Bx,Mp];lia
theorem Wt{CX:BL}{P:As}{w:Uu}{K:Ai}{mg:Us->Option Ul}{base:Uw}{k:Nat}{f:Um}{name qual:Us}{params:Arguments}{body:List Ux}{scope:Vd}{dV kV doc pm cdv ct oc:Ul}{an od:Option Um}{osl:Array (Option Ul)}{N ps:List Us}{sp:Sp}(lk:K.lookup f=some ⟨oc,od,.func (Mc name qual params body scope dV kV doc pm an cdv ct),osl⟩)(hcd:Op K cdv qual=true)(S:bX N ps scope)(len:∀vs H Q E,sp vs H Q E->vs.length=ps.length)(aq:∀(A:Bt) (outer:List Env) (s:Ad) (H:Hp) (vs:List V) (Q:VK) (E:XK),Y7 k (A.deeper (envOfC qual scope s.heap.objs.size f cdv))->sp vs H Q E->∃t,WZ (TJ CX P w K mg base N qual scope f cdv A outer s H E) body t/\t {nx:=λ_ H'=>Q .non H',rt:=Q} (start N vs) H):Z7 P w K mg base CX (k+1) f (Mc name qual params body scope dV kV doc pm an cdv ct) ps sp:=by
 refine⟨len,λA outer s H args us vs Q E hr e0 hb r hsp=>?_⟩;have hl:=len _ _ _ _ hsp;have KX:K.In s.heap:=e0.mod.kin.keeps λb o e=>(e0.bs b o e).1;have lim:s.heap.NoLimit:=e0.mod.nolimit.keeps λb o e=>(e0.bs b o e).1;have dz:∀y∈ps.zip us,scope.names.lookup y.1=some .local∨(scope.names.lookup y.1=some .cell/\((Va (s.heap.objs.size+1) scope.names []).lookup y.1).isSome=true):=λ⟨n,v⟩ hy=>by
  rcases S.par n (Ia hy).1 with q|q
  ·exact .inl q
  ·exact .inr ⟨q,Mb _ _ _ (.inl q)⟩
 refine Ji hr.depth (KX _ _ lk) rfl S.co S.gen rfl (W.codeRec_of KX hcd) (hb _ _ _ _ ?_);refine Ha S.kind dz λenv he s1 x=>?_;subst he;refine⟨lim.keeps x.toInCall.keep,Qi ?_⟩;obtain⟨t,ht,hq⟩:=aq A outer s H vs Q E (hr.deeper _) hsp;have I:b9 (TJ CX P w K mg base N qual scope f cdv A outer s H E) [] (start N vs) H s1:=LW S hr.hd e0 hl r x;refine Bj (ht [] s1 (start N vs) H _ I hq) (λfl s' hs=>?_) λe s' hs=>hs;have fin:∀{σ':St} {H':Hp} {v:V} {u:Ul},b9 (TJ CX P w K mg base N qual scope f cdv A outer s H E) [] σ' H' s'->bS v u->Q v H'->CE outer P w H s Q u s':=
  λ{σ' H' v u} J rv q=>⟨v,H',J.os,J.bare,J.base,J.hok,rv,q⟩
 cases fl with
 |ret u=>
  obtain⟨v,σ',H',J,rv,q⟩:=hs;exact fin J rv q
 |next=>
  obtain⟨σ',H',J,q⟩:=hs;exact fin (v:=V.non) (u:=Value.none) J rfl q
 |brk=>
  obtain⟨_,_,_,q⟩:=hs;exact Gu q
 |cont=>
  obtain⟨_,_,_,q⟩:=hs;exact Gu q
section
variable{X:Cx}{x:Us}{p pos:Pos}{e:Ut}{es:List Ut}{t:TA}{id T:String}{r:List V->Hp->VK->Prop}
def tCB(r:List V->Hp->VK->Prop)(t:TA):TE:=λσ H Q=>t σ H λvs H1=>r vs H1 Q
theorem OE(hc:Z1 X (.builtin id) r)(hg:Gl X x)(hm:X.mg x=none)(hv:Be x=some (.builtin id))(ha:PA X (e::es) t)(hn:x≠ "__name__":=by decide)(hdb:(x==("__debug__":Us))=false:=by decide)(he:Uo (e::es) X.env=(false,eval e X.env)::Uo es X.env:=by rfl)(hpl:(Dq pos (Uo es X.env)).any (·.1)=false:=by rfl):PE X (.Call (.Name x p) (e::es) [] pos) (tCB r t):=by intro aa s σ H Q I h;refine Eg (SM I hg hm hv ?_ hn hdb);exact PyProof.Rows.callWith_builtin1 (ZD (ha pos aa s σ H _ I h) λus s1 ⟨vs,H1,I1,r1,q1⟩=>hc aa s1 σ H1 vs us Q I1 r1 q1) he hpl
theorem V3(hc:Z1 X (.type T) r)(hg:Gl X x)(hm:X.mg x=none)(hv:Be x=some (.type T))(ha:PA X (e::es) t)(hn:x≠ "__name__":=by decide)(hdb:(x==("__debug__":Us))=false:=by decide)(he:Uo (e::es) X.env=(false,eval e X.env)::Uo es X.env:=by rfl)(hpl:(Dq pos (Uo es X.env)).any (·.1)=false:=by rfl):PE X (.Call (.Name x p) (e::es) [] pos) (tCB r t):=by intro aa s σ H Q I h;refine Eg (SM I hg hm hv ?_ hn hdb);exact Ee (ZD (ha pos aa s σ H _ I h) λus s1 ⟨vs,H1,I1,r1,q1⟩=>hc aa s1 σ H1 vs us Q I1 r1 q1) he hpl
end
end L2
namespace HT
open PySem PyProof.Rows
section
variable{prog:As}{w:Uu}{A:Bt}{E:Ul->Ad->Prop}{s:Ad}
theorem zES{t b:Um}{vs ws:List Ul}{Q:Ul->Ad->Prop}(ht:IsTup s.heap t vs.toArray)(hb:IsTup s.heap b ws.toArray)(hv:vs≠[])(h1:ws=[]->Q (.ref t) s)(h2:ws≠[]->Q (.ref s.heap.objs.size) {s with heap:=s.heap.push {cls:=.type "tuple",data:=.seq (vs++ws).toArray}})(hsz:vs.length+ws.length<=sizeLine):Uq (Ur prog w) A (Fn .Add (.ref t) (.ref b)) Q E s:=by
 obtain⟨⟨cls,dd,data,sl⟩,ho,hc,n,hd⟩:=id ht;obtain⟨⟨ma,dd2,data2,sl2⟩,ho2,hc2,n2,hd2⟩:=id hb;simp only at hc hd hc2 hd2;subst hc hd hc2 hd2;have e:vs.toArray++ws.toArray=(vs++ws).toArray:=by simp
 by_cases hw:ws=[]
 ·exact Mq ⟨_,ho,rfl⟩ ⟨_,ho2,rfl⟩ Md Oq Im Ib (Hm _ _)
   (tuple_addW1 t b vs.toArray ws.toArray n n2 dd dd2 sl sl2 (by simpa using hv) (by simp[hw])) ⟨ho,ho2,h1 hw⟩
 ·refine Mq ⟨_,ho,rfl⟩ ⟨_,ho2,rfl⟩ Md Oq Im Ib (Hm _ _)
   (tuple_addW2 t b vs.toArray ws.toArray n n2 dd dd2 sl sl2 (by simpa using hv) (by simpa using hw) (by rw[Am,Am];exact hsz)) ⟨ho,ho2,?_⟩
  rw[e];exact h2 hw
noncomputable def sIx(n d:Nat):Option Int->Nat
 |none=>d
 |some v=>if v<0 then(v+(n:Int)).toNat else min v.toNat n
theorem IQ(n d:Nat):sIx n d none=d:=rfl
theorem E3(n d k:Nat):sIx n d (some (k:Int))=min k n:=by show(if(k:Int)<0 then((k:Int)+(n:Int)).toNat else min (k:Int).toNat n)=min k n;rw[if_neg (by lia),Iu]
theorem dL(n d:Nat)(hd:d<=n)(o:Option Int):sIx n d o<=n:=by
 cases o with
 |none=>exact hd
 |some v=>
  show(if v<0 then(v+(n:Int)).toNat else min v.toNat n)<=n;by_cases hv:v<0
  ·rw[if_pos hv];lia
  ·rw[if_neg hv];exact Nat.min_le_right _ _
theorem DW(v:Int)(n d:Nat):(if v<0 then max (v+(n:Int)) 0 else min v (n:Int))=((sIx n d (some v):Nat):Int):=by
 show(if v<0 then max (v+(n:Int)) 0 else min v (n:Int))=(((if v<0 then(v+(n:Int)).toNat else min v.toNat n):Nat):Int);by_cases hv:v<0
 ·simp only[if_pos hv];lia
 ·simp only[if_neg hv];lia
theorem FM(lo hi:Option Int)(n:Nat):He lo hi 1 (n:Int)=(((sIx n 0 lo:Nat):Int),((sIx n n hi:Nat):Int)):=by
 have h1:¬((1:Int)<0):=by lia
 unfold He;simp only[h1,if_false];refine Prod.ext ?_ ?_
 ·cases lo with
  |none=>rfl
  |some v=>exact DW v n 0
 ·cases hi with
  |none=>rfl
  |some v=>exact DW v n n
theorem GC(i j:Nat):Fs (i:Int) (j:Int) 1=j - i:=by
 unfold Fs;have h1:(1:Int)>0:=by lia
 simp only[h1,if_true,Int.ediv_one];split<;>lia
theorem OP{v:Ul}{o:Option Int}{Q:Option Int->Ad->Prop}(p:IsPart v o)(h:Q o s):Uq (Ur prog w) A (Rh v) Q E s:=by
 cases p with
 |none=>exact slicePart_none h
 |int i t=>exact slicePart_int h
theorem V5{sl:Um}{vl vu:Ul}{lo hi:Option Int}{n:Nat}{Q:Int×Int×Nat->Ad->Prop}(hs:s.heap.IsSliceOf sl vl vu .none)(pl:IsPart vl lo)(pu:IsPart vu hi)(h:Q (((sIx n 0 lo:Nat):Int),1,sIx n n hi - sIx n 0 lo) s):Uq (Ur prog w) A (Kn (.ref sl) (pure (n:Int))) Q E s:=by obtain⟨os,hos,hcs,hds⟩:=id hs;unfold Kn Sg;refine Aa (Aa (Eh hos hds (x:=vl) rfl (Aa (Eh hos hds (x:=vu) rfl (Aa (Eh hos hds (x:=.none) rfl (Ah ?_)))))));refine Aa (slicePart_none ?_);show Uq _ _ (if((1:Int)==0)=true then _ else _) _ _ s;rw[if_neg (by decide)];refine Aa (OP pl (Aa (OP pu (Aa (Ah ?_)))));show Uq _ _ (match He lo hi 1 (n:Int) with|(lo,hi)=>pure (lo,(1:Int),Fs lo hi 1)) _ _ s;rw[FM lo hi n];show Uq _ _ (pure (((sIx n 0 lo:Nat):Int),(1:Int),Fs ((sIx n 0 lo:Nat):Int) ((sIx n n hi:Nat):Int) 1)) _ _ s;rw[GC];exact Ah h
theorem lE(xs:Array Ul)(i k:Nat):((Bb k).filterMap λ(m:Nat)=>xs[((i:Int)+(m:Int)*1).toNat]?).toArray=((xs.toList.drop i).take k).toArray:=by
 have e:(λ(m:Nat)=>xs[((i:Int)+(m:Int)*1).toNat]?)=λm=>xs[i+m]? :=by
  funext m;have:((i:Int)+(m:Int)*1).toNat=i+m:=by lia
  rw[this]
 rw[e];have:=pick_run xs i k;rw[List.filterMap_map] at this;have e2:((λx=>xs[x]?)∘λx=>i+x)=λm=>xs[i+m]? :=rfl;rw[e2] at this;rw[this]
theorem RH{t sl:Um}{items:Array Ul}{vl vu:Ul}{lo hi:Option Int}{Q:Ul->Ad->Prop}(ht:IsTup s.heap t items)(hs:s.heap.IsSliceOf sl vl vu .none)(pl:IsPart vl lo)(pu:IsPart vu hi)(hw:¬(sIx items.size 0 lo=0/\sIx items.size items.size hi=items.size))(h:Q (.ref s.heap.objs.size) {s with heap:=s.heap.push {cls:=.type "tuple",data:=.seq ((items.toList.drop (sIx items.size 0 lo)).take (sIx items.size items.size hi - sIx items.size 0 lo)).toArray}})(hsz:items.size<=sizeLine):Uq (Ur prog w) A (Lq (.ref t) (.ref sl)) Q E s:=by
 have ay:sizeOk (.seq ((items.toList.drop (sIx items.size 0 lo)).take (sIx items.size items.size hi - sIx items.size 0 lo)).toArray):=by show((items.toList.drop (sIx items.size 0 lo)).take (sIx items.size items.size hi - sIx items.size 0 lo)).toArray.size<=sizeLine;rw[Am,By,Jn,Ge];lia
 have hj:sIx items.size items.size hi<=items.size:=dL _ _ (Ap _) hi;obtain⟨os,hos,hcs,hds⟩:=id hs;have hTs:s.TypeIs (.ref sl) "slice":=⟨os,hos,hcs⟩;unfold Lq;try with_reducible refine Bq ?_
 first|refine Aa (Ah ?_)|skip
 refine Aa (Lb ht.typeIs (by decide) ?_);refine Aa (Di (name:=Bf "__getitem__") ht.typeIs Em
  (El Em ht.typeIs entry_tuple_getitem ?_ (args_tuple_getitem _ _)))
 show Uq _ _ (Ko (.ref t)>>=_) _ _ s;refine Aa (tupleItemsOf_ ht ?_);refine Aa (Kt hTs ?_);rw[if_pos (by decide)];refine Aa (V5 hs pl pu ?_);have hno:¬((((sIx items.size 0 lo:Nat):Int)==0&&(1:Int)==1&&(sIx items.size items.size hi - sIx items.size 0 lo)==items.size)=true):=by intro q;rw[Ae,Ae] at q;have q1:((sIx items.size 0 lo:Nat):Int)=0:=eq_of_beq q.1.1;have q2:sIx items.size items.size hi - sIx items.size 0 lo=items.size:=eq_of_beq q.2;exact hw ⟨by lia,by lia⟩
 show Uq _ _ (if(((sIx items.size 0 lo:Nat):Int)==0&&(1:Int)==1&&(sIx items.size items.size hi - sIx items.size 0 lo)==items.size)=true then _ else _) _ _ s;rw[if_neg hno,lE]
 first
  |exact Aa (m:=Ga _) (Df (Ah ⟨_,rfl,Ah h⟩) ay)
  |exact Aa (m:=Ga _) (Df (Aa (Ah (Ah ⟨_,rfl,Ah h⟩))) ay)
  |exact Aa (Aa (m:=Ga _) (Df (Ah (Ah ⟨_,rfl,Ah h⟩)) ay))
  |exact Aa (Aa (m:=Ga _) (Df (Ah ⟨_,rfl,Ah h⟩) ay))
end
end HT
namespace L2
open PySem PySem.Spec PyProof.Rows
abbrev TO:=St->Hp->(Option Int->Hp->Prop)->Prop
def PO(X:Cx)(e:Option Ut)(t:TO):Prop:=
 ∀(aa:List (Um×Uy)) (s:Ad) (σ:St) (H:Hp) (Q:Option Int->Hp->Prop),b9 X aa σ H s->t σ H Q->
  Uq (Ur X.prog X.w) X.A (evalPart e X.env) (λu s'=>∃o H',b9 X aa σ H' s'/\IsPart u o/\Q o H') X.xe s
def lC:TO:=λ_ H Q=>Q none H
def nZ(t:TE):TO:=λσ H Q=>t σ H λx H1=>∃i,x=.int i/\Q (some i) H1
section
variable{X:Cx}{e:Ut}{te:TE}{lo hi:Option Ut}{tl th:TO}{pos p2:Pos}
theorem zDL:PO X none lC:=by intro aa s σ H Q I h;rw[evalPart_none];exact Ah ⟨none,H,I,.none,h⟩
theorem nQ(h:PE X e te):PO X (some e) (nZ te):=by intro aa s σ H Q I hw;rw[evalPart_some];refine ZD (h aa s σ H _ I hw) λu s1 ⟨x,H1,I1,r1,q1⟩=>?_;obtain⟨i,rfl,q⟩:=q1;obtain⟨t,rfl⟩:=r1;exact⟨some i,H1,I1,.int i t,q⟩
def SlR(X:Cx)(r:V->Option Int->Option Int->Hp->VK->Prop):Prop:=
 ∀(aa:List (Um×Uy)) (s:Ad) (σ:St) (H:Hp) (x:V) (v vl vu:Ul) (lo hi:Option Int) (sl:Um) (Q:VK),b9 X aa σ H s->bS x v->s.heap.IsSliceOf sl vl vu .none->IsPart vl lo->IsPart vu hi->r x lo hi H Q->
  ∃T id,typeLookup (.type T) "__getitem__"=pure (some (.builtin id))/\s.TypeIs v T/\Uq (Ur X.prog X.w) X.A (Lq v (.ref sl)) (EP X aa σ Q) X.xe s
theorem SlR.or{r r':V->Option Int->Option Int->Hp->VK->Prop}(h:SlR X r)(h':SlR X r'):SlR X (λx lo hi H Q=>r x lo hi H Q∨r' x lo hi H Q):=by
 intro aa s σ H x v vl vu lo hi sl Q I rx hs pl pu q;rcases q with q|q
 ·exact h aa s σ H x v vl vu lo hi sl Q I rx hs pl pu q
 ·exact h' aa s σ H x v vl vu lo hi sl Q I rx hs pl pu q
def tSl(r:V->Option Int->Option Int->Hp->VK->Prop)(te:TE)(tl th:TO):TE:=λσ H Q=>te σ H λx H1=>tl σ H1 λl H2=>th σ H2 λu H3=>r x l u H3 Q
theorem iE{r:V->Option Int->Option Int->Hp->VK->Prop}(hr:SlR X r)(he:PE X e te)(hl:PO X lo tl)(hu:PO X hi th):PE X (.Subscript e (.Slice lo hi none p2) pos) (tSl r te tl th):=by intro aa s σ H Q I h;refine Subscript_ (ZD (he aa s σ H _ I h) λv s1 ⟨x,H1,I1,r1,q1⟩=>?_);refine wpAny_Slice (ZD (hl aa s1 σ H1 _ I1 q1) λvl s2 ⟨l,H2,I2,pl,q2⟩=>ZD (hu aa s2 σ H2 _ I2 q2) λvu s3 ⟨u,H3,I3,pu,q3⟩=>?_);rw[evalPart_none];refine Ah ?_;have I4:b9 X aa σ H3 {s3 with heap:=s3.heap.push {cls:=.type "slice",data:=.fields #[vl,vu,.none]}}:=I3.kept (t':=s3.toks) λb ob q=>Ac _ q;obtain⟨T,id,hT,ht,hg⟩:=hr aa {s3 with heap:=s3.heap.push {cls:=.type "slice",data:=.fields #[vl,vu,.none]}} σ H3 x v vl vu l u s3.heap.objs.size Q I4 r1 (Ui ..) pl pu q3;show Uq (Ur X.prog X.w) X.A (subscriptTail e (.Slice lo hi none p2) v (.ref s3.heap.objs.size)) (EP X aa σ Q) X.xe {s3 with heap:=s3.heap.push {cls:=.type "slice",data:=.fields #[vl,vu,.none]}};exact Tc (ops:=[.ref s3.heap.objs.size,v]) ht hT hg (by with_unfolding_all rfl)
noncomputable def HB(xs:List V)(lo hi:Option Int):List V:=(xs.drop (HT.sIx xs.length 0 lo)).take (HT.sIx xs.length xs.length hi - HT.sIx xs.length 0 lo)
theorem P2(xs:List V)(lo hi:Option Int):(HB xs lo hi).length<=xs.length:=by unfold HB;rw[By,Jn];lia
def rSlT(K:Ai):V->Option Int->Option Int->Hp->VK->Prop:=λx lo hi H Q=>∃a xs,x=.ref a/\WF K H a xs∧
 ¬(HT.sIx xs.length 0 lo=0/\HT.sIx xs.length xs.length hi=xs.length)/\∀p,H p=none->Q (.ref p) (upd H p (.tup (HB xs lo hi)))
theorem zGL:SlR X (rSlT X.K):=by
 intro aa s σ H x v vl vu lo hi sl Q I rx hs pl pu h;obtain⟨a,xs,rfl,hx,hw,q⟩:=h;cases rx;obtain⟨its,r,ht,hz⟩:=I.tuple hx;have ag:its.toArray.size=xs.length:=by rw[Am];exact r.length.symm
 refine⟨"tuple",_,PyProof.Rows.slot_tuple_getitem.lookup,ht.typeIs,?_⟩;refine HT.RH ht hs pl pu (by rw[ag];exact hw) ?_ (by rw[ag];exact hz);rw[ag];refine⟨.ref s.heap.objs.size,_,I.laid (t':=s.toks) (o:=.tup (HB xs lo hi)) (λb ob q=>Ac _ q) (Ap _) ?_,rfl,q _ (I.hok.fresh (Ap _))⟩;exact⟨Dz (P2 xs lo hi) hz,_,(r.drop (HT.sIx xs.length 0 lo)).take (HT.sIx xs.length xs.length hi - HT.sIx xs.length 0 lo),Ka _ _⟩
theorem bE.nil_iff{xs:List V}{us:List Ul}(r:bE xs us):us=[]↔xs=[]:=by
 cases r with
 |nil=>simp
 |cons _ _=>simp
end
noncomputable def ixN(n:Nat)(i:Int):Option Nat:=if 0<=i then(if i<n then some i.toNat else none) else if -(n:Int)<=i then some (i+n).toNat else none
noncomputable def U3{α:Type}(xs:List α)(i:Int):Option α:=(ixN xs.length i).bind λj=>xs[j]?
theorem oM{n:Nat}{i:Int}{j:Nat}(h:ixN n i=some j):seqIndex? i n=some j/\j<n/\ -(n:Int)<=i/\i<n:=by
 unfold ixN at h;by_cases h0:0<=i
 ·rw[if_pos h0] at h
  by_cases h1:i<n
  ·rw[if_pos h1] at h
   have e:i.toNat=j:=Bv h;exact⟨by rw[seqIndex_of h0 h1,e],by lia,by lia,h1⟩
  ·rw[if_neg h1] at h;cases h
 ·rw[if_neg h0] at h
  by_cases h1: -(n:Int)<=i
  ·rw[if_pos h1] at h
   have e:(i+n).toNat=j:=Bv h;exact⟨by rw[seqIndex_neg (by lia) h1,e],by lia,h1,by lia⟩
  ·rw[if_neg h1] at h;cases h
theorem JS{α:Type}{xs:List α}{i:Int}{v:α}(h:U3 xs i=some v):∃j,seqIndex? i xs.length=some j/\xs[j]?=some v/\j<xs.length/\ -(xs.length:Int)<=i/\i<xs.length:=by
 unfold U3 at h;cases e:ixN xs.length i with
 |none=>rw[e] at h;cases h
 |some j=>
  rw[e] at h;obtain⟨h1,h2,h3,h4⟩:=oM e;exact⟨j,h1,h,h2,h3,h4⟩
theorem Q8{α:Type}(xs:List α)(v:α):U3 (xs++[v]) (-1)=some v:=by
 have hl:(xs++[v]).length=xs.length+1:=by simp
 have e:ixN (xs++[v]).length (-1)=some xs.length:=by unfold ixN;rw[hl,if_neg (by decide),if_pos (by lia)];congr 1;lia
 unfold U3;rw[e];show(xs++[v])[xs.length]?=some v;simp
def JP(b:Ut):Prop:=∀o i,subscripted b false o i=operate [o,i] (Lq o i)
def BN(X:Cx)(r:R2):Prop:=
 ∀(value slice:Ut) (aa:List (Um×Uy)) (s:Ad) (σ:St) (H:Hp) (x y:V) (v u:Ul) (Q:VK),b9 X aa σ H s->bS x v->bS y u->r x y H Q->
  subscripted slice false v u=operate [v,u] (Lq v u)->Uq (Ur X.prog X.w) X.A (subscriptTail value slice v u) (EP X aa σ Q) X.xe s
def MtR(X:Cx)(id:String)(r:V->List V->Hp->VK->Prop):Prop:=
 ∀(aa:List (Um×Uy)) (s:Ad) (σ:St) (H:Hp) (x:V) (xs:List V) (v:Ul) (us:List Ul) (Q:VK),b9 X aa σ H s->bS x v->bE xs us->r x xs H Q->
  Uq (Ur X.prog X.w) X.A (call (.builtin id) (v::us)) (EP X aa σ Q) X.xe s
section
variable{X:Cx}{a b:Ut}{ta tb:TE}{pos:Pos}
theorem BN.or{r r':R2}(h:BN X r)(h':BN X r'):BN X (λx y H Q=>r x y H Q∨r' x y H Q):=by
 intro value slice aa s σ H x y v u Q I rx ry q hs;rcases q with q|q
 ·exact h value slice aa s σ H x y v u Q I rx ry q hs
 ·exact h' value slice aa s σ H x y v u Q I rx ry q hs
theorem hU{r:R2}(hr:BN X r)(ha:PE X a ta)(hb:PE X b tb)(hs:JP b):PE X (.Subscript a b pos) (tOp r ta tb):=by intro aa s σ H Q I h;exact Subscript_ (binT ha hb I h λv u s2 x y H2 I2 rx ry q=>hr a b aa s2 σ H2 x y v u Q I2 rx ry q (hs _ _))
def rIxL(K:Ai):R2:=λx y H Q=>∃p xs i v,x=.ref p/\y=.int i/\X6 K H p xs/\U3 xs i=some v/\Q v H
def rIxT(K:Ai):R2:=λx y H Q=>∃p xs i v,x=.ref p/\y=.int i/\WF K H p xs/\U3 xs i=some v/\Q v H
def rIxS:R2:=λx y H Q=>∃z i c,x=.str z/\y=.int i/\z.length<=sizeLine/\U3 z.cps.toList i=some c/\Q (.str ⟨#[c]⟩) H
theorem zEF:BN X (rIxL X.K):=by
 intro value slice aa s σ H x y v u Q I rx ry h hs;obtain⟨p,xs,i,z,rfl,rfl,hq,he,q⟩:=h;cases rx;obtain⟨t,rfl⟩:=ry;obtain⟨its,r,pl,hz⟩:=I.list hq;obtain⟨j,h1,h2,h3,h4,h5⟩:=JS he;obtain⟨w,ew,rw'⟩:=r.get h2;have hl:=r.length;have hn:=N4;have fin:EP X aa σ Q w s:=⟨z,H,I,rw',q⟩;by_cases h0:0<=i
 ·have hj:i.toNat=j:=by rw[seqIndex_of h0 h5] at h1;exact Bv h1
  exact item_listR pl.isList h0 (by lia) (by rw[hj];simpa using ew) fin hs
 ·have hj:(i+(its.toArray.size:Int)).toNat=j:=by rw[seqIndex_neg (by lia) h4] at h1;rw[Am,<- hl];exact Bv h1
  exact Mh (x:=w) pl.isList.typeIs slot_list_getitem.lookup
   (wpAny_getItem_list_neg (Q:=λr s'=>r=w/\EP X aa σ Q r s') pl.isList (by lia) (by rw[Am]<;>lia) (by lia) (by rw[hj];simpa using ew) ⟨rfl,fin⟩) hs
theorem zIP:BN X (rIxT X.K):=by
 intro value slice aa s σ H x y v u Q I rx ry h hs;obtain⟨p,xs,i,z,rfl,rfl,hq,he,q⟩:=h;cases rx;obtain⟨t,rfl⟩:=ry;obtain⟨its,r,pl,hz⟩:=I.tuple hq;obtain⟨j,h1,h2,h3,h4,h5⟩:=JS he;obtain⟨w,ew,rw'⟩:=r.get h2;have hl:=r.length;have hn:=N4;have fin:EP X aa σ Q w s:=⟨z,H,I,rw',q⟩;exact Mh (x:=w) pl.typeIs slot_tuple_getitem.lookup
  (getItem_tuple (j:=j) (Q:=λr s'=>r=w/\EP X aa σ Q r s') pl (by lia) (by lia) (by rw[Am,<-hl];exact h1) (by simpa using ew) ⟨rfl,fin⟩) hs
theorem eJ:BN X rIxS:=by
 intro value slice aa s σ H x y v u Q I rx ry h hs;obtain⟨z,i,c,rfl,rfl,hz,he,q⟩:=h;obtain⟨t,rfl⟩:=rx;obtain⟨t',rfl⟩:=ry;obtain⟨j,h1,h2,h3,h4,h5⟩:=JS he;have hl:z.cps.toList.length=z.length:=by simp[Str.length]
 rw[hl] at h1 h4 h5;have hn:=N4;exact Tc (typeIs_str s z t) slot_str_getitem.lookup (getItem_str (c:=c) (by have e1:decide (i< -(2 ^ 63:Int))=false:=decide_eq_false (by lia);have e2:decide (i≥2 ^ 63)=false:=decide_eq_false (by lia);rw[e1,e2,Te]) (by rw[h1];simpa using h2) ⟨.str ⟨#[c]⟩,H,I.tok _,⟨_,rfl⟩,q⟩) hs
def rIx(K:Ai):R2:=λx y H Q=>rIxL K x y H Q∨rIxT K x y H Q∨rIxS x y H Q
theorem zIR:BN X (rIx X.K):=zEF.or (zIP.or eJ)
theorem KW(lo hi:Option Int)(n:Nat):(Ix lo hi none n).1=((HT.sIx n 0 lo:Nat):Int)/\(Ix lo hi none n).2.1=((HT.sIx n n hi:Nat):Int)/\(Ix lo hi none n).2.2=1:=by
 refine⟨?_,?_,rfl⟩
 ·cases lo with
  |none=>simp[Ix,HT.sIx]
  |some i=>
   simp only[Ix,HT.sIx,Qp,show(1:Int)>0 by decide,if_true];by_cases h:i<0
   ·simp only[h,if_true]<;>lia
   ·simp only[h,if_false]<;>lia
 ·cases hi with
  |none=>simp[Ix,HT.sIx]
  |some i=>
   simp only[Ix,HT.sIx,Qp,show(1:Int)>0 by decide,if_true];by_cases h:i<0
   ·simp only[h,if_true]<;>lia
   ·simp only[h,if_false]<;>lia
theorem ND(its:List Ul)(lo hi:Option Int):slicePick its.toArray lo hi none=((its.drop (HT.sIx its.length 0 lo)).take (HT.sIx its.length its.length hi - HT.sIx its.length 0 lo)).toArray:=by obtain⟨h1,h2,h3⟩:=KW lo hi its.toArray.size;unfold slicePick;rw[h1,h2,h3];simp only[sliceRange_one,pick_run,Am]<;>rfl
def rSlL(K:Ai):V->Option Int->Option Int->Hp->VK->Prop:=λx lo hi H Q=>∃a xs,x=.ref a/\X6 K H a xs/\∀p,H p=none->Q (.ref p) (upd H p (.lst (HB xs lo hi)))
theorem gR:SlR X (rSlL X.K):=by intro aa s σ H x v vl vu lo hi sl Q I rx hs pl pu h;obtain⟨a,xs,rfl,hx,q⟩:=h;cases rx;obtain⟨its,r,ht,hz⟩:=I.list hx;have ag:=r.length;refine⟨"list",_,slot_list_getitem.lookup,ht.isList.typeIs,?_⟩;refine wpAny_getItem_list_slice ht.isList hs pl pu .none (by simp) ?_ (by rw[Am]<;>lia);rw[ND,<-ag];refine⟨.ref s.heap.objs.size,_,I.laid (t':=s.toks) (o:=.lst (HB xs lo hi)) (λb ob q=>Ac _ q) (Ap _) ?_,rfl,q _ (I.hok.fresh (Ap _))⟩;exact⟨Dz (P2 xs lo hi) hz,_,0,(r.drop (HT.sIx xs.length 0 lo)).take (HT.sIx xs.length xs.length hi - HT.sIx xs.length 0 lo),Aq _ rfl⟩
theorem JU:Z1 X (.builtin "len") (λxs H Q=>∃p ys,xs=[.ref p]/\(X6 X.K H p ys∨WF X.K H p ys)/\Q (.int ys.length) H):=by
 intro aa s σ H xs us Q I r h;obtain⟨p,ys,rfl,hq,q⟩:=h;obtain⟨u,rfl,rx⟩:=TC r;cases rx;have hn:=N4;rcases hq with hq|hq
 ·obtain⟨its,r',pl,hz⟩:=I.list hq
  have ag:=r'.length;exact Calls.call_len_list pl.isList (by simp only[Am]<;>lia) ⟨.int ys.length,H,I.tok _,⟨s.toks+1,by rw[Am,ag]⟩,q⟩
 ·obtain⟨its,r',pl,hz⟩:=I.tuple hq
  have ag:=r'.length;exact len_tuple pl (by simp only[Am]<;>lia) ⟨.int ys.length,H,I.tok _,⟨s.toks+1,by rw[Am,ag]⟩,q⟩
theorem JV:Z1 X (.builtin "len") (λxs H Q=>∃z,xs=[.str z]/\z.length<=sizeLine/\Q (.int z.length) H):=by intro aa s σ H xs us Q I r h;obtain⟨z,rfl,hz,q⟩:=h;obtain⟨u,rfl,t,rfl⟩:=TC r;have hn:=N4;exact len_str (by lia) ⟨.int z.length,H,I.tok _,⟨_,rfl⟩,q⟩
theorem Z1.or{f:Ul}{r r':List V->Hp->VK->Prop}(h:Z1 X f r)(h':Z1 X f r'):Z1 X f (λxs H Q=>r xs H Q∨r' xs H Q):=by
 intro aa s σ H xs us Q I rs q;rcases q with q|q
 ·exact h aa s σ H xs us Q I rs q
 ·exact h' aa s σ H xs us Q I rs q
theorem JW:Z1 X (.type "list") (λxs H Q=>∃p ys,xs=[.ref p]/\(X6 X.K H p ys∨WF X.K H p ys)/\∀l,H l=none->Q (.ref l) (upd H l (.lst ys))):=by
 intro aa s σ H xs us Q I r h;obtain⟨p,ys,rfl,hq,q⟩:=h;obtain⟨u,rfl,rx⟩:=TC r;cases rx;have fin:∀(its:List Ul),bE ys its->ys.length<=sizeLine->∀(h':Uw) (c':Nat),(∀b o',s.heap.get? b=some o'->h'.get? b=some o')->
   h'.get? s.heap.objs.size=some {cls:=.type "list",dict:=none,data:=.seq its.toArray c',slots:= #[]}->EP X aa σ Q (.ref s.heap.objs.size) {s with heap:=h'}:=λits r' hz h' c' kp e=>
  ⟨.ref s.heap.objs.size,_,I.laid (t':=s.toks) kp (Ap _) (show ZR X.prog X.w _ h' _ (.lst ys) from⟨hz,its,c',r',e⟩),rfl,q _ (I.hok.fresh (Ap _))⟩
 rcases hq with hq|hq
 ·obtain⟨its,r',pl,hz⟩:=I.list hq
  have ag:=r'.length;obtain⟨o,ho,hc,n,hd⟩:=pl.isList;exact call_list_seq p (.inl rfl) ho hc hd (λh' c' kp e=>fin its r' hz h' c' kp e) (by simp only[Am]<;>lia)
 ·obtain⟨its,r',pl,hz⟩:=I.tuple hq
  have ag:=r'.length;obtain⟨o,ho,hc,n,hd⟩:=pl;exact call_list_seq p (.inr rfl) ho hc hd (λh' c' kp e=>fin its r' hz h' c' kp e) (by simp only[Am]<;>lia)
theorem M8:Z1 X (.type "tuple") (λxs H Q=>∃p ys,xs=[.ref p]/\((X6 X.K H p ys/\∀l,H l=none->Q (.ref l) (upd H l (.tup ys)))∨(WF X.K H p ys/\Q (.ref p) H))):=by
 intro aa s σ H xs us Q I r h;obtain⟨p,ys,rfl,h⟩:=h;obtain⟨u,rfl,rx⟩:=TC r;cases rx;rcases h with⟨hq,q⟩|⟨hq,q⟩
 ·obtain⟨its,r',pl,hz⟩:=I.list hq
  have ag:=r'.length;refine call_tuple_list pl.isList (λh' kp=>?_) (by simp only[Am]<;>lia);have I1:b9 X aa σ H {s with heap:=h'}:=I.kept (t':=s.toks) kp;have I2:b9 X aa σ (upd H h'.objs.size (.tup ys)) {s with heap:=h'.push {cls:=.type "tuple",data:=.seq its.toArray}}:=
   I1.laid (t':=s.toks) (λb o e=>Ac _ e) (Ap _) (show ZR X.prog X.w _ _ _ (.tup ys) from⟨hz,its,r',Ka _ _⟩)
  exact⟨.ref h'.objs.size,_,I2,rfl,q _ (I1.hok.fresh (Ap _))⟩
 ·obtain⟨its,r',pl,hz⟩:=I.tuple hq
  exact call_tuple_same pl ⟨.ref p,H,I,rfl,q⟩
def tyV(K:Ai)(T:String)(x:V)(H:Hp):Prop:=match x with
 |.str _=>T= "str"
 |.int _=>T= "int"
 | .ref p => (T = "list" /\ ∃ xs,X6 K H p xs) ∨ (T = "tuple" /\ ∃ o,K.lookup p = some o /\ o.cls = .type "tuple" /\ o.dict = none) ∨
   (T= "dict" /\((∃kvs,H p=some (.dK kvs))∨∃kvs,H p=some (.dT kvs)))∨(T= "set" /\∃S n,H p=some (.set S n))
 |_=>False
theorem cQ{aa:List (Um×Uy)}{σ:St}{H:Hp}{s:Ad}{T:String}{x:V}{v:Ul}(I:b9 X aa σ H s)(r:bS x v)(ty:tyV X.K T x H):s.TypeIs v T/\∀a,v=.ref a->∃ob,s.heap.get? a=some ob/\ob.dict=none:=by
 cases x with
 |str z=>
  obtain⟨t,rfl⟩:=r;cases (show T= "str" from ty);exact⟨typeIs_str s z t,λ_ e=>nomatch e⟩
 |int i=>
  obtain⟨t,rfl⟩:=r;cases (show T= "int" from ty);exact⟨Nb s i t,λ_ e=>nomatch e⟩
 |ref p=>
  cases r;rcases ty with⟨rfl,xs,hq⟩|⟨rfl,o,hk,hc,hd⟩|⟨rfl,hk⟩|⟨rfl,S,n,hk⟩
  ·obtain⟨its,_,pl,_⟩:=I.list hq
   refine⟨pl.isList.typeIs,λa e=>?_⟩;cases e;obtain⟨o,n,e,c,hd,_⟩:=pl;exact⟨o,e,hd⟩
  ·refine ⟨⟨o,I.kIn p o hk,hc⟩,λa e => ?_⟩
   cases e;exact⟨o,I.kIn _ o hk,hd⟩
  ·have z: ∃o,s.heap.get? p=some o/\o.ExactDict:=by
    rcases hk with⟨kvs,hk⟩|⟨kvs,hk⟩
    ·obtain⟨_,_,_,_,o,_,_,e,ex,_⟩:=I.hok p _ hk
     exact⟨o,e,ex⟩
    ·obtain⟨_,_,_,_,o,_,_,e,ex,_⟩:=I.hok p _ hk
     exact⟨o,e,ex⟩
   obtain⟨o,e,ex⟩:=z;refine⟨⟨o,e,ex.1⟩,λa e2=>?_⟩;cases e2;exact⟨o,e,ex.2.1⟩
  ·obtain⟨o,_,_,_,e,ex,_⟩:=I.hok p _ hk
   refine⟨⟨o,e,ex.1⟩,λa e2=>?_⟩;cases e2;exact⟨o,e,ex.2.1⟩
 |_=>exact Gu ty
def tBM(K:Ai)(T:String)(r:V->List V->Hp->VK->Prop)(to:TE)(t:TA):TE:=λσ H Q=>to σ H λx H1=>tyV K T x H1/\t σ H1 λxs H2=>r x xs H2 Q
variable{o e:Ut}{es:List Ut}{to:TE}{t:TA}{name:Us}{ao af:Pos}{T id:String}{r:V->List V->Hp->VK->Prop}
theorem lQ(pa:PlainAttrs T)(slot:Slot T name id)(hty:Nl (.builtin id)=pure (.type "method_descriptor"))(hm:MtR X id r)(ho:PE X o to)(ha:PA X (e::es) t)(c8:Fo o name X.env (eval o X.env)=eval o X.env:=by rfl)(di:((Dq af (Uo (e::es) X.env)).all (λx=> !x.1)&&(Ic af (Fc [] X.env)).all (λx=>x.1.isSome)&&decide ((e::es).length+([]:List Iy).length+(if([]:List Iy).isEmpty then 0 else 1)<30))=true:=by rfl)(bz:(ao.endLine==af.line)=true:=by rfl)(hs:Uo (e::es) X.env=(false,eval e X.env)::Uo es X.env:=by rfl)(ax:(Dq af (Uo es X.env)).any (·.1)=false:=by rfl):PE X (.Call (.Attribute o name ao) (e::es) [] af) (tBM X.K T r to t):=by intro aa s σ H Q I h;refine wpAny_Call_method_late c8 di bz rfl (ZD (ho aa s σ H _ I h) λv s1 ⟨x,H1,I1,r1,ty,q1⟩=>?_);obtain⟨h1,h2⟩:=cQ I1 r1 ty;refine⟨T,id,pa,slot,hty,h1,h2,?_⟩;have hA:=ha af aa s1 σ H1 _ I1 q1;rw[hs] at hA⊢;refine Fg (by show(false || (Dq af (Uo es X.env)).any (·.1))=false;rw[ax]<;>rfl) (Ek ?_);exact ZD hA λus s2 ⟨vs,H2,I2,r2,q2⟩=>hm aa s2 σ H2 x vs v us Q I2 r1 r2 q2
end
def MtM(X:Cx)(id:String)(r:V->List V->Hp->VK->Prop):Prop:=
 ∀(aa:List (Um×Uy)) (s:Ad) (σ:St) (H:Hp) (x:V) (xs:List V) (v:Ul) (us:List Ul) (Q:VK),b9 X aa σ H s->bS x v->bE xs us->r x xs H Q->
  Uq (Ur X.prog X.w) X.A (call (.builtin id) (v::us)) (EP X aa σ Q) X.xe s
theorem bE.one:∀{x:V} {us:List Ul},bE [x] us->∃u,us=[u]/\bS x u
 |_,_,.cons r .nil=>⟨_,rfl,r⟩
theorem bE.eraseIdx:∀{xs:List V} {us:List Ul} (i:Nat),bE xs us->bE (xs.eraseIdx i) (us.eraseIdx i)
 |_,_,_,.nil=>.nil
 |_,_,0,.cons _ t=>t
 |_,_,i+1,.cons r t=>.cons r (bE.eraseIdx i t)
section
variable{X:Cx}{aa:List (Um×Uy)}{σ:St}{H:Hp}{s:Ad}{l b:Um}{xs ys zs:List V}
theorem b9.lset{its its':List Ul}{n:Nat}{f:Array Ul->Array Ul}{t':Nat}(I:b9 X aa σ H s)(hH:H l=some (.lst xs))(e:s.heap.get? l=some {cls:=.type "list",data:=.seq its.toArray n})(hf:f its.toArray=its'.toArray)(hv:bE ys its')(hz:ys.length<=sizeLine):b9 X aa σ (upd H l (.lst ys)) {s with heap:=s.heap.update l (Fj f),toks:=t'}:=by have q:=PySem.IsL.update e f;rw[hf] at q;refine I.write (x:=l) (e:=l) (by rw[hH];exact trivial) (.inl rfl) (λb' u hb hu=>(Gm s.heap (Fj f) (Dm hb)).trans hu) ⟨_,q⟩ ?_;exact⟨hz,its',_,hv,q⟩
theorem b9.lnew{its:List Ul}{t':Nat}(I:b9 X aa σ H s)(hv:bE ys its)(hz:ys.length<=sizeLine):b9 X aa σ (upd H s.heap.objs.size (.lst ys)) {s with heap:=s.heap.push {cls:=.type "list",data:=.seq its.toArray},toks:=t'}:=
 I.laid (λ_ _ q=>Ac _ q) (Ap _) ⟨hz,its,0,hv,Aq _ rfl⟩
theorem b9.fresh(I:b9 X aa σ H s):H s.heap.objs.size=none:=I.hok.fresh (Ap _)
theorem b9.lstM(I:b9 X aa σ H s)(hH:H l=some (.lst xs)):xs.length<=sizeLine/\∃(its:List Ul) (n:Nat),bE xs its/\xs.length=its.length/\s.heap.get? l=some {cls:=.type "list",data:=.seq its.toArray n}:=by obtain⟨z,its,n,r,e⟩:=I.hok l _ hH;exact⟨z,its,n,r,r.length,e⟩
theorem pI{n:Nat}(h:n<=sizeLine):Gb n=false:=by unfold Gb;exact decide_eq_false (by lia)
end
section
variable{X:Cx}
def ET:V->List V->Hp->VK->Prop:=λx vs H Q=>∃l xs y,x=.ref l/\vs=[y]/\H l=some (.lst xs)/\xs.length<sizeLine/\Q .non (upd H l (.lst (xs++[y])))
theorem aC:MtM X "list.append" ET:=by intro aa s σ H x vs v us Q I rx rv h;obtain⟨l,xs,y,rfl,rfl,hH,hz,q⟩:=h;cases rx;obtain⟨u,rfl,ru⟩:=rv.one;obtain⟨z,its,n,r,hl,e⟩:=I.lstM hH;refine Gc F.slot_list_append ⟨_,e,rfl⟩ F.entry_list_append (F.args_list_append_2 _ _) (PySem.list_append l its.toArray n u (by rw[Am];lia)) ⟨e,?_⟩;refine⟨.non,_,I.lset (its':=its++[u]) hH e (by simp) (r.append (.cons ru .nil)) ?_,rfl,q⟩;rw[Cf,Jj];lia
end
section
variable{prog:As}{w:Uu}{A:Bt}{E:Ul->Ad->Prop}{s:Ad}
set_option maxRecDepth 100000 in
end
section
variable{κ:Type}[DecidableEq κ]
noncomputable def TM(kvs:List (κ×V))(k:κ):Option V:=(kvs.find? λkv=>decide (kv.1=k)).map (·.2)
noncomputable def XO(kvs:List (κ×V))(k:κ)(v:V):List (κ×V):=
 if(kvs.any λkv=>decide (kv.1=k))=true then kvs.map (λkv=>if kv.1=k then(kv.1,v) else kv) else kvs++[(k,v)]
theorem RZ{p:κ×V}{r:List (κ×V)}{k:κ}(e:p.1=k):TM (p::r) k=some p.2:=by simp[TM,Gq,e]
theorem UR{p:κ×V}{r:List (κ×V)}{k:κ}(e:¬p.1=k):TM (p::r) k=TM r k:=by simp[TM,Gq,e]
theorem OS(k:κ):∀kvs:List (κ×V),(kvs.any λkv=>decide (kv.1=k))=(TM kvs k).isSome
 |[]=>rfl
 |p::r=>by
  rw[Jr];by_cases e:p.1=k
  ·simp only[RZ e,decide_eq_true e,Bool.true_or,Ot]
  ·rw[UR e,decide_eq_false e,Tf];exact OS k r
theorem P8(kvs:List (κ×V))(k:κ)(v:V):(XO kvs k v).length<=kvs.length+1:=by
 unfold XO;split
 ·rw[Bx];lia
 ·rw[Cf,Bm,Mr];lia
theorem oZ{kvs:List (κ×V)}{k:κ}(v:V)(h:TM kvs k=none):XO kvs k v=kvs++[(k,v)]:=by unfold XO;rw[OS,h];exact if_neg (by decide)
theorem TH.isSome_eq{o:Option V}{u:Option Ul}(r:TH o u):o.isSome=u.isSome:=by
 cases o with
 |none=>cases u with
  |none=>rfl
  |some _=>exact(show False from r).elim
 |some _=>cases u with
  |none=>exact(show False from r).elim
  |some _=>rfl
theorem TH.getD{o:Option V}{u:Option Ul}{d:V}{d':Ul}(r:TH o u)(rd:bS d d'):bS (o.getD d) (u.getD d'):=by
 cases o with
 |none=>cases u with
  |none=>exact rd
  |some _=>exact(show False from r).elim
 |some _=>cases u with
  |none=>exact(show False from r).elim
  |some _=>exact r
theorem KV.val{kvs:List (κ×V)}{vs:List (κ×Ul)}(r:KV kvs vs)(k:κ):TH (TM kvs k) (Pp vs k):=by
 unfold KV at r;induction r with
 |nil=>exact True.intro
 | @cons p q ps qs h t ih=>
  obtain⟨h1,h2⟩:=h;by_cases e:p.1=k
  ·have e':q.1=k:=h1.symm.trans e
   have b:Pp (q::qs) k=some q.2:=by simp[Pp,Gq,e']
   rw[RZ e,b];exact h2
  ·have e' : ¬ q.1 = k := λz => e (h1.trans z)
   have b:Pp (q::qs) k=Pp qs k:=by simp[Pp,Gq,e']
   rw[UR e,b];exact ih
theorem KV.any{kvs:List (κ×V)}{vs:List (κ×Ul)}(r:KV kvs vs)(k:κ):(kvs.any λkv=>decide (kv.1=k))=vs.any λkv=>decide (kv.1=k):=by
 unfold KV at r;induction r with
 |nil=>rfl
 |cons h t ih=>rw[Jr,Jr,ih,h.1]
theorem KV.repl{kvs:List (κ×V)}{vs:List (κ×Ul)}(r:KV kvs vs)(k:κ){y:V}{u:Ul}(ry:bS y u):KV (kvs.map λkv=>if kv.1=k then(kv.1,y) else kv) (vs.map λkv=>if kv.1=k then(kv.1,u) else kv):=by
 unfold KV at r⊢;induction r with
 |nil=>exact .nil
 | @cons p q ps qs h t ih=>
  rw[Ay,Ay];refine .cons ?_ ih;obtain⟨h1,h2⟩:=h;by_cases e:p.1=k
  ·rw[if_pos e,if_pos (h1.symm.trans e)];exact⟨h1,ry⟩
  ·rw[if_neg e,if_neg (λz=>e (h1.trans z))];exact⟨h1,h2⟩
theorem KV.put{kvs:List (κ×V)}{vs:List (κ×Ul)}(r:KV kvs vs)(k:κ){y:V}{u:Ul}(ry:bS y u):KV (XO kvs k y) (Tv vs k u):=by
 unfold XO Tv;rw[r.any k];by_cases e:(vs.any λkv=>decide (kv.1=k))=true
 ·rw[if_pos e,if_pos e];exact r.repl k ry
 ·rw[if_neg e,if_neg e];exact Ug r ⟨rfl,ry⟩
theorem KV.length{kvs:List (κ×V)}{vs:List (κ×Ul)}(r:KV kvs vs):kvs.length=vs.length:=Ol r
end
theorem LZ{P:As}{w:Uu}{k:aG}{u:Ul}(r:bS (kV k) u):(aQ P w).is k u=true:=by
 cases k with
 |inl i=>obtain⟨t,e⟩:=(show∃t,u=Rj i t from r);subst e;exact HY P w i t
 |inr x=>obtain⟨t,e⟩:=(show∃t,u=Rk x t from r);subst e;exact HZ P w x t
theorem LY{P:As}{w:Uu}:∀{ks:List aG} {us:List Ul},bE (ks.map kV) us->ItemsAre (aQ P w) ks us
 |[],_,r=>by rw[Ea] at r;cases r;exact .nil
 |k::ks,_,r=>by
  rw[Ay] at r;cases r with
  |cons h t=>exact .cons (LZ h) (LY t)
abbrev KT(H:Hp):List (List aG×V)->List (List aG×Um×Ul)->Prop:=Paired λp q=>p.1=q.1/\H q.2.1=some (.tup (p.1.map kV))/\bS p.2 q.2.2
theorem KT.val{H:Hp}{kvs:List (List aG×V)}{xs:List (List aG×Um×Ul)}(r:KT H kvs xs)(k:List aG):TH (TM kvs k) ((atKey xs k).map (·.2)):=by
 induction r with
 |nil=>exact True.intro
 | @cons p q ps qs h t ih=>
  obtain⟨h1,_,h2⟩:=h;by_cases e:p.1=k
  ·have e':q.1=k:=h1.symm.trans e
   have b:atKey (q::qs) k=some q.2:=by simp[atKey,Gq,e']
   rw[RZ e,b];exact h2
  ·have e' : ¬ q.1 = k := λz => e (h1.trans z)
   have b:atKey (q::qs) k=atKey qs k:=by simp[atKey,Gq,e']
   rw[UR e,b];exact ih
theorem KT.repl{H:Hp}{kvs:List (List aG×V)}{xs:List (List aG×Um×Ul)}(r:KT H kvs xs)(k:List aG){y:V}{u:Ul}(ry:bS y u):KT H (kvs.map λkv=>if kv.1=k then(kv.1,y) else kv) (xs.map (putAt k u)):=by
 induction r with
 |nil=>exact .nil
 | @cons p q ps qs h t ih=>
  rw[Ay,Ay];refine .cons ?_ ih;obtain⟨h1,h2,h3⟩:=h;unfold putAt;by_cases e:p.1=k
  ·rw[if_pos e,if_pos (h1.symm.trans e)];exact⟨h1,h2,ry⟩
  ·rw[if_neg e,if_neg (λz=>e (h1.trans z))];exact⟨h1,h2,h3⟩
theorem KT.put{H:Hp}{kvs:List (List aG×V)}{xs:List (List aG×Um×Ul)}(r:KT H kvs xs)(k:List aG){b:Um}{y:V}{u:Ul}(hb:H b=some (.tup (k.map kV)))(ry:bS y u):KT H (XO kvs k y) (storedH xs k b u):=by
 have e:(kvs.any λkv=>decide (kv.1=k))=(atKey xs k).isSome:=by rw[OS,(r.val k).isSome_eq,Option.isSome_map]
 unfold XO storedH;rw[e];by_cases q:(atKey xs k).isSome=true
 ·rw[if_pos q,if_pos q];exact r.repl k ry
 ·rw[if_neg q,if_neg q];exact Ug r ⟨rfl,hb,ry⟩
theorem KT.keeps{H H':Hp}{kvs:List (List aG×V)}{xs:List (List aG×Um×Ul)}(r:KT H kvs xs)(ht:∀b ys,H b=some (.tup ys)->H' b=some (.tup ys)):KT H' kvs xs:=
 Paired.mapP r λ_ _ z=>⟨z.1,ht _ _ z.2.1,z.2.2⟩
section
variable{P:As}{w:Uu}{H:Hp}{h:Uw}{a:Um}
theorem Wl{u:HO}(ok:TF P w H h)(e:Rd H a u):ZR P w H h a u:=e.ok ok
theorem LN{kvs:List (aG×V)}(ok:TF P w H h)(e:Rd H a (.dK kvs)):kvs.length<=sizeLine/\(a==Fy)=false/\∃vs,KV kvs vs/\h.DictOf (aQ P w) a vs:=
 show ZR P w H h a (.dK kvs) from Wl ok e
theorem dM{kvs:List (aG×V)}(ok:TF P w H h)(e:H a=some (.dK kvs)):kvs.length<=sizeLine/\(a==Fy)=false/\∃vs,KV kvs vs/\h.DictOf (aQ P w) a vs:=LN ok (.inl e)
theorem N3{ks:List aG}(ok:TF P w H h)(e:H a=some (.tup (ks.map kV))):(tupleKind (aQ P w)).is h ks a:=by obtain⟨_,its,r,o,h1,h2,n,h3⟩:=(show ZR P w H h a (.tup (ks.map kV)) from ok a _ e);exact⟨o,its.toArray,n,h1,h2,h3,by simpa using LY r⟩
theorem LP{kvs:List (List aG×V)}(ok:TF P w H h)(e:Rd H a (.dT kvs)):kvs.length<=sizeLine/\(a==Fy)=false∧ ∃xs,KT H kvs xs/\h.DictOfH (tupleKind (aQ P w)) a xs:=by
 obtain⟨z,y,xs,r,o,es,ep,h1,h2,h3,h4,h5⟩:=(show ZR P w H h a (.dT kvs) from Wl ok e);refine⟨z,y,xs,r,o,es,ep,h1,h2,h3,h4,λx hx=>?_,h5⟩;have all:∀{l:List (List aG×V)} {m:List (List aG×Um×Ul)},KT H l m->∀x∈m,(tupleKind (aQ P w)).is h x.1 x.2.1:=by
  intro l m q;induction q with
  |nil=>intro x hx;exact nomatch hx
  | @cons p q ps qs hq t ih=>
   intro x hx;rcases Ak.mp hx with e|hx
   ·subst e
    exact N3 ok (by rw[<-hq.1];exact hq.2.1)
   ·exact ih x hx
 exact all r x hx
theorem jD{kvs:List (List aG×V)}(ok:TF P w H h)(e:H a=some (.dT kvs)):kvs.length<=sizeLine/\(a==Fy)=false∧ ∃xs,KT H kvs xs/\h.DictOfH (tupleKind (aQ P w)) a xs:=LP ok (.inl e)
end
def QD(H:Hp)(a:Um)(y:V)(r:Option V):Prop:=
 (∃kvs k,Rd H a (.dK kvs)/\y=kV k/\r=TM kvs k)∨∃kvs k b,Rd H a (.dT kvs)/\y=.ref b/\H b=some (.tup (k.map kV))/\r=TM kvs k
def DPut(H:Hp)(a:Um)(y v:V)(H':Hp):Prop:=
 (∃kvs k,H a=some (.dK kvs)/\y=kV k/\kvs.length<sizeLine/\H'=upd H a (.dK (XO kvs k v)))∨
 ∃kvs k b,H a=some (.dT kvs)/\y=.ref b/\H b=some (.tup (k.map kV))/\kvs.length<sizeLine/\H'=upd H a (.dT (XO kvs k v))
theorem QD.k{H:Hp}{a:Um}{kvs:List (aG×V)}{k:aG}(e:H a=some (.dK kvs)):QD H a (kV k) (TM kvs k):=.inl ⟨kvs,k,.inl e,rfl,rfl⟩
theorem DPut.k{H:Hp}{a:Um}{kvs:List (aG×V)}{k:aG}{v:V}(e:H a=some (.dK kvs))(hl:kvs.length<sizeLine):DPut H a (kV k) v (upd H a (.dK (XO kvs k v))):=.inl ⟨kvs,k,e,rfl,hl,rfl⟩
section
variable{X:Cx}{aa:List (Um×Uy)}{σ:St}{H:Hp}{s:Ad}{a:Um}{y v:V}{u r:Ul}{o:Option V}{A:Bt}{E:Ul->Ad->Prop}
theorem b9.big(I:b9 X aa σ H s):Fy<s.heap.objs.size:=by have h:Up<s.heap.objs.size:=(I.mod.glob.keeps I.bk).lt;exact Qj (by decide) h
theorem B0{Q:Ul->Ad->Prop}(hu:A.units+1<cLine)(I:b9 X aa σ H s)(g:QD H a y (some v))(ry:bS y u)(h:∀w' s',b9 X aa σ H s'->bS v w'->Q w' s'):Uq (Ur X.prog X.w) A (Lq (.ref a) u) Q E s:=by
 rcases g with⟨kvs,k,e,ey,l⟩|⟨kvs,k,b,e,ey,eb,l⟩
 ·subst ey
  obtain⟨z,hd,vs,rel,dd⟩:=LN I.hok e;obtain⟨w',hw,rw'⟩:=TH.some_of (v:=v) (o:=Pp vs k) (by rw[l];exact rel.val k);exact wpAny_getItem_of (LZ ry) dd.mapOf hw (h w' _ (I.tok _) rw')
 ·subst ey
  cases (show u=Ba b from ry);obtain⟨z,hd,xs,rel,dd⟩:=LP I.hok e;obtain⟨w',hw,rw'⟩:=TH.some_of (v:=v) (o:=(atKey xs k).map (·.2)) (by rw[l];exact rel.val k);obtain⟨p,hp,hp2⟩:=Option.map_eq_some_iff.mp hw;refine wpAny_getItem_heap (Ie hu) (N3 I.hok eb) dd hp ?_;rw[hp2];exact h w' _ (I.tok _) rw'
theorem DY{h':Uw}{t':Nat}{ob:HO}(I:b9 X aa σ H s)(mu:Mut (H a))(hs:Fl a s.heap h')(he:∃q,h'.get? a=some q)(new:ZR X.prog X.w (upd H a ob) h' a ob):b9 X aa σ (upd H a ob) {s with heap:=h',toks:=t'}:=
 I.write (x:=a) (e:=a) mu (.inl rfl) (λb q hb z=>(hs.2 b hb).trans z) he new
theorem Wh{P:As}{w:Uu}{H':Hp}{h':Uw}{kvs:List (aG×V)}{vs:List (aG×Ul)}(z:kvs.length<=sizeLine)(hd:(a==Fy)=false)(rel:KV kvs vs)(dd:h'.DictOf (aQ P w) a vs):ZR P w H' h' a (.dK kvs):=⟨z,hd,vs,rel,dd⟩
theorem B4{H':Hp}{Q:Unit->Ad->Prop}(hu:A.units+1<cLine)(I:b9 X aa σ H s)(g:DPut H a y v H')(ry:bS y u)(rv:bS v r)(h:∀s',b9 X aa σ H' s'->Q () s'):Uq (Ur X.prog X.w) A (setItem (.ref a) u r) Q E s:=by
 rcases g with⟨kvs,k,e,ey,l,eH⟩|⟨kvs,k,b,e,ey,eb,l,eH⟩
 ·subst ey eH
  obtain⟨z,hd,vs,rel,dd⟩:=dM I.hok e;have hz:vs.length<=sizeLine:=by rw[<-rel.length];exact z
  have hl:(XO kvs k v).length<=sizeLine:=by have:=P8 kvs k v;lia
  refine wpAny_setItem_pairs (hsz:=hz) (LZ ry) dd λh' dd' hs=>h _ ?_;have he:∃q,h'.get? a=some q:=let ⟨q,_,_,hq,_⟩:=dd';⟨q,hq⟩
  exact DY I (by rw[e];exact True.intro) hs he (Wh hl hd (rel.put k rv) dd')
 ·subst ey eH
  cases (show u=Ba b from ry);obtain⟨z,hd,xs,rel,dd⟩:=jD I.hok e;have hz:xs.length<=sizeLine:=by rw[<-Ol rel];exact z
  have hl:(XO kvs k v).length<=sizeLine:=by have:=P8 kvs k v;lia
  refine wpAny_setItem_heap (hsz:=hz) (Ie hu) (N3 I.hok eb) dd λh' dd' hs=>h _ ?_;obtain⟨q,es,ep,hq,h2,h3,h4,_,h5⟩:=dd';refine DY I (by rw[e];exact True.intro) hs ⟨q,hq⟩ ⟨hl,hd,_,(rel.put k eb rv).keeps λc ys ec=>?_,q,es,ep,hq,h2,h3,h4,h5⟩;rw[bM (nM ec e (λz=>nomatch z))];exact ec
end
theorem HC{X:Cx}{aa:List (Um×Uy)}{σ:St}{H:Hp}{s:Ad}{a:Um}{y:V}{o:Option V}(I:b9 X aa σ H s)(g:QD H a y o):s.TypeIs (.ref a) "dict":=by
 rcases g with⟨kvs,k,e,_,_⟩|⟨kvs,k,b,e,_,_,_⟩
 ·obtain⟨_,_,vs,_,dd⟩:=LN I.hok e
  exact dd.typeIs
 ·obtain⟨_,_,xs,_,dd⟩:=LP I.hok e
  exact dd.typeIs
def mY(td ty tv:TE):TS:=λD σ H=>tv σ H λv H1=>td σ H1 λx H2=>ty σ H2 λy H3=>∃a H4,x=.ref a/\DPut H3 a y v H4/\D.nx σ H4
section
variable{X:Cx}{o i e value:Ut}{pos ci dq:Pos}{td ty tv:TE}
theorem kQ(hu:X.A.units+1<cLine)(ho:PE X o td)(hi:PE X i ty)(hv:PE X value tv)(hs:Vb value (some (.Subscript o i ci)) pos.line X.env=pure false):PS X (.Assign [.Subscript o i ci] value pos) (mY td ty tv):=by intro aa s σ H D I h;refine wpAny_Assign_Subscript (ZD (hv aa s σ H _ I h) λr s1 ⟨v,H1,I1,rv,q1⟩=>ZD (ho aa s1 σ H1 _ I1 q1) λu s2 ⟨x,H2,I2,rx,q2⟩=>ZD (hi aa s2 σ H2 _ I2 q2) λiv s3 ⟨y,H3,I3,ry,a,H4,ex,g,q3⟩=>?_) hs;subst ex;obtain rfl:u=Ba a:=rx;exact B4 hu I3 g ry rv λs4 I4=>⟨σ,H4,I4,q3⟩
end
theorem cR{P:As}{w:Uu}{H:Hp}(h:Uw)(hb:Fy<h.objs.size):ZR P w H (h.push {cls:=.type "dict",data:=.dict #[]}) h.objs.size (.dK []):=
 ⟨Dv _,beq_eq_false_iff_ne.mpr (Dm (Au hb)),[],.nil,Rq h⟩
def eT:TE:=λ_ H Q=>∀p,H p=none->Q (.ref p) (upd H p (.dK []))
section
variable{X:Cx}{pos:Pos}
theorem zB0:PE X (.Dict [] [] pos) eT:=λaa s σ H Q I h=>
 wpAny_Dict_empty ⟨.ref s.heap.objs.size,_,I.laid (a:=s.heap.objs.size) (o:=.dK []) (t':=s.toks) (λ_ _ q=>Ac _ q) (Ap _) (cR s.heap I.big),rfl,h _ (I.hok.fresh (Ap _))⟩
end
def N6(kvs more:List (aG×V)):List (aG×V):=more.foldl (λacc kv=>XO acc kv.1 kv.2) kvs
theorem KV.merge:∀{more:List (aG×V)} {rs:List (aG×Ul)} {kvs:List (aG×V)} {vs:List (aG×Ul)},KV more rs->KV kvs vs->KV (N6 kvs more) (merged vs rs):=by
 intro more rs kvs vs r;unfold KV at r;induction r generalizing kvs vs with
 |nil=>intro q;exact q
 | @cons p q ps qs h t ih=>
  intro r0;have e:KV (XO kvs p.1 p.2) (Tv vs q.1 q.2):=by have:=r0.put p.1 h.2;rw[<-h.1];exact this
  exact ih e
structure M1(X:Cx)(o:Ut)(m:Us)(ao:Pos)(e:Ut)(af:Pos):Prop where
 base:Fo o m X.env (eval o X.env)=eval o X.env
 few:((Dq af (Uo [e] X.env)).all (λx=> !x.1)&&(Ic af (Fc [] X.env)).all (λx=>x.1.isSome)
  && decide (([e]:List Ut).length+([]:List Iy).length+(if([]:List Iy).isEmpty then 0 else 1)<30))=true
 line:(ao.endLine==af.line)=true
 trees:Dq af (Uo [e] X.env)=[(false,eval e X.env)]
structure M2(X:Cx)(o:Ut)(m:Us)(ao:Pos)(e f:Ut)(af:Pos):Prop where
 base:Fo o m X.env (eval o X.env)=eval o X.env
 few:((Dq af (Uo [e,f] X.env)).all (λx=> !x.1)&&(Ic af (Fc [] X.env)).all (λx=>x.1.isSome)
  && decide (([e,f]:List Ut).length+([]:List Iy).length+(if([]:List Iy).isEmpty then 0 else 1)<30))=true
 line:(ao.endLine==af.line)=true
 trees:Dq af (Uo [e,f] X.env)=[(false,eval e X.env),(false,eval f X.env)]
def IsD(H:Hp)(a:Um):Prop:=(∃kvs,Rd H a (.dK kvs))∨∃kvs,Rd H a (.dT kvs)
theorem Xn{X:Cx}{aa:List (Um×Uy)}{σ:St}{H:Hp}{s:Ad}{a:Um}(I:b9 X aa σ H s)(d:IsD H a):s.TypeIs (.ref a) "dict" /\(∀b,Ba a=.ref b->∃ob,s.heap.get? b=some ob/\ob.dict=none)/\(a==Fy)=false:=by
 rcases d with⟨kvs,e⟩|⟨kvs,e⟩
 ·obtain⟨_,hd,vs,_,dd⟩:=LN I.hok e
  refine⟨dd.typeIs,λb q=>?_,hd⟩;cases q;obtain⟨ob,_,_,h1,h2,_⟩:=dd;exact⟨ob,h1,h2.2.1⟩
 ·obtain⟨_,hd,xs,_,dd⟩:=LP I.hok e
  refine⟨dd.typeIs,λb q=>?_,hd⟩;cases q;obtain⟨ob,_,_,h1,h2,_⟩:=dd;exact⟨ob,h1,h2.2.1⟩
section
variable{X:Cx}{aa:List (Um×Uy)}{σ:St}{H:Hp}{s:Ad}{a:Um}{y d:V}{u r:Ul}{o:Option V}{A:Bt}{E:Ul->Ad->Prop}
theorem kT{Q:Ul->Ad->Prop}(hu:A.units+1<cLine)(I:b9 X aa σ H s)(g:QD H a y o)(ry:bS y u)(h:∀w' s',b9 X aa σ H s'->bS (o.getD .non) w'->Q w' s'):Uq (Ur X.prog X.w) A (call (.builtin "dict.get") [.ref a,u]) Q E s:=by
 rcases g with⟨kvs,k,e,ey,l⟩|⟨kvs,k,b,e,ey,eb,l⟩
 ·subst ey
  obtain⟨z,hd,vs,rel,dd⟩:=LN I.hok e;refine Ms Eb dd.typeIs Fh (Ig _ _) (meets_dict_get (aQ X.prog X.w) a (LZ ry) hd) ⟨_,dd.mapOf,h _ _ (I.tok _) ?_⟩;rw[l];exact(rel.val k).getD rfl
 ·subst ey
  cases (show u=Ba b from ry);obtain⟨z,hd,xs,rel,dd⟩:=LP I.hok e;refine Ms Eb dd.typeIs Fh (Ig _ _) (meetsH_dict_get (tupleKind (aQ X.prog X.w)) a b hd) ⟨Ie hu,k,xs,N3 I.hok eb,dd,h _ _ (I.tok _) ?_⟩;rw[l];exact(rel.val k).getD rfl
theorem iC{Q:Ul->Ad->Prop}(hu:A.units+1<cLine)(I:b9 X aa σ H s)(g:QD H a y o)(ry:bS y u)(rd:bS d r)(h:∀w' s',b9 X aa σ H s'->bS (o.getD d) w'->Q w' s'):Uq (Ur X.prog X.w) A (call (.builtin "dict.get") [.ref a,u,r]) Q E s:=by
 rcases g with⟨kvs,k,e,ey,l⟩|⟨kvs,k,b,e,ey,eb,l⟩
 ·subst ey
  obtain⟨z,hd,vs,rel,dd⟩:=LN I.hok e;refine Ms Eb dd.typeIs Fh (Lr _ _ _) (meets_dict_get_default (aQ X.prog X.w) a (LZ ry) hd r) ⟨_,dd.mapOf,h _ _ (I.tok _) ?_⟩;rw[l];exact(rel.val k).getD rd
 ·subst ey
  cases (show u=Ba b from ry);obtain⟨z,hd,xs,rel,dd⟩:=LP I.hok e;refine Ms Eb dd.typeIs Fh (Lr _ _ _) (meetsH_dict_get_default (tupleKind (aQ X.prog X.w)) a b hd r) ⟨Ie hu,k,xs,N3 I.hok eb,dd,h _ _ (I.tok _) ?_⟩;rw[l];exact(rel.val k).getD rd
end
def lL(td ty tx:TE):TE:=λσ H Q=>td σ H λx H1=>∃a,x=.ref a/\IsD H1 a/\ty σ H1 λy H2=>tx σ H2 λz H3=>∃o,QD H3 a y o/\Q (o.getD z) H3
section
variable{X:Cx}{o e f:Ut}{ao af:Pos}{td ty tx:TE}
theorem nE(hu:X.A.units+1<cLine)(ho:PE X o td)(he:PE X e ty)(hf:PE X f tx)(m:M2 X o "get" ao e f af):PE X (.Call (.Attribute o "get" ao) [e,f] [] af) (lL td ty tx):=by
 intro aa s σ H Q I h;refine Pq m.base m.few m.line Ls Eb Mt (ZD (ho aa s σ H _ I h) λu s1 ⟨x,H1,I1,rx,a,ex,d,q1⟩=>?_);subst ex;obtain rfl:u=Ba a:=rx;obtain⟨t1,t2,_⟩:=Xn I1 d;refine⟨t1,t2,?_⟩;rw[m.trees];refine Fg rfl (Ek (Ef (ZD (he aa s1 σ H1 _ I1 q1) λiv s2 ⟨y,H2,I2,ry,q2⟩=>
  Ef (ZD (hf aa s2 σ H2 _ I2 q2) λfv s3 ⟨z,H3,I3,rz,ov,g,q3⟩=>Gw ?_))))
 exact iC hu I3 g ry rz λw' s4 I4 rw'=>⟨_,H3,I4,rw',q3⟩
end
end L2
namespace Att
open PySem PySem.W PySem.Calls PyProof.Rows
theorem PZ{P:Qg}{h:Uw}:∀(ns:List Int) (vs:List Ul),WellAll P h vs (ns.map WData.int)->Tg vs ns:=by
 intro ns;induction ns with
 |nil=>
  intro vs w;rw[Ea] at w;cases w;exact .nil
 |cons n ns ih=>
  intro vs w;rw[Ay] at w;cases w with
  |cons a b=>
   cases a;exact .cons _ _ (ih _ b)
theorem C7{l:OpenLaw}{n:Nat}(hn:l.most=some n){P:Qg}{h:Uw}{args:List WData}{vals:List Ul}(hpre:l.row.toRowW.claim.pre args=true)(hwl:WellAll P h vals args):∃a vs ns,vals=[Ba a]/\args=[WData.list (ns.map WData.int)]/\h.get? a=some {cls:=.type "list",data:=.seq vs.toArray}/\Tg vs ns/\ns.length<=n:=by
 have hsh:WShape.hasAll [] args [.list .int]=true:=(pre_splitW hpre).1;have hc:l.pre.holds [] {args:=args}=true:=(pre_splitW hpre).2;obtain⟨d,r,rfl,h1,h2⟩:=hasAllW_cons hsh;obtain rfl:=hasAllW_nil h2;obtain⟨xs,rfl,h3⟩:=hasW_list h1;obtain⟨ns,rfl⟩:=items_int h3;have ag:ns.length<=n:=by
  unfold OpenLaw.pre at hc;have h4:(WTm.not (.lt (.lit (.int (n:Int))) (.len (.arg 0)))).holds [] {args:=[.list (ns.map .int)]}=true:=by have h4:=(holds_andW hc).1;rw[hn] at h4;exact h4
  have h5:=condW_of h4 (w_not (w_lt w_lit (w_len_list (w_arg rfl))));rw[Bx] at h5;refine Nat.le_of_not_lt λq=>?_;have q':(n:Int)<((ns.length:Nat):Int):=by lia
  first
   |(rw[decide_eq_true q'] at h5;exact absurd h5 (by decide))
   |(simp at h5;lia)
 cases hwl with
 |cons w1 w2=>
  cases w2;cases w1 with
  |list ho jm=>exact⟨_,_,ns,rfl,rfl,ho,PZ ns _ jm,ag⟩
theorem C0(l:OpenLaw)(args:List WData):l.row.toRowW.claim.post args (.bool true) args=true:=
 postW_of (r:=l.row.toRowW) (X:=(true==true))
  (show Uj [] (.bool true) .bool=true by first|rfl|decide|simp[Uj,WShape.arms,WShape.armsAll])
  (show(WTm.eq .res (.lit (.bool true))).value [] {args:=args,res:=some (.bool true),after:=args}=some (.bool (true==true)) from w_eq_bool (w_res rfl) w_lit) rfl
theorem G6{l:OpenLaw}{n:Nat}{q:As}{loose:List Us}{XP:(Us->Option Ul)->Uw->Prop}{YP:Uu->Uw->Prop}{d:DefRec}(hn:l.most=some n)(hdf:d.params.defaults=[])(call:∀(w:Uu) (s₀ s₁:Ad) (mg mb:Us->Option Ul) (fa:Um) (o:Uy) (pm cd doc:Ul) (a:Um) (vs:List Ul) (ns:List Int),Ground q loose [] XP w s₀ mg mb s₁.heap->YP w s₁.heap->s₁.heap.get? fa=some o->o.data=.func (docDef d.name d.params d.body d.scope pm cd doc)->s₁.heap.CodeRec cd d.name->mg d.name=some (.ref fa)->s₁.heap.get? a=some {cls:=.type "list",data:=.seq vs.toArray}->Tg vs ns->ns.length<=n->s₁.gens= #[]->Jm (Ur l.prog w) Nx (.call (.ref fa) ⟨[.ref a],[]⟩) (λr s'=>r=.ok (.ret (.bool true))/\OldK s₁.heap s'.heap/\s'.os=s₁.os/\Lo s'.gens) s₁):WalkO q loose XP YP l.row.toRowW d [] (λf vs=>Sx f vs):=by intro w s₀ s₁ mg mb G Y fa o pm cd doc dV kV ho hd hcd hD hmg hg args vals as hpre hlay hrd hwl hlo;obtain rfl:dV=.none:=Dflts.none hD hdf;obtain rfl:kV=.none:=Dflts.noKw hD;obtain⟨a,vs,ns,rfl,rfl,hobj,hints,ag⟩:=C7 hn hpre hwl;refine enter_call (Jg (call w s₀ s₁ mg mb fa o pm cd doc a vs ns G Y ho (fd_plain hd) hcd hmg hobj hints ag hg) λr s' hq=>?_);obtain⟨rfl,h2,h3,h4⟩:=hq;exact⟨.inl ⟨.bool true,.bool true,[],rfl,λ_=>rfl,.bool true,C0 l _,λ_=>⟨Pr,λ_ hm=>(nomatch hm)⟩⟩,h2,h3,h4⟩
end Att
namespace L2
open PySem PySem.Spec PyProof.Rows
theorem MV:∀{vs:List Ul} {ns:List Int},Tg vs ns->bE (ns.map V.int) vs
 |_,_,.nil=>.nil
 |_,_,.cons n t h=>.cons ⟨t,rfl⟩ (MV h)
def Only(H:Hp):Prop:=∀b,H b=none∨∃o xs,H b=some (.frz o (.lst xs))
theorem mW{P:As}{w:Uu}{K:Ai}{mg mb:Us->Option Ul}{CX:BL}{k:Nat}{fa a:Um}{fd:Cu}{x:Us}{sp:Sp}{s₁:Ad}{vs:List Ul}{ns:List Int}(KX:K.In s₁.heap)(hns:s₁.heap.Ns Up mg)(hb:s₁.heap.Ns builtinsNs mb)(hbb:∀x:Us,x≠ "__name__" ->mb x=Be x)(oj:s₁.heap.NoLimit)(hg:s₁.gens= #[])(ha:s₁.heap.get? a=some {cls:=.type "list",data:=.seq vs.toArray})(hi:Tg vs ns)(hl:ns.length<=sizeLine)(hr:Y7 k Nx)(F:∀base:Uw,K.In base->base.Ns Up mg->Z7 P w K mg base CX k fa fd [x] sp)(m7:∀(s:Ad) (u:Ul),Po s fd ⟨[u],[]⟩ [(x,u)])(hsp:∀H:Hp,Only H->X6 K H a (ns.map V.int)->sp [.ref a] H (λv _=>v=.bl true) λ_ _ _=>False)(hCX:∀H e s',CX [] H s₁ (λ_ _ _=>False) e s'->False):Jm (Ur P w) Nx (.call (.ref fa) ⟨[.ref a],[]⟩) (λr s'=>r=.ok (.ret (.bool true))/\OldK s₁.heap s'.heap/\s'.os=s₁.os/\Lo s'.gens) s₁:=by
 have rv:=MV hi;have nj:=hi.length;have m9: ∀H:Hp,Only H->X6 K H a (ns.map V.int)->TF P w H s₁.heap->(∀b,H b≠none->b=a)->(H a≠none->K.lookup a=none)->
   Jm (Ur P w) Nx (.call (.ref fa) ⟨[.ref a],[]⟩) (λr s'=>r=.ok (.ret (.bool true))/\OldK s₁.heap s'.heap/\s'.os=s₁.os/\Lo s'.gens) s₁:=by
  intro H hO hS hok hA hK;have gk:∀{b:Um} {o:Uy},s₁.heap.get? b=some o->H b=none->(J4 s₁.heap H).get? b=some o:=λe n=>iA e n;have noA:∀{b:Um} {o:Uy} {es:Array Ml} {ep:Nat},s₁.heap.get? b=some o->o.data=.dict es ep->H b=none:=λ{b o es ep} e d=>by
   cases q:H b with
   |none=>rfl
   |some u=>
    have e':b=a:=hA b (by rw[q];simp);subst e';rw[ha] at e;cases e;have d':Data.seq vs.toArray _=Data.dict es ep:=d;cases d'
  have nsK:∀{b:Um} {m:Us->Option Ul},s₁.heap.Ns b m->(J4 s₁.heap H).Ns b m:=λ{b m} ⟨o,es,ep,e,d,r⟩=>⟨o,es,ep,gk e (noA e d),d,r⟩;have hKb:K.In (J4 s₁.heap H):=λb o e=>gk (KX b o e) (by
   cases q:H b with
   |none=>rfl
   |some u=>
    have e':b=a:=hA b (by rw[q];simp);subst e';rw[hK (by rw[q];simp)] at e;cases e)
  have hM:Mod K mg (J4 s₁.heap H):=⟨hKb,nsK hns,⟨mb,nsK hb,hbb⟩,let ⟨mc,h1,h2⟩:=oj;⟨mc,nsK h1,h2⟩⟩;have e0:BM P w K mg (J4 s₁.heap H) Nx [] s₁ H:=⟨rfl,hM,λb o e=>eF e,Nat.le_of_eq (CH _ _),trivial,λb hb=>absurd (show b∈([]:List Um) from hb) (by simp),hok,.of_eq hg⟩;refine Jg ((F _ hKb (nsK hns)).run Nx [] s₁ H ⟨[.ref a],[]⟩ [.ref a] [.ref a] _ _ hr e0 (m7 s₁ (.ref a)) (.cons rfl .nil) (hsp H hO hS)) λr s' h=>?_;cases r with
  |error e=>exact(hCX H e s' h).elim
  |ok fl=>
   cases fl with
   |next=>exact Gu h
   |brk=>exact Gu h
   |cont=>exact Gu h
   |ret u=>
    obtain⟨v,H',os,bare,un,o0,r',q⟩:=h;have q':v=.bl true:=q;subst q';obtain rfl:u=Gj true:=r';refine⟨rfl,OldK.of_keep λb o e=>?_,os,bare⟩;cases q:H b with
    |none=>exact un.keep b o e q (by intro z;exact absurd (show b∈([]:List Um) from z) (by simp)) (by simp)
    |some u=>
     rcases hO b with z|⟨ob,xs,z⟩
     ·rw[q] at z;cases z
     ·have z2:=un.frzs b ob _ z
      obtain⟨e1,_⟩:=hok b _ z;obtain⟨e2,_⟩:=o0 b _ z2;rw[e] at e1;cases e1;exact e2
 cases hk:K.lookup a with
 |some o=>
  have e:=KX a o hk;rw[ha] at e;cases e;refine m9 (λ_=>none) (λ_=>.inl rfl) (.inr ⟨_,vs.toArray,_,hk,rfl,rfl,rfl,by rw[Am,nj];exact hl,by simpa using rv⟩) (λb u z=>by have z':(none:Option HO)=some u:=z;cases z') (λb z=>absurd rfl z) λz=>absurd rfl z
 |none=>
  refine m9 (λb=>if b=a then some (.frz {cls:=.type "list",data:=.seq vs.toArray} (.lst (ns.map V.int))) else none) (λb=>?_) (.inl (.inr ⟨{cls:=.type "list",data:=.seq vs.toArray},if_pos rfl⟩)) (λb u z=>?_) (λb z=>?_) λ_=>hk
  ·by_cases hb:b=a
   ·exact .inr ⟨_,_,if_pos hb⟩
   ·exact .inl (if_neg hb)
  ·by_cases hb:b=a
   ·have z':=(if_pos hb).symm.trans z
    cases z';subst hb;exact⟨ha,by rw[Bx];exact hl,vs,_,rv,ha⟩
   ·have z':=(if_neg hb).symm.trans z
    cases z'
  ·by_cases hb:b=a
   ·exact hb
   ·exact absurd (if_neg hb) z
theorem mT{l:Tw}{n k:Nat}{q:As}{loose:List Us}{XP:(Us->Option Ul)->Uw->Prop}{YP:Uu->Uw->Prop}{d:DefRec}{K:Qg->Ai}{CX:Uu->BL}{sp:Uu->Sp}{x:Us}(hn:l.most=some n)(hn2:n<=sizeLine)(hdf:d.params.defaults=[])(hr:Y7 k Nx)(hY:∀(w:Uu) (h:Uw),YP w h->(K w.params).In h)(F:∀(w:Uu) (mg:Us->Option Ul) (fa:Um) (h:Uw),(K w.params).In h->h.Ns Up mg->mg d.name=some (.ref fa)->∃fd:Cu,(∀(s:Ad) (u:Ul),Po s fd ⟨[u],[]⟩ [(x,u)])∧ ∀base:Uw,(K w.params).In base->base.Ns Up mg->Z7 l.prog w (K w.params) mg base (CX w) k fa fd [x] (sp w))(hsp:∀(w:Uu) (H:Hp) (a:Um) (ns:List Int),ns.length<=n->Only H->X6 (K w.params) H a (ns.map V.int)->sp w [.ref a] H (λv _=>v=.bl true) λ_ _ _=>False)(hCX:∀(w:Uu) (H:Hp) (s:Ad) (e:Ul) (s':Ad),CX w [] H s (λ_ _ _=>False) e s'->False):W.WalkO q loose XP YP l.row.toRowW d [] (λf vs=>Sx f vs):=by refine Att.G6 hn hdf λw s₀ s₁ mg mb fa o pm cd doc a vs ns G Y ho hd hcd hmg hobj hints ag hg=>?_;have KX:=hY w _ Y;obtain⟨fd,hb,hF⟩:=F w mg fa _ KX G.T.g hmg;exact mW KX G.T.g G.T.b G.T.builtins G.T.nolimit hg hobj hints (Dz ag hn2) hr hF hb (λH hO hS=>hsp w H a ns ag hO hS) λH e s'=>hCX w H s₁ e s'
theorem A7{l:Tw}{n k:Nat}{q:As}{loose:List Us}{XP:(Us->Option Ul)->Uw->Prop}{YP:Uu->Uw->Prop}{d:DefRec}{K:Qg->Ai}{CX:BL}{sp:Ai->Sp}{x:Us}(hn:l.most=some n)(hn2:n<=sizeLine)(hdf:d.params.defaults=[])(hr:Y7 k Nx)(hY:∀(w:Uu) (h:Uw),YP w h->(K w.params).In h)(F:∀(w:Uu) (mg:Us->Option Ul) (fa:Um) (h:Uw),(K w.params).In h->h.Ns Up mg->mg d.name=some (.ref fa)->∃fd:Cu,(∀(s:Ad) (u:Ul),Po s fd ⟨[u],[]⟩ [(x,u)])∧ ∀base:Uw,(K w.params).In base->base.Ns Up mg->Z7 l.prog w (K w.params) mg base CX k fa fd [x] (sp (K w.params)))(hsp:∀(K:Ai) (H:Hp) (a:Um) (ns:List Int),ns.length<=n->Only H->X6 K H a (ns.map V.int)->sp K [.ref a] H (λv _=>v=.bl true) λ_ _ _=>False)(hCX:∀(H:Hp) (s:Ad) (e:Ul) (s':Ad),CX [] H s (λ_ _ _=>False) e s'->False):W.WalkO q loose XP YP l.row.toRowW d [] (λf vs=>Sx f vs):=
 mT (K:=K) (CX:=λ_=>CX) (sp:=λw=>sp (K w.params)) hn hn2 hdf hr hY F (λw H a ns h1 h2 h3=>hsp (K w.params) H a ns h1 h2 h3) λ_ H s e s'=>hCX H s e s'
noncomputable def YR(s:Ux):Arguments:=match s with
 |.FunctionDef _ a _ _ _ _ _ _ _ _=>a
 |_=>{posonlyargs:=[],args:=[],vararg:=none,kwonlyargs:=[],kw_defaults:=[],kwarg:=none,defaults:=[]}
def aP(s:Ux):List Ux:=match s with
 |.FunctionDef _ _ b _ _ _ _ _ _ _=>b
 |_=>[]
noncomputable def cL(s:Ux):Vd:=match s with
 |.FunctionDef _ _ _ _ _ _ sc _ _ _=>sc
 |_=>{kind:=.function,names:=[],isGenerator:=false,isCoroutine:=false}
abbrev CX0:BL:=λ_ _ _ _ _ _=>False
abbrev E0:XK:=λ_ _ _=>False
theorem Wd{X:Cx}:FJ CX0 X E0:=λ_ _ _ _ _ _ _ h=>h.elim
structure X8(K:Ai)(x qual:Us)(st:Ux)(f:Um)(fd:Cu):Prop where
 ex:∃(oc:Ul) (od:Option Um) (kV doc pm:Ul) (an:Option Um) (cdv ct:Ul) (osl:Array (Option Ul)),
  fd=Mc x qual (YR st) (aP st) (cL st) .none kV doc pm an cdv ct/\K.lookup f=some ⟨oc,od,.func fd,osl⟩/\Op K cdv qual=true
 kp:Hh K (.ref f)=true
section
variable{P:As}{w:Uu}{K:Ai}{mg:Us->Option Ul}{base:Uw}
theorem X8.ok{x qual:Us}{st:Ux}{f:Um}{fd:Cu}{N ps:List Us}{k:Nat}{sp:Sp}(F:X8 K x qual st f fd)(S:bX N ps (cL st))(len:∀vs H Q E,sp vs H Q E->vs.length=ps.length)(aq:∀(cdv:Ul) (A:Bt) (outer:List Env) (s:Ad) (H:Hp) (vs:List V) (Q:VK) (E:XK),Y7 k (A.deeper (envOfC qual (cL st) s.heap.objs.size f cdv))->sp vs H Q E->∃t,WZ (TJ CX0 P w K mg base N qual (cL st) f cdv A outer s H E).nox (aP st) t/\t {nx:=λ_ H'=>Q .non H',rt:=Q} (start N vs) H):Z7 P w K mg base CX0 (k+1) f fd ps sp:=by obtain⟨oc,od,kV,doc,pm,an,cdv,ct,osl,rfl,lk,hcd⟩:=F.ex;refine Wt lk hcd S len λA outer s H vs Q E hr hsp=>?_;obtain⟨t,h,q⟩:=aq cdv A outer s H vs Q E hr hsp;exact⟨t,h.nox,q⟩
theorem X8.binds{x qual:Us}{st:Ux}{f:Um}{fd:Cu}{ps:List Us}(F:X8 K x qual st f fd)(h:∀(kV doc pm:Ul) (an:Option Um) (cdv ct:Ul) (us:List Ul),us.length=ps.length->Rg (Mc x qual (YR st) (aP st) (cL st) .none kV doc pm an cdv ct) ⟨us,[]⟩=pure (ps.zip us)):U2 K fd ps []:=by obtain⟨oc,od,kV,doc,pm,an,cdv,ct,osl,rfl,lk,hcd⟩:=F.ex;exact .all (h kV doc pm an cdv ct)
theorem J3{x qual:Us}{st:Ux}{f:Um}{oc:Ul}{od an:Option Um}{osl:Array (Option Ul)}{kV doc pm cdv ct:Ul}(l:K.lookup f=some ⟨oc,od,.func (Mc x qual (YR st) (aP st) (cL st) .none kV doc pm an cdv ct),osl⟩)(c:Op K cdv qual=true)(k:Hh K (.ref f)=true):X8 K x qual st f (Mc x qual (YR st) (aP st) (cL st) .none kV doc pm an cdv ct):=⟨⟨oc,od,kV,doc,pm,an,cdv,ct,osl,rfl,l,c⟩,k⟩
end
theorem Yd{A:Bt}{k:Nat}(hr:Y7 k A):A.units+1<cLine:=Ov (Nat.add_le_add_left (by decide:1<=64) _) hr.units
section
variable{X:Cx}
theorem pv(i:Nat){x:Us}{pos:Pos}(hN:X.N[i]?=some x:=by rfl)(hv:Vis X.env.scope x:=by first|exact Gp rfl|exact Fd (Gp rfl)|exact Fd (Fd rfl))(hd:(x==("__debug__":Us))=false:=by decide)(hcd:(x==("__classdict__":Us))=false:=by decide):PE X (.Name x pos) (KZ i):=GA hN hv hd hcd
end
theorem M9{A B:Prop}(h:B):if false=true then A else B:=by rw[if_neg Dr];exact h
theorem NA{A B:Prop}(h:A):if true=true then A else B:=by rw[if_pos rfl];exact h
def aL(H H':Hp):Prop:=∀b o,H b=some o->H' b=some o
theorem aL.refl(H:Hp):aL H H:=λ_ _ h=>h
theorem aL.trans{H H1 H2:Hp}(a:aL H H1)(b:aL H1 H2):aL H H2:=λc o h=>b c o (a c o h)
theorem aL.seq{K:Ai}{H H':Hp}{a:Um}{xs:List V}(e:aL H H')(h:X6 K H a xs):X6 K H' a xs:=by
 rcases h with(h|⟨o,h⟩)|h
 ·exact .inl (.inl (e _ _ h))
 ·exact .inl (.inr ⟨o,e _ _ h⟩)
 ·exact .inr h
theorem JX{env:Env}{f:Us×Vc->List (Us×Um)->Vf (ForInStep (List (Us×Um)))}(hf:∀n k r,f (n,k) r=if(k==Bk)=true then(cellOf env n>>=λc=>pure (Ds ((n,c)::r))) else pure (Ds r)):∀(names:List (Us×Vc)) (cs:List (Us×Um)),(∀y∈names,y.2=.free->∃c,env.cells.lookup y.1=some c)->∃cl,forIn names cs f=(pure cl:Vf (List (Us×Um)))/\(∀x c,cl.lookup x=some c->cs.lookup x=some c∨env.cells.lookup x=some c)∧(∀x c,cs.lookup x=some c->∃c',cl.lookup x=some c')/\∀x,(x,Bk)∈names->∃c,cl.lookup x=some c
 |[],cs,_=>⟨cs,rfl,λ_ _ e=>.inl e,λ_ c e=>⟨c,e⟩,λ_ h=>nomatch h⟩
 | (n,k) :: r,cs,h => by
  have hr:∀y∈r,y.2=.free->∃c,env.cells.lookup y.1=some c:=λy hy=>h y (An _ hy);by_cases hk:k=.free
  ·subst hk
   obtain⟨c,hc⟩:=h (n,.free) Ar rfl;have hc:env.cells.lookup n=some c:=hc;obtain⟨cl,e1,e2,e3,e4⟩:=JX hf r ((n,c)::cs) hr;refine⟨cl,?_,λx c' e=>?_,λx c' e=>?_,λx hx=>?_⟩
   ·rw [Kc,hf,if_pos (show (Bk == Bk) = true by decide)]
    have ec:cellOf env n=pure c:=by unfold cellOf;rw[hc]
    rw[ec,pure_bind,pure_bind];exact e1
   ·rcases e2 x c' e with q|q
    ·by_cases hx:x=n
     ·subst hx
      rw[Ec] at q;cases q;exact .inr hc
     ·rw[Ce,beq_eq_false_iff_ne.mpr hx] at q
      exact .inl q
    ·exact .inr q
   ·by_cases hx:x=n
    ·subst hx
     exact e3 x c (Ec ..)
    ·refine e3 x c' ?_
     rw[Ce,beq_eq_false_iff_ne.mpr hx];exact e
   ·rcases Ak.mp hx with q|q
    ·cases q
     exact e3 n c (Ec ..)
    ·exact e4 x q
  ·obtain⟨cl,e1,e2,e3,e4⟩:=JX hf r cs hr
   refine⟨cl,?_,e2,e3,λx hx=>?_⟩
   ·have hb : ¬ (k == Bk) = true := by simpa using hk
    rw[Kc,hf,if_neg hb,pure_bind];exact e1
   ·rcases Ak.mp hx with q|q
    ·cases q
     exact absurd rfl hk
    ·exact e4 x q
theorem DX{env:Env}{scope:Vd}(h:∀y∈scope.names,y.2=.free->∃c,env.cells.lookup y.1=some c):∃cl,closureFor scope env=pure cl/\(∀x c,cl.lookup x=some c->env.cells.lookup x=some c)/\∀x,(x,Bk)∈scope.names->∃c,cl.lookup x=some c:=by
 simp only[closureFor];obtain⟨cl,e1,e2,_,e4⟩:=JX (env:=env) (f:=λx r=>match x with
  |(name,kind)=>if(kind==Bk)=true then(cellOf env name>>=λc=>pure (Ds ((name,c)::r))) else pure (Ds r)) (λ_ _ _=>rfl) scope.names [] h
 refine⟨cl,?_,λx c e=>?_,e4⟩
 ·first
   |exact e1
   |(refine Eq.trans (congrArg (λm=>m>>=pure) e1) ?_;exact pure_bind _ _)
 ·rcases e2 x c e with q|q
  ·cases q
  ·exact q
def Y0(ix:List Nat)(σ:St):St:=ix.map λi=>(σ[i]?).join
def PTs(Y:Cx)(ifs:List Ut)(tt:TT):Prop:=
 ∀(aa:List (Um×Uy)) (s:Ad) (σ:St) (H:Hp) (Q:Bool->Hp->Prop),b9 Y aa σ H s->tt σ H Q->
  Uq (Ur Y.prog Y.w) Y.A (forIn ifs true λc r=>if r=true then do let ok<-isTrue c Y.env (eval c Y.env);pure (Ds ok) else pure (Ds r)) (TP Y aa σ Q) Y.xe s
def tYes:TT:=λ_ H Q=>Q true H
theorem dQ{Y:Cx}:PTs Y [] tYes:=λ_ _ _ H _ I h=>wpAny_tests_nil ⟨H,I,h⟩
theorem Zm{Y:Cx}{c:Ut}{tt:TT}(h:PT Y c tt):PTs Y [c] tt:=λaa s σ H Q I hw=>wpAny_tests_one (h aa s σ H Q I hw)
structure Blk(Y:Cx)(tg:Ut)(ifs:List Ut)(elt:Ut)(g:TG)(tt:TT)(te:TE):Prop where
 tg:PG Y tg g
 ts:PTs Y ifs tt
 el:PE Y elt te
theorem BZ{prog:As}{w:Uu}{A:Bt}{s:Ad}{elt c9 iter:Ut}{ifs:List Ut}{scope:Vd}{pos:Pos}{it acc:Ul}{env:Env}{R:Tu->Ad->Prop}(I:Nat->Ad->Prop)(turn:∀n s,I n s->Uq (Ur prog w) A (pyNext it) (λr s₁=>match r with
   |none=>R (.ok .next) s₁
   | some v => Uq (Ur prog w) A (Kb c9 it v) (λ_ s₀ => Uq (Ur prog w) A (Hv c9 env v) (λ_ s₂ =>
     Uq (Ur prog w) A (forIn ifs true λc r=>if r=true then do let ok<-isTrue c env (eval c env);pure (Ds ok) else pure (Ds r)) (λok s₃=>if ok=true then Uq (Ur prog w) A (eval elt env) (λx s₄=>
      Uq (Ur prog w) A (call (.builtin "list.append") [acc,x]) (λ_ s₅=>∃m,m<n/\I m s₅) (λ_ _=>False) s₄) (λ_ _=>False) s₃
      else∃m,m<n/\I m s₃) (λ_ _=>False) s₂)
     (λ_ _=>False) s₀) (λ_ _=>False) s₁) (λ_ _=>False) s)
  (n:Nat) (h:I n s):Jm (Ur prog w) A (.compLoop (.ListComp elt [⟨c9,iter,ifs,0⟩] scope pos) 0 it acc env) R s:=by
 refine codeAny_loop rfl I (λn s hI=>?_) n h;show Uq _ A ((compTurn (.ListComp elt [⟨c9,iter,ifs,0⟩] scope pos) 0 it acc env).onRaise (λx=>do noteFrame x env;theTreesLotGoes x)) _ _ s;refine wpAny_noted ?_;rw[compTurn_list];refine Aa (Fm (Aa (Bj (turn n s hI) (λr s₁ h₁=>?_) λ_ _ h'=>h'.elim)));cases r with
 |none=>exact Ah h₁
 |some v=>
  refine Aa (Bj h₁ (λ_ s₀ h₀'=>?_) λ_ _ h'=>h'.elim);refine Aa (Bj h₀' (λ_ s₂ h₂=>?_) λ_ _ h'=>h'.elim);refine Aa (Bj h₂ (λokb s₃ h₃=>?_) λ_ _ h'=>h'.elim);cases okb with
  |false=>exact Ah ⟨rfl,h₃⟩
  |true=>exact Aa (Aa (Bj h₃ (λx s₄ h₄=>Aa (Bj h₄ (λ_ s₅ h₅=>Ah (Ah ⟨rfl,h₅⟩)) λ_ _ h'=>h'.elim)) λ_ _ h'=>h'.elim))
section
variable{X:Cx}{aa:List (Um×Uy)}{σ:St}{H H':Hp}{s s1 s':Ad}{h'':Uw}
theorem b9.offNew{σ':St}{H1:Hp}(I1:b9 X aa σ H1 s1)(I':b9 X aa σ' H' s')(hn:H' s1.heap.objs.size=none)(sb:∀b o,b≠s1.heap.objs.size->s'.heap.get? b=some o->h''.get? b=some o):b9 X aa σ' H' {s' with heap:=h''}:=
 I'.turned (t':=s'.toks) (it:=s1.heap.objs.size) sb hn (Hk I1.lt) (.inr I1.sz)
  (λx c e z=>by obtain⟨v,q⟩:=I1.cell x c e;have:=q.lt;rw[z] at this;exact Cb _ this)
  λp hp z=>by have:=Aj (I1.pin p hp).1;rw[z] at this;exact Cb _ this
end
def Wk(D:Um)(ix:List Nat)(nl:Nat)(J:It)(g:TG)(tt:TT)(te:TE)(σ:St)(H0:Hp)(Q:Hp->Prop):Prop:=
 ∃W:Nat->Nat->List V->Hp->Prop,(∃m,W 0 m [] (upd H0 D (.lst [])))/\∀i m acc H1,W i m acc H1->
  (J.stop i H1/\Q H1)∨
  (J.go i H1/\ ∃N:List V->Hp->Prop,(∀bh H',N bh H'-> ∃m',m'<m/\W (i+1) m' bh H')∧
   ∀x H2,J.yld i H1 x H2->g x (Y0 ix σ++At nl none) H2 λσ2 H3=>σ2.take ix.length=Y0 ix σ∧
    tt σ2 H3 λb H4=>if b=true then te σ2 H4 λv H5=>H5 D=some (.lst acc)/\acc.length<sizeLine/\N (acc++[v]) (upd H5 D (.lst (acc++[v]))) else N acc H4)
theorem RX{env:Env}{x:Us}:∀{l:List (Us×Vc)},l.lookup x=some .free->(l.map λ(n,k)=>if(k==Bk&&env.scope.kind== .function&&env.kindOf n==some .cell) then(n,Cc) else(n,k)).lookup x=some .cell∨(l.map λ(n,k)=>if(k==Bk&&env.scope.kind== .function&&env.kindOf n==some .cell) then(n,Cc) else(n,k)).lookup x=some .free
 |[],h=>by cases h
 | (n,k) :: r,h => by
  show Hj x ((if(k==Bk&&env.scope.kind== .function&&env.kindOf n==some .cell)=true then(n,Cc) else(n,k))::_)=some .cell∨Hj x ((if(k==Bk&&env.scope.kind== .function&&env.kindOf n==some .cell)=true then(n,Cc) else(n,k))::_)=some .free;by_cases hx:x=n
  ·subst hx
   rw[Ec] at h;cases h;by_cases hc:(Bk==Bk&&env.scope.kind== .function&&env.kindOf x==some .cell)=true
   ·left
    rw[if_pos hc,Ec]
   ·right
    rw[if_neg hc,Ec]
  ·have hb:(x==n)=false:=beq_eq_false_iff_ne.mpr hx
   simp only[Ce,hb] at h;have ih:=RX (env:=env) h;by_cases hc:(k==Bk&&env.scope.kind== .function&&env.kindOf n==some .cell)=true
   ·rw[if_pos hc]
    simp only[Ce,hb];exact ih
   ·rw[if_neg hc]
    simp only[Ce,hb];exact ih
def E9(ix:List Nat)(nl:Nat)(wi:TI)(g:TG)(tt:TT)(te:TE):TE:=λσ H Q=>wi σ H λJ H0=>∀D,H0 D=none->Wk D ix nl J g tt te σ H0 λH'=>Q (.ref D) H'
mutual
inductive Dp(K:Ai)(H:Hp):V->No->Prop
 |non:Dp K H .non .none
 |bl (b:Bool):Dp K H (.bl b) (.bool b)
 |int (i:Int):Dp K H (.int i) (.int i)
 |str (x:Us):Dp K H (.str x) (.str x)
 |lst {a:Um} {xs:List V} {ds:List No}:X6 K H a xs->NF K H xs ds->Dp K H (.ref a) (.list ds)
 |tup {a:Um} {xs:List V} {ds:List No}:WF K H a xs->NF K H xs ds->Dp K H (.ref a) (.tuple ds)
inductive NF(K:Ai)(H:Hp):List V->List No->Prop
 |nil:NF K H [] []
 |cons {v:V} {vs:List V} {d:No} {ds:List No}:Dp K H v d->NF K H vs ds->NF K H (v::vs) (d::ds)
end
section
variable{X:Cx}{aa:List (Um×Uy)}{σ:St}{H:Hp}{s:Ad}
mutual
theorem b9.reads(I:b9 X aa σ H s):∀{v:V} {d:No} {u:Ul},Dp X.K H v d->bS v u->∃as,Reads s.heap u d as
 |_,_,_,.non,r=>by cases r;exact⟨_,.none⟩
 |_,_,_,.bl b,r=>by cases r;exact⟨_,.bool b⟩
 |_,_,_,.int i,r=>by obtain⟨t,rfl⟩:=r;exact⟨_,.int i t⟩
 |_,_,_,.str x,r=>by obtain⟨t,rfl⟩:=r;exact⟨_,.str x t⟩
 |_,_,_,.lst q all,r=>by
  cases r;obtain⟨its,rv,⟨o,n,e,c,_,d⟩,_⟩:=I.list q;obtain⟨as,h⟩:=b9.readsAll I all rv;exact⟨_,.list e c d (by simpa using h)⟩
 |_,_,_,.tup q all,r=>by
  cases r;obtain⟨its,rv,⟨o,e,c,n,d⟩,_⟩:=I.tuple q;obtain⟨as,h⟩:=b9.readsAll I all rv;exact⟨_,.tuple e c d (by simpa using h)⟩
theorem b9.readsAll(I:b9 X aa σ H s):∀{vs:List V} {ds:List No} {us:List Ul},NF X.K H vs ds->bE vs us->∃as,ReadsAll s.heap us ds as
 |_,_,_,.nil,r=>by cases r;exact⟨_,.nil⟩
 | _,_,_,.cons h t,r => by
  cases r with
  |cons r1 r2=>
   obtain⟨as,h1⟩:=b9.reads I h r1;obtain⟨bs,h2⟩:=b9.readsAll I t r2;exact⟨_,.cons h1 h2⟩
end
end
def rEqD(K:Ai):R2:=λx y H Q=>∃d e,Dp K H x d/\Dp K H y e/\Es d=true/\Es e=true/\Q (.bl (Ju d e)) H
def rNeD(K:Ai):R2:=λx y H Q=>∃d e,Dp K H x d/\Dp K H y e/\Es d=true/\Es e=true/\Q (.bl (!PyData.eqv d e)) H
section
variable{X:Cx}
theorem Zh(hu:X.A.units+64<cLine):W9 X (Cr .Eq) (rEqD X.K):=by intro aa s σ H x y v u Q I rx ry h;obtain⟨d,e,hd,he,sd,se,q⟩:=h;obtain⟨as,h1⟩:=I.reads hd rx;obtain⟨bs,h2⟩:=I.reads he ry;exact eq_dataH h1 h2 sd se hu (FU I q rfl)
theorem gQ(hu:X.A.units+64<cLine):W9 X (Cr .NotEq) (rNeD X.K):=by intro aa s σ H x y v u Q I rx ry h;obtain⟨d,e,hd,he,sd,se,q⟩:=h;obtain⟨as,h1⟩:=I.reads hd rx;obtain⟨bs,h2⟩:=I.reads he ry;exact ne_dataH h1 h2 sd se hu (FU I q rfl)
def rngP(p:Um)(a b c:Int):Uw->Prop:=λh=>∃t u v,IsRange h p a b c t u v
inductive K9:List Ml->List (Us×V)->Prop
 |nil:K9 [] []
 |cons {e:Ml} {es:List Ml} {x:Us} {t:Vh} {v:V} {D:List (Us×V)}:e.key=.str x t->bS v e.val->K9 es D->K9 (e::es) ((x,v)::D)
def KTab(K:Ai)(a:Um)(D:List (Us×V)):Prop:=
 (a==Fy)=false/\∃o es ep,K.lookup a=some o/\o.ExactDict/\o.data=.dict es ep/\K9 es.toList D
theorem K9.rows{es:List Ml}{D:List (Us×V)}(h:K9 es D):KTD.Rows bS es D:=by
 induction h with
 |nil=>exact .nil
 |cons h1 h2 _ ih=>exact .cons h1 h2 ih
theorem HP{A:Bt}{E:Ul->Ad->Prop}{s:Ad}{K:Ai}{prog:As}{w:Uu}{a:Um}{D:List (Us×V)}{k:Us}{tk:Vh}{Q:Option Ul->Ad->Prop}(hK:K.In s.heap)(T:KTab K a D)(h1:∀d v,Ft k D=some d->bS d v->Q (some v) {s with toks:=s.toks+1})(h2:Ft k D=none->Q none {s with toks:=s.toks+1}):Uq (Ur prog w) A (dictGet a (.str k tk)) Q E s:=by
 obtain⟨_,o,es,ep,ho,hc,hd,hr⟩:=T;have ho:=hK _ _ ho;have hr:=hr.rows;unfold dictGet;try with_reducible refine Bq ?_
 refine Aa (wpAny_pyHash_str (Aa (KTD.kt_dictFind_strs (s:={s with toks:=s.toks+1}) ho hd (by obtain⟨l⟩:=es;simpa using hr.exact) ?_)));have hq:Q (findBy (λk v=>v.isStr k) es k) {s with toks:=s.toks+1}:=by
  have hf:findBy (λk v=>v.isStr k) es k=(es.toList.find? λe=>e.key.isStr k).map (·.val):=by obtain⟨l⟩:=es;simp[findBy]
  rw[hf];cases hat:Ft k D with
  |some d=>obtain⟨v,hv,hfl⟩:=hr.find_some hat;rw[hv];exact h1 d v hat hfl
  |none=>rw[hr.find_none hat];exact h2 hat
 rw[findBy_of_findIdx?] at hq;cases hi:es.findIdx? λe=>e.key.isStr k with
 |none=>rw[hi] at hq;exact Ah hq
 |some i=>rw[hi] at hq;exact Aa (wpAny_dictEntries (s:={s with toks:=s.toks+1}) ho hd (Ah hq))
theorem kZ:BN X (λx y H Q=>∃a k D v,x=.ref a/\y=.str k/\KTab X.K a D/\Ft k D=some v/\Q v H):=by
 intro value slice aa s σ H x y v u Q I rx ry h hs;obtain⟨a,k,D,d,rfl,rfl,T,hk,q⟩:=h;cases rx;obtain⟨t,rfl⟩:=ry;have hT:s.TypeIs (.ref a) "dict":=by obtain⟨_,o,es,ep,ho,hc,_⟩:=T;exact⟨o,I.kIn _ _ ho,hc.1⟩
 have main:Uq (Ur X.prog X.w) X.A (Lq (.ref a) (.str k t)) (EP X aa σ Q) X.xe s:=by
  unfold Lq;try with_reducible refine Bq ?_
  refine Aa (Lb hT (by decide) ?_);refine Aa (Di (name:=Bf "__getitem__") hT Kw
   (El Kw hT PySem.F.entry_dict_getitem ?_ (PySem.F.args_dict_getitem_2 _ _)))
  show Uq _ _ (dictGet a (.str k t)>>=_) _ _ s;exact Aa (HP I.kIn T (λd' v' ha hv=>Ah ⟨v',rfl,Ah (by rw[hk] at ha;cases ha;exact⟨d,H,I.tok _,hv,q⟩)⟩) λhn=>by rw[hk] at hn;cases hn)
 exact Tc hT PySem.F.slot_dict_getitem.lookup main hs
end
section
variable{prog:As}{w:Uu}{A:Bt}{E:Ul->Ad->Prop}{s:Ad}
theorem LO{it t:Um}{items:Array Ul}(hne:t≠it):∀(n i:Nat) (s:Ad) (Q:List Ul->Ad->Prop),s.heap.IsListIter it t i->s.heap.IsList t items->i+n<=items.size->(∀h',h'.IsListIter it t (i+n)->Fl it s.heap h'->Q ((items.toList.drop i).take n) {s with heap:=h'})->Uq (Ur prog w) A (draw (.ref it) n) Q E s
 |0,i,s,Q,hit,_,_,hQ=>by show Uq _ _ (pure []) Q E s;exact Ah (by simpa using hQ s.heap hit (Heap.SameBut.refl ..))
 |n+1,i,s,Q,hit,ht,hle,hQ=>by
  have hlt:i<items.size:=by lia
  show Uq _ _ (pyNext (.ref it)>>=_) Q E s;refine Aa (Mg hit ht (x:=items[i]) (by simp[hlt]) λh₁ hit₁ hs₁=>?_);refine Aa (Bq (LO hne n (i+1) _ _ hit₁ (ht.extBut hs₁.extBut hne) (by lia) λh₂ hit₂ hs₂=>Ah ?_));have hd:items.toList.drop i=items[i]::items.toList.drop (i+1):=by simp[Ep,hlt]
  have:=hQ h₂ (by rw[show i+(n+1)=i+1+n by lia];exact hit₂) (hs₁.trans hs₂);rw[hd,Ny] at this;exact this
theorem Q2{t:Um}{items:Array Ul}{Q:List Ul->Ad->Prop}(hh:A.handled=none)(ht:s.heap.IsList t items)(hQ:∀h',Ke s.heap.objs.size s.heap h'->Q items.toList {s with heap:=h'}):Uq (Ur prog w) A (Jz (.ref t) items.size none) Q E s:=by
 have hlt:t≠s.heap.objs.size:=by obtain⟨o,ho,_⟩:=ht;exact Au (Aj ho)
 unfold Jz;refine Aa ?_
 ·unfold notIterableAtAll
  refine Aa (wpAny_specialOf ht.typeIs PySem.F.slot_list_iter.lookup ?_);refine Ah ?_;simp only[Eu,if_false];refine Aa (Bq (Gv ht ?_));have htp:(s.heap.push {cls:=.type "list_iterator",data:=.fields #[.ref t,.int 0 0]}).IsList t items:=by obtain⟨o,ho,r⟩:=ht;exact⟨o,Ac _ ho,r⟩
  refine Aa (Bq (LO hlt items.size 0 _ _ ⟨_,Aq _ rfl,rfl,rfl⟩ htp (by lia) λh₁ hit₁ hs₁=>?_));have jm:List.take items.size (List.drop 0 items.toList)=items.toList:=by rw[Np];exact Ck (by simp)
  rw[jm];rw[if_neg (by simp)];have ht₁:h₁.IsList t items:=htp.extBut hs₁.extBut hlt;refine Aa (Bq (Mo hh hit₁ ht₁ (by simp) λh₂ he₂=>?_));simp only[Option.isSome_none,Eu,if_false];refine Ah (hQ h₂ λb o hb e=>he₂ b o hb (hs₁.extBut b o hb (Ac _ e)))
theorem Q7{env:Env}{jc:List Ut}{x1}{pos:Pos}{t:Um}{items:Array Ul}{Q:Unit->Ad->Prop}(hh:A.handled=none)(ht:s.heap.IsList t items)(hn:(Uv jc env).length=items.size)(ls:(Uv jc env).findIdx? (·.1)=none)(h:∀h',Ke s.heap.objs.size s.heap h'->Uq (Ur prog w) A (Ve ((Uv jc env).map (·.2)) items.toList) Q E {s with heap:=h'}):Uq (Ur prog w) A (Hv (.Tuple jc x1 pos) env (.ref t)) Q E s:=by rw[assign_Tuple];refine Aa (Fm ?_);unfold unpack;rw[hn,ls];exact Aa (Bq (Q2 hh ht h))
end
section
variable{X:Cx}{pos:Pos}
def gLst(K:Ai)(n:Nat)(t:BR):TG:=λv σ H Q=>∃a xs,v=.ref a/\X6 K H a xs/\xs.length=n/\t xs σ H Q
theorem oQ{es:List Ut}{k:Nat}{t:BR}{n:Nat}(hc:X.calm=true)(h:DR X es t)(hn:(Uv es X.env).length=n:=by rfl)(hst:(Uv es X.env).findIdx? (·.1)=none:=by rfl):PG X (.Tuple es k pos) (gLst X.K n t):=by intro aa s σ H v u Q I r hw;obtain⟨a,xs,e1,hq,hl,hw⟩:=hw;subst e1;cases r;obtain⟨its,rv,ht,hz⟩:=I.list hq;refine Q7 (I.ok.hd hc) ht.isList (by simp[hn,<-hl,rv.length]) hst λh' hx=>?_;have I1:b9 X aa σ H {s with heap:=h'}:=I.kept (t':=s.toks) λb o e=>hx b o (Au (Aj e)) e;exact h aa _ σ H xs _ Q I1 (by simpa using rv) hw
def FnAt(X:Cx)(f:Um)(sp:Sp):Prop:=∃(k:Nat) (fd:Cu) (ps:List Us),Z7 X.prog X.w X.K X.mg X.base CX0 k f fd ps sp/\Y7 k X.A/\Hh X.K (.ref f)=true/\U2 X.K fd ps []
def kW(X:Cx)(tf:TE)(t:TA):TE:=λσ H Q=>tf σ H λx H1=>∃f sp,x=.ref f/\FnAt X f sp/\t σ H1 λvs H2=>sp vs H2 Q E0
end
section
variable{X:Cx}{K:Ai}
theorem Zx(h:X.K=K):Z1 X (.type "list") (λxs H Q=>∃p ys,xs=[.ref p]/\(X6 K H p ys∨WF K H p ys)/\∀l,H l=none->Q (.ref l) (upd H l (.lst ys))):=by subst h;exact JW
theorem cU(h:X.K=K):Z1 X (.type "tuple") (λxs H Q=>∃p ys,xs=[.ref p]/\((X6 K H p ys/\∀l,H l=none->Q (.ref l) (upd H l (.tup ys)))∨(WF K H p ys/\Q (.ref p) H))):=by subst h;exact M8
theorem kEqD(h:X.K=K)(hu:X.A.units+64<cLine):W9 X (Cr .Eq) (rEqD K):=by subst h;exact Zh hu
theorem N2(h:X.K=K)(hu:X.A.units+64<cLine):W9 X (Cr .NotEq) (rNeD K):=by subst h;exact gQ hu
theorem Yt(h:X.K=K){es:List Ut}{k:Nat}{t:BR}{n:Nat}{pos:Pos}(hc:X.calm=true)(hg:DR X es t)(hn:(Uv es X.env).length=n:=by rfl)(hst:(Uv es X.env).findIdx? (·.1)=none:=by rfl):PG X (.Tuple es k pos) (gTup K n t):=by subst h;exact mC hc hg hn hst
theorem mV(h:X.K=K){es:List Ut}{k:Nat}{t:BR}{n:Nat}{pos:Pos}(hc:X.calm=true)(hg:DR X es t)(hn:(Uv es X.env).length=n:=by rfl)(hst:(Uv es X.env).findIdx? (·.1)=none:=by rfl):PG X (.Tuple es k pos) (gLst K n t):=by subst h;exact oQ hc hg hn hst
theorem Wx(h:X.K=K){tg l:Ut}{tl:TE}(hl:PE X l tl):PI X tg l (Yg K tl):=by subst h;exact Yx hl
theorem Yw(h:X.K=K){tg l:Ut}{tl:TE}(hl:PE X l tl):PI X tg l (iTup K tl):=by subst h;exact Zv hl
theorem kBm(h:X.K=K){o e:Ut}{es:List Ut}{to:TE}{t:TA}{name:Us}{ao af:Pos}{T id:String}{r:V->List V->Hp->VK->Prop}(pa:PlainAttrs T)(slot:Slot T name id)(hty:Nl (.builtin id)=pure (.type "method_descriptor"))(hm:MtR X id r)(ho:PE X o to)(ha:PA X (e::es) t)(c8:Fo o name X.env (eval o X.env)=eval o X.env:=by rfl)(di:((Dq af (Uo (e::es) X.env)).all (λx=> !x.1)&&(Ic af (Fc [] X.env)).all (λx=>x.1.isSome)&&decide ((e::es).length+([]:List Iy).length+(if([]:List Iy).isEmpty then 0 else 1)<30))=true:=by rfl)(bz:(ao.endLine==af.line)=true:=by rfl)(hs:Uo (e::es) X.env=(false,eval e X.env)::Uo es X.env:=by rfl)(ax:(Dq af (Uo es X.env)).any (·.1)=false:=by rfl):PE X (.Call (.Attribute o name ao) (e::es) [] af) (tBM K T r to t):=by subst h;exact lQ pa slot hty hm ho ha c8 di bz hs ax
end
theorem hV:Be "len"=some (.builtin "len"):=by decide+kernel
theorem mH:Be "min"=some (.builtin "min"):=by decide+kernel
theorem jK:Be "max"=some (.builtin "max"):=by decide+kernel
theorem BS:Be "sorted"=some (.builtin "sorted"):=by decide+kernel
theorem bP:Be "isinstance"=some (.builtin "isinstance"):=by decide+kernel
theorem T0:Be "list"=some (.type "list"):=by decide+kernel
theorem XU:Be "tuple"=some (.type "tuple"):=by decide+kernel
theorem eG:Be "range"=some (.type "range"):=by decide+kernel
theorem Zi:Be "bool"=some (.type "bool"):=by decide+kernel
theorem nY:Be "int"=some (.type "int"):=by decide+kernel
theorem oB:Be "str"=some (.type "str"):=by decide+kernel
structure Def(P:As)(w:Uu)(K:Ai)(mg:Us->Option Ul)(base:Uw)(x:Us)(k:Nat)(ps:List Us)(sp:Sp)(f:Um):Prop where
 at_:mg x=some (.ref f)
 ok:∃fd,Z7 P w K mg base CX0 k f fd ps sp/\U2 K fd ps []
 kp:Hh K (.ref f)=true
section
variable{X:Cx}{x:Us}{k j:Nat}{ps:List Us}{sp:Sp}{f:Um}{p pos:Pos}{e:Ut}{es:List Ut}{t:TA}
theorem fZ(D:Def X.prog X.w X.K X.mg X.base x k ps sp f)(hr:Y7 j X.A)(hk:k<=j)(hg:Gl X x)(ha:PA X (e::es) t)(hdb:(x==("__debug__":Us))=false:=by decide)(he:Uo (e::es) X.env=(false,eval e X.env)::Uo es X.env:=by rfl)(hpl:(Dq pos (Uo es X.env)).any (·.1)=false:=by rfl):PE X (.Call (.Name x p) (e::es) [] pos) (E8 sp [] E0 t):=by obtain⟨fd,F,B⟩:=D.ok;exact kN F (hr.mono hk) hg D.at_ D.kp B .nil Wd ha hdb he hpl
theorem Def.fnAt(D:Def X.prog X.w X.K X.mg X.base x k ps sp f)(hr:Y7 j X.A)(hk:k<=j):FnAt X f sp:=by obtain⟨fd,F,B⟩:=D.ok;exact⟨k,fd,ps,F,hr.mono hk,D.kp,B⟩
end
theorem cJ{H:Hp}{p:Um}{o:HO}(hp:H p=none):aL H (upd H p o):=λb o' e=>by rw[bM (X4 e hp)];exact e
theorem IV(ns:List Int):Es (.list (ns.map Ps))=true:=by
 have h1:Gk (.list (ns.map Ps))=true:=by simp only[Gk,canLayAll_ints]
 have h2:Jk (.list (ns.map Ps))<=64:=by simp only[Jk,depthAll_ints];decide
 unfold Es;rw[h1,decide_eq_true h2];rfl
inductive cO where
 |non|bl (b:Bool)|int (i:Int)|str (x:Us)|ty (n:String)|fn (x:Us)|tup (ds:List cO)|lst (ds:List cO)|dct (ks:List aG) (ds:List cO)|exn (x:Us)|exr (x n:Us) (d:cO)
def FzL(K:Ai)(H:Hp)(a:Um)(xs:List V):Prop:=
 (∃o,H a=some (.frz o (.lst xs)))∨
  ∃(o:Uy) (its:Array Ul) (n:Nat),K.lookup a=some o/\o.cls=.type "list" /\o.dict=none/\o.data=.seq its n/\its.size<=sizeLine/\bE xs its.toList
theorem FzL.sq{K:Ai}{H:Hp}{a:Um}{xs:List V}(h:FzL K H a xs):X6 K H a xs:=by
 rcases h with⟨o,h⟩|h
 ·exact .inl (.inr ⟨o,h⟩)
 ·exact .inr h
def DP(h:Uw)(a C:Um):Prop:=∃o vs,h.get? a=some o/\o.cls=.ref C/\o.data=.fields vs
def Wg(h:Uw)(a C D:Um):Prop:=∃o vs,h.get? a=some o/\o.cls=.ref C/\o.data=.fields vs/\o.dict=some D
mutual
inductive bB(K:Ai)(N:Um->Prop)(H:Hp):(Um->Prop)->V->cO->Prop
 |non {M:Um->Prop}:bB K N H M .non .non
 |bl {M:Um->Prop} (b:Bool):bB K N H M (.bl b) (.bl b)
 |int {M:Um->Prop} (i:Int):bB K N H M (.int i) (.int i)
 |str {M:Um->Prop} (x:Us):bB K N H M (.str x) (.str x)
 |ty {M:Um->Prop} (n:String):bB K N H M (.ty n) (.ty n)
 |fn {M:Um->Prop} {a:Um} {x:Us}:Et K Up x=some (some (.ref a))->bB K N H M (.ref a) (.fn x)
 |tup {M:Um->Prop} {a:Um} {xs:List V} {ds:List cO}:WF K H a xs->bY K N H xs ds->bB K N H M (.ref a) (.tup ds)
 |lst {M:Um->Prop} {a:Um} {xs:List V} {ds:List cO}:H a=some (.lst xs)->¬M a->bY K N H xs ds->bB K N H M (.ref a) (.lst ds)
 |fzl {M:Um->Prop} {a:Um} {xs:List V} {ds:List cO}:FzL K H a xs->bY K N H xs ds->bB K N H M (.ref a) (.lst ds)
 |dct {M:Um->Prop} {a:Um} {kvs:List (aG×V)} {ds:List cO}:H a=some (.dK kvs)->¬M a->bY K N H (kvs.map Er) ds->bB K N H M (.ref a) (.dct (kvs.map Dj) ds)
 |ktb {M:Um->Prop} {a:Um} {D:List (Us×V)} {ds:List cO}:KTab K a D->bY K N H (D.map Er) ds->bB K N H M (.ref a) (.dct (D.map λp=>.inr p.1) ds)
 |exn {M:Um->Prop} {a C:Um} {x:Us} {φ:Uw->Prop}:Et K Up x=some (some (.ref C))->H a=some (.ext φ)->(∀h,φ h->DP h a C)->bB K N H M (.ref a) (.exn x)
 |exr {M:Um->Prop} {a C D:Um} {x n:Us} {φ:Uw->Prop} {v:V} {d:cO}:Et K Up x=some (some (.ref C))->H a=some (.ext φ)->(∀h,φ h->Wg h a C D)->H D=some (.xd [(n,v)])->bB K N H N v d->bB K N H M (.ref a) (.exr x n d)
inductive bY(K:Ai)(N:Um->Prop)(H:Hp):List V->List cO->Prop
 |nil:bY K N H [] []
 |cons {v:V} {vs:List V} {d:cO} {ds:List cO}:bB K N H N v d->bY K N H vs ds->bY K N H (v::vs) (d::ds)
end
def Hard:HO->Prop
 |.tup _=>True
 |.frz _ _=>True
 |.ext _=>True
 |.xd _=>True
 |_=>False
def Fr(P:Um->Prop)(H H':Hp):Prop:=∀b o,H b=some o->(P b->Hard o)->H' b=some o
theorem Fr.refl(P:Um->Prop)(H:Hp):Fr P H H:=λ_ _ h _=>h
theorem Fr.trans{P:Um->Prop}{H H1 H2:Hp}(a:Fr P H H1)(b:Fr P H1 H2):Fr P H H2:=λc o h n=>b c o (a c o h n) n
theorem Fr.mono{P P':Um->Prop}{H H':Hp}(a:Fr P H H')(h:∀b,P b->P' b):Fr P' H H':=λc o e n=>a c o e λz=>n (h c z)
theorem aL.fr{P:Um->Prop}{H H':Hp}(a:aL H H'):Fr P H H':=λc o h _=>a c o h
section
variable{K:Ai}{N N' M M' P:Um->Prop}{H H':Hp}
theorem Fr.tup(f:Fr P H H'){a:Um}{xs:List V}(h:WF K H a xs):WF K H' a xs:=by
 rcases h with(h|⟨o,h⟩)|h
 ·exact .inl (.inl (f _ _ h λ_=>trivial))
 ·exact .inl (.inr ⟨o,f _ _ h λ_=>trivial⟩)
 ·exact .inr h
theorem Fr.fzl(f:Fr P H H'){a:Um}{xs:List V}(h:FzL K H a xs):FzL K H' a xs:=by
 rcases h with⟨o,h⟩|h
 ·exact .inl ⟨o,f _ _ h λ_=>trivial⟩
 ·exact .inr h
theorem bB.fr(f:Fr P H H')(hN:∀a,P a->N a){M:Um->Prop}{v:V}{d:cO}(hM:∀a,P a->M a)(h:bB K N H M v d):bB K N H' M v d:=
 bB.rec (motive_1:=λM v d _=>(∀a,P a->M a)->bB K N H' M v d) (motive_2:=λvs ds _=>bY K N H' vs ds) (λ_=>.non) (λb _=>.bl b) (λi _=>.int i) (λx _=>.str x) (λn _=>.ty n) (λq _=>.fn q) (λq _ r _=>.tup (f.tup q) r)
  (λq n _ r hM=>.lst (f _ _ q λz=>absurd (hM _ z) n) n r) (λq _ r _=>.fzl (f.fzl q) r) (λq n _ r hM=>.dct (f _ _ q λz=>absurd (hM _ z) n) n r) (λq _ r _=>.ktb q r) (λp q r _=>.exn p (f _ _ q λ_=>trivial) r)
  (λp q r s _ t _=>.exr p (f _ _ q λ_=>trivial) r (f _ _ s λ_=>trivial) (t hN)) .nil (λ_ _ a b=>.cons (a hN) b) h hM
theorem bY.map{K':Ai}{N':Um->Prop}{H':Hp}(g:∀{v d},bB K N H N v d->bB K' N' H' N' v d):∀{vs:List V} {ds:List cO},bY K N H vs ds->bY K' N' H' vs ds:=by
 intro vs;induction vs with
 |nil=>intro ds h;cases h;exact .nil
 |cons v vs ih=>intro ds h;cases h with|cons a b=>exact .cons (g a) (ih b)
theorem bY.fr(f:Fr P H H')(hN:∀a,P a->N a){vs:List V}{ds:List cO}(h:bY K N H vs ds):bY K N H' vs ds:=h.map λr=>r.fr f hN hN
theorem bB.mono(hN:∀a,N' a->N a){M M':Um->Prop}{v:V}{d:cO}(hM:∀a,M' a->M a)(h:bB K N H M v d):bB K N' H M' v d:=
 bB.rec (motive_1:=λM v d _=>∀M',(∀a,M' a->M a)->bB K N' H M' v d) (motive_2:=λvs ds _=>bY K N' H vs ds) (λ_ _=>.non) (λb _ _=>.bl b) (λi _ _=>.int i) (λx _ _=>.str x) (λn _ _=>.ty n) (λq _ _=>.fn q) (λq _ r _ _=>.tup q r)
  (λq n _ r _ hM=>.lst q (λz=>n (hM _ z)) r) (λq _ r _ _=>.fzl q r) (λq n _ r _ hM=>.dct q (λz=>n (hM _ z)) r) (λq _ r _ _=>.ktb q r) (λp q r _ _=>.exn p q r) (λp q r s _ t _ _=>.exr p q r s (t _ hN)) .nil (λ_ _ a b=>.cons (a _ hN) b) h M' hM
theorem bY.mono(hN:∀a,N' a->N a){vs:List V}{ds:List cO}(h:bY K N H vs ds):bY K N' H vs ds:=h.map λr=>r.mono hN hN
theorem bB.same(f:aL H H'){v:V}{d:cO}(h:bB K N H M v d):bB K N H' M v d:=h.fr f.fr (λ_ z=>z.elim) (P:=λ_=>False) λ_ z=>z.elim
theorem bY.same(f:aL H H'){vs:List V}{ds:List cO}(h:bY K N H vs ds):bY K N H' vs ds:=h.fr f.fr (P:=λ_=>False) λ_ z=>z.elim
theorem bY.length:∀{vs:List V} {ds:List cO},bY K N H vs ds->vs.length=ds.length
 |_,_,.nil=>rfl
 |_,_,.cons _ t=>congrArg (· +1) (bY.length t)
theorem bY.append:∀{vs ws:List V} {ds es:List cO},bY K N H vs ds->bY K N H ws es->bY K N H (vs++ws) (ds++es)
 |_,_,_,_,.nil,s=>s
 |_,_,_,_,.cons h t,s=>.cons h (bY.append t s)
theorem bY.get:∀{vs:List V} {ds:List cO} {i:Nat} {d:cO},bY K N H vs ds->ds[i]?=some d->∃v,vs[i]?=some v/\bB K N H N v d
 |_,_,_,_,.nil,e=>by simp at e
 |_,_,0,_,.cons r _,e=>by simp at e;subst e;exact⟨_,rfl,r⟩
 |_,_,i+1,x,.cons _ t,e=>by obtain⟨u,h1,h2⟩:=bY.get (i:=i) (d:=x) t (by simpa using e);exact⟨u,by simpa using h1,h2⟩
theorem bY.take:∀{vs:List V} {ds:List cO} (n:Nat),bY K N H vs ds->bY K N H (vs.take n) (ds.take n)
 |_,_,0,_=>.nil
 |_,_,_+1,.nil=>.nil
 |_,_,n+1,.cons r t=>.cons r (bY.take n t)
theorem bY.drop:∀{vs:List V} {ds:List cO} (n:Nat),bY K N H vs ds->bY K N H (vs.drop n) (ds.drop n)
 |_,_,0,r=>r
 |_,_,_+1,.nil=>.nil
 |_,_,n+1,.cons _ t=>bY.drop n t
theorem bY.snoc{vs:List V}{ds:List cO}{v:V}{d:cO}(r:bY K N H vs ds)(h:bB K N H N v d):bY K N H (vs++[v]) (ds++[d]):=r.append (.cons h .nil)
end
mutual
def cO.isD:cO->Bool
 |.non=>true
 |.bl _=>true
 |.int _=>true
 |.str _=>true
 |.ty _=>false
 |.fn _=>false
 |.tup ds=>HK ds
 |.lst ds=>HK ds
 |.dct _ _=>false
 |.exn _=>false
 |.exr _ _ _=>false
def HK:List cO->Bool
 |[]=>true
 |d::ds=>d.isD&&HK ds
end
mutual
def cO.pd:cO->No
 |.non=>.none
 |.bl b=>.bool b
 |.int i=>.int i
 |.str x=>.str x
 |.ty _=>.none
 |.fn _=>.none
 |.tup ds=>.tuple (BJ ds)
 |.lst ds=>.list (BJ ds)
 |.dct _ _=>.none
 |.exn _=>.none
 |.exr _ _ _=>.none
def BJ:List cO->List No
 |[]=>[]
 |d::ds=>d.pd::BJ ds
end
mutual
def cO.hard:cO->Bool
 |.tup ds=>UF ds
 |.lst _=>false
 |.dct _ _=>false
 |.exr _ _ _=>false
 |_=>true
def UF:List cO->Bool
 |[]=>true
 |d::ds=>d.hard&&UF ds
end
section
variable{K:Ai}{N:Um->Prop}{H:Hp}
theorem bB.dp{M:Um->Prop}{v:V}{d:cO}(h:bB K N H M v d)(e:d.isD=true):Dp K H v d.pd:=
 bB.rec (motive_1:=λM v d _=>d.isD=true->Dp K H v d.pd) (motive_2:=λvs ds _=>HK ds=true->NF K H vs (BJ ds)) (λ_=>.non) (λb _=>.bl b) (λi _=>.int i) (λx _=>.str x) (λ_ h=>nomatch h) (λ_ h=>nomatch h) (λq _ r h=>.tup q (r h))
  (λq _ _ r h=>.lst (X6.of q) (r h)) (λq _ r h=>.lst q.sq (r h)) (λ_ _ _ _ h=>nomatch h) (λ_ _ _ h=>nomatch h) (λ_ _ _ h=>nomatch h) (λ_ _ _ _ _ _ h=>nomatch h) (λ_=>.nil) (λ_ _ a b e=>.cons (a (Dn.mp e).1) (b (Dn.mp e).2)) h e
theorem bB.hard{N':Um->Prop}{M M':Um->Prop}{v:V}{d:cO}(h:bB K N H M v d)(e:d.hard=true):bB K N' H M' v d:=
 bB.rec (motive_1:=λM v d _=>∀M',d.hard=true->bB K N' H M' v d) (motive_2:=λvs ds _=>UF ds=true->bY K N' H vs ds) (λ_ _=>.non) (λb _ _=>.bl b) (λi _ _=>.int i) (λx _ _=>.str x) (λn _ _=>.ty n) (λq _ _=>.fn q) (λq _ r _ h=>.tup q (r h))
  (λ_ _ _ _ _ h=>nomatch h) (λ_ _ _ _ h=>nomatch h) (λ_ _ _ _ _ h=>nomatch h) (λ_ _ _ _ h=>nomatch h) (λp q r _ _=>.exn p q r) (λ_ _ _ _ _ _ _ h=>nomatch h) (λ_=>.nil) (λ_ _ a b e=>.cons (a _ (Dn.mp e).1) (b (Dn.mp e).2)) h M' e
theorem bY.hard{N':Um->Prop}:∀{vs:List V} {ds:List cO},bY K N H vs ds->UF ds=true->bY K N' H vs ds:=by
 intro vs;induction vs with
 |nil=>intro ds h _;cases h;exact .nil
 |cons v vs ih=>intro ds h e;cases h with|cons a b=>exact .cons (a.hard (Dn.mp e).1) (ih b (Dn.mp e).2)
end
inductive Sl where
 |no|va (d:cO)|ow (d:cO)
abbrev Ev:=List Sl
structure Bs where
 Z:Um->Prop
 P:Um->Prop
 H0:Hp
 mu:Nat->Option Um
 kp:List (V×cO)
def Nn(B:Bs)(O:Nat->Option Um):Um->Prop:=λa=>B.Z a∨∃i,O i=some a
def OA(O:Nat->Option Um):Um->Prop:=λa=>∃i,O i=some a
inductive O8(K:Ai)(N:Um->Prop)(H:Hp)(a:Um):cO->Prop
 |lst {xs:List V} {ds:List cO}:H a=some (.lst xs)->bY K N H xs ds->O8 K N H a (.lst ds)
 |dct {kvs:List (aG×V)} {ds:List cO}:H a=some (.dK kvs)->bY K N H (kvs.map Er) ds->O8 K N H a (.dct (kvs.map Dj) ds)
theorem O8.fr{K:Ai}{N P:Um->Prop}{H H':Hp}{a:Um}{d:cO}(f:Fr P H H')(hN:∀a,P a->N a)(ha:¬P a):O8 K N H a d->O8 K N H' a d
 |.lst q r=>.lst (f _ _ q λz=>absurd z ha) (r.fr f hN)
 |.dct q r=>.dct (f _ _ q λz=>absurd z ha) (r.fr f hN)
theorem O8.mono{K:Ai}{N N':Um->Prop}{H:Hp}{a:Um}{d:cO}(h:∀b,N' b->N b):O8 K N H a d->O8 K N' H a d
 |.lst q r=>.lst q (r.mono h)
 |.dct q r=>.dct q (r.mono h)
theorem O8.soft{K:Ai}{N:Um->Prop}{H:Hp}{a:Um}{d:cO}(h:O8 K N H a d):∃o,H a=some o/\¬Hard o:=by
 cases h with
 |lst q _=>exact⟨_,q,λz=>z⟩
 |dct q _=>exact⟨_,q,λz=>z⟩
theorem O8.rep{K:Ai}{N M:Um->Prop}{H:Hp}{a:Um}{d:cO}(h:O8 K N H a d)(hM:¬M a):bB K N H M (.ref a) d:=by
 cases h with
 |lst q r=>exact .lst q hM r
 |dct q r=>exact .dct q hM r
structure aN(K:Ai)(ml:List Nat)(B:Bs)(O:Nat->Option Um)(H:Hp)(σ:St)(δ:Ev):Prop where
 len:σ.length=δ.length
 va:∀(i:Nat) (d:cO),δ[i]?=some (Sl.va d)->∃v,σ[i]?=some (some v)/\bB K (Nn B O) H (Nn B O) v d
 ow:∀(i:Nat) (d:cO),δ[i]?=some (Sl.ow d)->∃a,O i=some a/\σ[i]?=some (some (.ref a))/\O8 K (Nn B O) H a d
 dom:∀(i:Nat) a,O i=some a->∃d,δ[i]?=some (Sl.ow d)
 inj:∀i j a,O i=some a->O j=some a->i=j
 old:∀i a,O i=some a->¬B.Z a/\(B.P a∨B.H0 a=none)
 zin:∀a,B.Z a->∃o,H a=some o
 frm:Fr B.P B.H0 H
 par:(∀i a,B.mu i=some a->i∈ml)/\∀i∈ml,O i=B.mu i
 pin:∀a,B.P a->∃o,H a=some o
 kep:∀p∈B.kp,bB K (Nn B O) H (Nn B O) p.1 p.2
section
variable{K:Ai}{ml:List Nat}{B:Bs}{O:Nat->Option Um}{H H':Hp}{σ:St}{δ δ':Ev}
theorem aN.nin(S:aN K ml B O H σ δ){a:Um}(h:Nn B O a):∃o,H a=some o:=by
 rcases h with h|⟨i,h⟩
 ·exact S.zin a h
 ·obtain⟨d,e⟩:=S.dom i a h
  obtain⟨a',e1,_,w⟩:=S.ow i d e;rw[h] at e1;cases e1;obtain⟨o,q,_⟩:=w.soft;exact⟨o,q⟩
theorem aN.new(S:aN K ml B O H σ δ){a:Um}(h:H a=none):¬Nn B O a:=λz=>by obtain⟨o,q⟩:=S.nin z;rw[h] at q;cases q
theorem aN.same(S:aN K ml B O H σ δ)(f:aL H H'):aN K ml B O H' σ δ where
 len:=S.len
 va:=λi d e=>let ⟨v,a,b⟩:=S.va i d e;⟨v,a,b.same f⟩
 ow:=λi d e=>let ⟨a,b,c,w⟩:=S.ow i d e;⟨a,b,c,w.fr (P:=λ_=>False) f.fr (λ_ z=>z.elim) λz=>z⟩
 dom:=S.dom
 inj:=S.inj
 old:=S.old
 zin:=λa h=>let ⟨o,q⟩:=S.zin a h;⟨o,f _ _ q⟩
 frm:=S.frm.trans f.fr
 par:=S.par
 pin:=λa h=>let ⟨o,q⟩:=S.pin a h;⟨o,f _ _ q⟩
 kep:=λp h=>(S.kep p h).same f
theorem aN.fresh(S:aN K ml B O H σ δ){a:Um}(h:H a=none):B.H0 a=none:=by
 cases q:B.H0 a with
 |none=>rfl
 |some o=>
  by_cases hp:B.P a
  ·obtain⟨o',e⟩:=S.pin a hp
   rw[h] at e;cases e
  ·have := S.frm a o q λz => absurd z hp
   rw[h] at this;cases this
def Bs.add(B:Bs)(p:Um):Bs:={B with Z:=λa=>B.Z a∨a=p}
theorem SQ{p:Um}:∀a,Nn B O a->Nn (B.add p) O a:=λa h=>by
 rcases h with h|h
 ·exact .inl (.inl h)
 ·exact .inr h
theorem bB.away{p:Um}(hp:H p=none)(N N':Um->Prop)(hN:∀a,N' a->N a∨a=p){M M':Um->Prop}{v:V}{d:cO}(hM:∀a,M' a->M a∨a=p)(h:bB K N H M v d):bB K N' H M' v d:=
 have no:∀{a:Um} {o:HO} {M M':Um->Prop},H a=some o->¬M a->(∀a,M' a->M a∨a=p)->¬M' a:=λq n hM z=>(hM _ z).elim n λe=>by rw[e,hp] at q;cases q
 bB.rec (motive_1:=λM v d _=>∀M',(∀a,M' a->M a∨a=p)->bB K N' H M' v d) (motive_2:=λvs ds _=>bY K N' H vs ds) (λ_ _=>.non) (λb _ _=>.bl b) (λi _ _=>.int i) (λx _ _=>.str x) (λn _ _=>.ty n) (λq _ _=>.fn q) (λq _ r _ _=>.tup q r)
  (λq n _ r _ hM=>.lst q (no q n hM) r) (λq _ r _ _=>.fzl q r) (λq n _ r _ hM=>.dct q (no q n hM) r) (λq _ r _ _=>.ktb q r) (λp q r _ _=>.exn p q r) (λp q r s _ t _ _=>.exr p q r s (t _ hN)) .nil (λ_ _ a b=>.cons (a _ hN) b) h M' hM
theorem bY.away{p:Um}(hp:H p=none)(N N':Um->Prop)(hN:∀a,N' a->N a∨a=p){vs:List V}{ds:List cO}(h:bY K N H vs ds):bY K N' H vs ds:=h.map λr=>r.away hp N N' hN hN
theorem WL{p:Um}:∀a,Nn (B.add p) O a->Nn B O a∨a=p:=λa h=>by
 rcases h with(h|h)|h
 ·exact .inl (.inl h)
 ·exact .inr h
 ·exact .inl (.inr h)
theorem aN.laid(S:aN K ml B O H σ δ){p:Um}{o:HO}(hp:H p=none):aN K ml (B.add p) O (upd H p o) σ δ where
 len:=S.len
 va:=λi d e=>let ⟨v,a,b⟩:=S.va i d e;⟨v,a,(b.away hp _ _ WL WL).same (cJ hp)⟩
 ow:=λi d e=>by
  obtain⟨a,b,c,w⟩:=S.ow i d e;refine⟨a,b,c,?_⟩;have hne:∀o,H a=some o->upd H p o=upd H p o:=λ_ _=>rfl;cases w with
  |lst q r=>exact .lst (cJ hp _ _ q) ((r.away hp _ _ WL).same (cJ hp))
  |dct q r=>exact .dct (cJ hp _ _ q) ((r.away hp _ _ WL).same (cJ hp))
 dom:=S.dom
 inj:=S.inj
 old:=λi a h=>by
  refine⟨λz=>?_,(S.old i a h).2⟩;rcases z with z|z
  ·exact(S.old i a h).1 z
  ·obtain⟨o,q⟩:=S.nin (.inr ⟨i,h⟩)
   rw[z,hp] at q;cases q
 zin:=λa h=>by
  rcases h with h|h
  ·obtain⟨o,q⟩:=S.zin a h
   exact⟨o,cJ hp _ _ q⟩
  ·exact⟨_,by rw[h];exact b5⟩
 frm:=S.frm.trans (cJ hp).fr
 par:=S.par
 pin:=λa h=>let ⟨o,q⟩:=S.pin a h;⟨o,cJ hp _ _ q⟩
 kep:=λp h=>((S.kep p h).away hp _ _ WL WL).same (cJ hp)
theorem RN{i:Nat}{o:Option Um}:∀a,Nn B (λj=>if j=i then none else O j) a->Nn B O a:=λa h=>by
 rcases h with h|⟨j,h⟩
 ·exact .inl h
 ·refine .inr ⟨j,?_⟩
  by_cases hj:j=i
  ·simp[hj] at h
  ·simpa[hj] using h
theorem T9{α:Type}{l:List α}{i j:Nat}{x y:α}(h:(l.set i x)[j]?=some y):(j=i/\y=x/\i<l.length)∨(j≠i/\l[j]?=some y):=by
 by_cases hj:j=i
 ·subst hj
  rw[List.getElem?_set_self'] at h;cases q:l[j]? with
  |none=>rw[q] at h;cases h
  |some z=>
   rw[q] at h;cases h;exact .inl ⟨rfl,rfl,(Ag.mp q).1⟩
 ·rw[Bo (Dm hj)] at h
  exact .inr ⟨hj,h⟩
theorem aN.setVa(S:aN K ml B O H σ δ){i:Nat}{v:V}{d:cO}(hm:i∉ml)(h:bB K (Nn B O) H (Nn B O) v d):aN K ml B (λj=>if j=i then none else O j) H (σ.set i (some v)) (δ.set i (.va d)) where
 len:=by rw[Bz,Bz,S.len]
 va:=λj e q=>by
  rcases T9 q with⟨rfl,z,hl⟩|⟨hj,q⟩
  ·cases z
   exact⟨v,by rw[Cj (by rw[S.len];exact hl)],h.mono (RN (o:=none)) (RN (o:=none))⟩
  ·obtain⟨u,e1,r⟩:=S.va j e q
   exact⟨u,by rw[Bo (Dm hj)];exact e1,r.mono (RN (o:=none)) (RN (o:=none))⟩
 ow:=λj e q=>by
  rcases T9 q with⟨rfl,z,hl⟩|⟨hj,q⟩
  ·cases z
  ·obtain⟨a,e1,e2,w⟩:=S.ow j e q
   exact⟨a,by simpa[hj] using e1,by rw[Bo (Dm hj)];exact e2,w.mono (RN (o:=none))⟩
 dom:=λj a e=>by
  by_cases hj:j=i
  ·simp[hj] at e
  ·obtain ⟨d,q⟩ := S.dom j a (by simpa [hj] using e)
   exact⟨d,by rw[Bo (Dm hj)];exact q⟩
 inj:=λj k a e1 e2=>by
  by_cases hj:j=i
  ·simp[hj] at e1
  ·by_cases hk:k=i
   ·simp[hk] at e2
   ·exact S.inj j k a (by simpa[hj] using e1) (by simpa[hk] using e2)
 old:=λj a e=>by
  by_cases hj:j=i
  ·simp[hj] at e
  ·exact S.old j a (by simpa[hj] using e)
 zin:=S.zin
 frm:=S.frm
 par:=⟨S.par.1,λj hj=>by have hne:j≠i:=λz=>hm (z▸hj);have h2:O j=B.mu j:=S.par.2 j hj;simpa[hne] using h2⟩
 pin:=S.pin
 kep:=λp hp=>(S.kep p hp).mono (RN (o:=none)) (RN (o:=none))
theorem QT{i:Nat}{p:Um}:∀a,Nn B (λj=>if j=i then some p else O j) a->Nn (B.add p) O a:=λa h=>by
 rcases h with h|⟨j,h⟩
 ·exact .inl (.inl h)
 ·by_cases hj:j=i
  ·simp[hj] at h
   exact .inl (.inr h.symm)
  ·exact .inr ⟨j,by simpa[hj] using h⟩
theorem aN.setOw{p:Um}(S:aN K ml (B.add p) O H σ δ){i:Nat}{d:cO}(hm:i∉ml)(hl:i<δ.length)(hz:¬B.Z p)(h0:B.H0 p=none)(h:O8 K (Nn (B.add p) O) H p d):
  aN K ml B (λj=>if j=i then some p else O j) H (σ.set i (some (.ref p))) (δ.set i (.ow d)) where
 len:=by rw[Bz,Bz,S.len]
 va:=λj e q=>by
  rcases T9 q with⟨rfl,z,_⟩|⟨hj,q⟩
  ·cases z
  ·obtain⟨u,e1,r⟩:=S.va j e q
   exact⟨u,by rw[Bo (Dm hj)];exact e1,r.mono QT QT⟩
 ow:=λj e q=>by
  rcases T9 q with⟨rfl,z,hl⟩|⟨hj,q⟩
  ·cases z
   exact⟨p,by simp,by rw[Cj (by rw[S.len];exact hl)],h.mono QT⟩
  ·obtain⟨a,e1,e2,w⟩:=S.ow j e q
   exact⟨a,by simpa[hj] using e1,by rw[Bo (Dm hj)];exact e2,w.mono QT⟩
 dom:=λj a e=>by
  by_cases hj:j=i
  ·subst hj
   exact⟨d,by rw[Cj hl]⟩
  ·obtain ⟨d,q⟩ := S.dom j a (by simpa [hj] using e)
   exact⟨d,by rw[Bo (Dm hj)];exact q⟩
 inj:=λj k a e1 e2=>by
  by_cases hj:j=i
  ·by_cases hk:k=i
   ·rw[hj,hk]
   ·simp[hj] at e1
    simp[hk] at e2;exact absurd (.inr e1.symm) (S.old k a e2).1
  ·by_cases hk:k=i
   ·simp[hk] at e2
    simp[hj] at e1;exact absurd (.inr e2.symm) (S.old j a e1).1
   ·exact S.inj j k a (by simpa[hj] using e1) (by simpa[hk] using e2)
 old:=λj a e=>by
  by_cases hj:j=i
  ·simp[hj] at e
   subst e;exact⟨hz,.inr h0⟩
  ·have := S.old j a (by simpa [hj] using e)
   exact⟨λz=>this.1 (.inl z),this.2⟩
 zin:=λa h=>S.zin a (.inl h)
 frm:=S.frm
 par:=⟨S.par.1,λj hj=>by have hne:j≠i:=λz=>hm (z▸hj);have h2:O j=B.mu j:=S.par.2 j hj;simpa[hne] using h2⟩
 pin:=S.pin
 kep:=λp hp=>(S.kep p hp).mono QT QT
theorem aN.wrote(S:aN K ml B O H σ δ){i:Nat}{a:Um}{d:cO}{o:HO}(e:O i=some a)(ho:¬Hard o)(h:O8 K (Nn B O) (upd H a o) a d):aN K ml B O (upd H a o) σ (δ.set i (.ow d)):=by
 have hf:Fr (λb=>b=a) H (upd H a o):=λb u q n=>by
  by_cases hb:b=a
  ·subst hb
   obtain⟨d',q'⟩:=S.dom i b e;obtain⟨a',e1,_,w⟩:=S.ow i d' q';rw[e] at e1;cases e1;obtain⟨u',q1,hh⟩:=w.soft;rw[q] at q1;cases q1;exact absurd (n rfl) hh
  ·rw[bM hb]
   exact q
 have hN:∀b,b=a->Nn B O b:=λb z=>.inr ⟨i,z▸e⟩;have hin:∀b,(∃u,H b=some u)->∃u,upd H a o b=some u:=λb q0=>by
  obtain⟨u,q⟩:=q0;by_cases hb:b=a
  ·exact⟨o,by rw[hb];exact b5⟩
  ·exact⟨u,by rw[bM hb];exact q⟩
 refine⟨by rw[Bz,S.len],λj d' q=>?_,λj d' q=>?_,λj b q=>?_,S.inj,S.old,λb h=>hin b (S.zin b h),?_,S.par,λb h=>hin b (S.pin b h),λp hp=>(S.kep p hp).fr hf hN hN⟩
 ·rcases T9 q with⟨_,z,_⟩|⟨hj,q⟩
  ·cases z
  ·obtain⟨v,e1,r⟩:=S.va j d' q
   exact⟨v,e1,r.fr hf hN hN⟩
 ·rcases T9 q with⟨rfl,z,hl⟩|⟨hj,q⟩
  ·cases z
   obtain⟨d0,q0⟩:=S.dom j a e;obtain⟨a',e1,e2,_⟩:=S.ow j d0 q0;rw[e] at e1;cases e1;exact⟨a,e,e2,h⟩
  ·obtain⟨a',e1,e2,w⟩:=S.ow j d' q
   exact⟨a',e1,e2,w.fr hf hN λz=>hj (S.inj j i a (z▸e1) e)⟩
 ·by_cases hj:j=i
  ·subst hj
   obtain⟨d0,q0⟩:=S.dom j b q;exact⟨d,by rw[Cj (Ag.mp q0).1]⟩
  ·obtain⟨d0,q0⟩:=S.dom j b q
   exact⟨d0,by rw[Bo (Dm hj)];exact q0⟩
 ·intro b u q n
  have h1:=S.frm b u q n;by_cases hb:b=a
  ·subst hb
   rcases(S.old i b e).2 with z|z
   ·obtain⟨d',q'⟩:=S.dom i b e
    obtain⟨a',e1,_,w⟩:=S.ow i d' q';rw[e] at e1;cases e1;obtain⟨u',q1,hh⟩:=w.soft;rw[h1] at q1;cases q1;exact absurd (n z) hh
   ·rw[q] at z
    cases z
  ·rw[bM hb]
   exact h1
theorem aN.keepV(S:aN K ml B O H σ δ){ps:List (V×cO)}(h:∀p∈ps,bB K (Nn B O) H (Nn B O) p.1 p.2):aN K ml {B with kp:=ps++B.kp} O H σ δ:=
 ⟨S.len,S.va,S.ow,S.dom,S.inj,S.old,S.zin,S.frm,S.par,S.pin,λp hp=>(Cq.mp hp).elim (h p) (S.kep p)⟩
theorem aN.unkeep{ps:List (V×cO)}(S:aN K ml {B with kp:=ps++B.kp} O H σ δ):aN K ml B O H σ δ:=
 ⟨S.len,S.va,S.ow,S.dom,S.inj,S.old,S.zin,S.frm,S.par,S.pin,λp hp=>S.kep p (Bp _ hp)⟩
end
def rz(B:Bs):Um->Prop:=λa=>B.Z a∨∃i,B.mu i=some a
def av(B:Bs)(O:Nat->Option Um)(b:Bool):Um->Prop:=if b then Nn B O else λa=>Nn B O a/\rz B a
def at_(B:Bs)(O:Nat->Option Um)(b:Bool):Um->Prop:=if b then Nn B O else λ_=>False
theorem Vs{B:Bs}{O:Nat->Option Um}{b:Bool}:∀a,at_ B O b a->av B O b a:=λa h=>by
 cases b with
 |true=>exact h
 |false=>exact h.elim
theorem lP{B:Bs}{O:Nat->Option Um}{b c:Bool}(h:b=true->c=true):∀a,at_ B O b a->at_ B O c a:=λa z=>by
 cases b with
 |true=>rw[h rfl];exact z
 |false=>exact z.elim
theorem aN.rzn{K:Ai}{ml:List Nat}{B:Bs}{O:Nat->Option Um}{H:Hp}{σ:St}{δ:Ev}(S:aN K ml B O H σ δ):∀a,rz B a->Nn B O a:=λa h=>by
 rcases h with h|⟨i,h⟩
 ·exact .inl h
 ·exact .inr ⟨i,(S.par.2 i (S.par.1 i a h)).trans h⟩
theorem aN.rza{K:Ai}{ml:List Nat}{B:Bs}{O:Nat->Option Um}{H:Hp}{σ:St}{δ:Ev}(S:aN K ml B O H σ δ){b:Bool}:∀a,rz B a->av B O b a:=λa h=>by
 cases b with
 |true=>exact S.rzn a h
 |false=>exact⟨S.rzn a h,h⟩
theorem PB{B:Bs}{O:Nat->Option Um}{b c:Bool}(h:b=true->c=true):∀a,av B O b a->av B O c a:=λa z=>by
 cases b with
 |true=>rw[h rfl];exact z
 |false=>cases c with
  |true=>exact z.1
  |false=>exact z
structure BD(K:Ai)(ml:List Nat)(B:Bs)(O:Nat->Option Um)(H:Hp)(σ:St)(pu bt bi:Bool)(H':Hp)(δ':Ev)(v:V)(d:cO):Prop where
 sta:aN K ml B O H' σ δ'
 frm:Fr (OA O) H H'
 pur:pu=true->aL H H'
 rep:bB K (av B O bi) H' (at_ B O bt) v d
abbrev VF:=Ev->Option (cO×Ev)
def TV(K:Ai)(ml:List Nat)(pu bt bi:Bool)(f:VF):TE:=λσ H Q=>∃B O δ d δ',aN K ml B O H σ δ/\f δ=some (d,δ')/\∀v H',BD K ml B O H σ pu bt bi H' δ' v d->Q v H'
theorem PE.imp{X:Cx}{e:Ut}{t u:TE}(h:PE X e t)(k:∀σ H Q,u σ H Q->t σ H Q):PE X e u:=λaa s σ H Q I w=>h aa s σ H Q I (k σ H Q w)
theorem PT.imp{X:Cx}{e:Ut}{t u:TT}(h:PT X e t)(k:∀σ H Q,u σ H Q->t σ H Q):PT X e u:=λaa s σ H Q I w=>h aa s σ H Q I (k σ H Q w)
theorem PW.imp{X:Cx}{e:Ut}{t u:TT}(h:PW X e t)(k:∀σ H Q,u σ H Q->t σ H Q):PW X e u:=λbq aa s σ H Q I w=>h bq aa s σ H Q I (k σ H Q w)
theorem PA.imp{X:Cx}{e:List Ut}{t u:TA}(h:PA X e t)(k:∀σ H Q,u σ H Q->t σ H Q):PA X e u:=λpos aa s σ H Q I w=>h pos aa s σ H Q I (k σ H Q w)
theorem PS.imp{X:Cx}{e:Ux}{t u:TS}(h:PS X e t)(k:∀D σ H,u D σ H->t D σ H):PS X e u:=λaa s σ H D I w=>h aa s σ H D I (k D σ H w)
theorem WZ.imp{X:Cx}{e:List Ux}{t u:TS}(h:WZ X e t)(k:∀D σ H,u D σ H->t D σ H):WZ X e u:=λaa s σ H D I w=>h aa s σ H D I (k D σ H w)
section
variable{X:Cx}{K:Ai}{ml:List Nat}{e a b c:Ut}{pa ta ia pb tb ib pc tc ic:Bool}{fa fb fc:VF}{r:R2}{o:cO->cO->Option cO}{B:Bs}{O:Nat->Option Um}{H H1 H':Hp}{σ:St}{δ δ':Ev}{v:V}{d:cO}
def fC(d:cO):VF:=λδ=>some (d,δ)
theorem BD.refl{pu bt bi:Bool}(S:aN K ml B O H σ δ)(h:bB K (av B O bi) H (at_ B O bt) v d):BD K ml B O H σ pu bt bi H δ v d:=⟨S,Fr.refl _ _,λ_=>aL.refl _,h⟩
theorem DI(h:PE X e (tC v))(hr:∀N H M,bB K N H M v d):PE X e (TV K ml true true true (fC d)):=h.imp λσ H Q q0=>by obtain⟨B,O,δ,d',δ',S,q,k⟩:=q0;cases q;exact k v H (BD.refl S (hr _ _ _))
theorem cM{i j pos}:PE X (.Constant (.int i) j pos) (TV K ml true true true (fC (.int i))):=DI nT λ_ _ _=>.int i
theorem Y2{i j pos}:PE X (.Constant (.bool i) j pos) (TV K ml true true true (fC (.bl i))):=DI jP λ_ _ _=>.bl i
theorem Q3{j pos}:PE X (.Constant .none j pos) (TV K ml true true true (fC .non)):=DI Zs λ_ _ _=>.non
theorem cE{i j pos}:PE X (.Constant (.str i) j pos) (TV K ml true true true (fC (.str i))):=DI Xy λ_ _ _=>.str i
noncomputable def fV(i:Nat):VF:=λδ=>match δ[i]? with
 |some (.va d)=>some (d,δ)
 |_=>none
noncomputable def fO(i:Nat):VF:=λδ=>match δ[i]? with
 |some (.va d)=>some (d,δ)
 |some (.ow d)=>some (d,δ)
 |_=>none
theorem iL{i:Nat}(h:PE X e (KZ i)):PE X e (TV K ml true true true (fV i)):=h.imp λσ H Q q0=>by
 obtain⟨B,O,δ,d',δ',S,q,k⟩:=q0;unfold fV at q;split at q
 ·rename_i d hd
  cases q;obtain⟨v,e1,r⟩:=S.va i _ hd;exact⟨v,e1,k v H (BD.refl S r)⟩
 ·cases q
theorem nV{i:Nat}(h:PE X e (KZ i)):PE X e (TV K ml true false true (fO i)):=h.imp λσ H Q q0=>by
 obtain⟨B,O,δ,d',δ',S,q,k⟩:=q0;unfold fO at q;split at q
 ·rename_i d hd
  cases q;obtain⟨v,e1,r⟩:=S.va i _ hd;exact⟨v,e1,k v H (BD.refl S (r.mono (λ_ z=>z) λa z=>z.elim))⟩
 ·rename_i d hd
  cases q;obtain⟨a,e1,e2,w⟩:=S.ow i _ hd;exact⟨.ref a,e2,k _ H (BD.refl S (w.rep λz=>z))⟩
 ·cases q
theorem BD.live{H2:Hp}{v2:V}{d2:cO}(R2:BD K ml B O H1 σ pb tb ib H2 δ' v2 d2)(hs:(pb || (ta&&ia))=true)(h:bB K (av B O ia) H1 (at_ B O ta) v d):bB K (av B O ia) H2 (at_ B O ta) v d:=by
 cases pb with
 |true=>exact h.same (R2.pur rfl)
 |false=>
  have hs:(ta&&ia)=true:=by simpa using hs
  obtain⟨h1,h2⟩:=(Ae _ _).mp hs;subst h1 h2;exact h.fr R2.frm (λa z=>.inr z) λa z=>.inr z
noncomputable def f2(o:cO->cO->Option cO)(fa fb:VF):VF:=λδ=>(fa δ).bind λp=>(fb p.2).bind λq=>(o p.1 q.1).map λc=>(c,q.2)
theorem R9{δ2:Ev}(h:f2 o fa fb δ=some (d,δ2)):∃x δ1 y,fa δ=some (x,δ1)/\fb δ1=some (y,δ2)/\o x y=some d:=by
 unfold f2 at h;cases h1:fa δ with
 |none=>rw[h1] at h;cases h
 |some p=>
  rw[h1] at h;cases h2:fb p.2 with
  |none=>simp[h2] at h
  |some q=>
   simp only[Af,h2] at h;cases h3:o p.1 q.1 with
   |none=>rw[h3] at h;cases h
   |some c=>
    rw[h3] at h;cases h;exact⟨p.1,p.2,q.1,rfl,h2,h3⟩
def QF(K:Ai)(r:R2)(o:cO->cO->Option cO):Prop:=∀(H:Hp) (N N' M M':Um->Prop) (x y:V) (d e c:cO) (Q:VK),bB K N H M x d->bB K N' H M' y e->o d e=some c->(∀v,(∀H' N M,bB K N H' M v c)->Q v H)->r x y H Q
def OpC(K:Ai)(r:R2)(o:cO->cO->Option cO):Prop:=∀(H:Hp) (N M M':Um->Prop) (x y:V) (d e c:cO) (Q:VK),bB K N H M x d->bB K N H M' y e->o d e=some c->
 (∀v H',aL H H'->(∀M,(∀a,M a->∃o,H a=some o)->bB K N H' M v c)->Q v H')->r x y H Q
def OpI(K:Ai)(r:R2)(o:cO->cO->Option cO):Prop:=∀(H:Hp) (N N' M M':Um->Prop) (x y:V) (d e c:cO) (Q:VK),bB K N H M x d->bB K N' H M' y e->o d e=some c->(∀v,bB K N H N v c->Q v H)->r x y H Q
theorem GX(ho:QF K r o)(hs:(pb || (ta&&ia))=true){Q:VK}(h:TV K ml (pa&&pb) true true (f2 o fa fb) σ H Q):tOp r (TV K ml pa ta ia fa) (TV K ml pb tb ib fb) σ H Q:=by
 obtain⟨B,O,δ,d,δ2,S,q,k⟩:=h;obtain⟨x,δ1,y,h1,h2,h3⟩:=R9 q;refine⟨B,O,δ,x,δ1,S,h1,λv1 H1 R1=>⟨B,O,δ1,y,δ2,R1.sta,h2,λv2 H2 R2=>?_⟩⟩;exact ho H2 _ _ _ _ v1 v2 x y d Q (R2.live hs R1.rep) R2.rep h3 λv hv=>k v H2 ⟨R2.sta,R1.frm.trans R2.frm,λz=>by obtain⟨z1,z2⟩:=(Ae _ _).mp z;exact(R1.pur z1).trans (R2.pur z2),hv _ _ _⟩
theorem kL(ho:OpC K r o)(hs:(pb || (ta&&ia))=true){Q:VK}(h:TV K ml (pa&&pb) true (ia&&ib) (f2 o fa fb) σ H Q):tOp r (TV K ml pa ta ia fa) (TV K ml pb tb ib fb) σ H Q:=by obtain⟨B,O,δ,d,δ2,S,q,k⟩:=h;obtain⟨x,δ1,y,h1,h2,h3⟩:=R9 q;refine⟨B,O,δ,x,δ1,S,h1,λv1 H1 R1=>⟨B,O,δ1,y,δ2,R1.sta,h2,λv2 H2 R2=>?_⟩⟩;have g1:∀a,av B O (ia&&ib) a->av B O ia a:=PB λz=>((Ae _ _).mp z).1;have g2:∀a,av B O (ia&&ib) a->av B O ib a:=PB λz=>((Ae _ _).mp z).2;refine ho H2 (av B O (ia&&ib)) _ _ v1 v2 x y d Q ((R2.live hs R1.rep).mono g1 λ_ z=>z) (R2.rep.mono g2 λ_ z=>z) h3 λv H3 s3 hv=>k v H3 ⟨R2.sta.same s3,(R1.frm.trans R2.frm).trans s3.fr,λz=>?_,hv _ λa z=>R2.sta.nin z⟩;obtain⟨z1,z2⟩:=(Ae _ _).mp z;exact((R1.pur z1).trans (R2.pur z2)).trans s3
theorem kE(ho:OpI K r o)(hs:(pb || (ta&&ia))=true){Q:VK}(h:TV K ml (pa&&pb) ia ia (f2 o fa fb) σ H Q):tOp r (TV K ml pa ta ia fa) (TV K ml pb tb ib fb) σ H Q:=by
 obtain⟨B,O,δ,d,δ2,S,q,k⟩:=h;obtain⟨x,δ1,y,h1,h2,h3⟩:=R9 q;refine⟨B,O,δ,x,δ1,S,h1,λv1 H1 R1=>⟨B,O,δ1,y,δ2,R1.sta,h2,λv2 H2 R2=>?_⟩⟩;exact ho H2 _ _ _ _ v1 v2 x y d Q (R2.live hs R1.rep) R2.rep h3 λv hv=>k v H2 ⟨R2.sta,R1.frm.trans R2.frm,λz=>by obtain⟨z1,z2⟩:=(Ae _ _).mp z;exact(R1.pur z1).trans (R2.pur z2),hv.mono (λ_ z=>z) Vs⟩
theorem YI{op:Operator}{pos:Pos}(ho:W9 X (Fn op) r)(hv:QF K r o)(ha:PE X a (TV K ml pa ta ia fa))(hb:PE X b (TV K ml pb tb ib fb))(hs:(pb || (ta&&ia))=true:=by rfl):PE X (.BinOp a op b pos) (TV K ml (pa&&pb) true true (f2 o fa fb)):=
 (Yu ho ha hb).imp λ_ _ _ h=>GX hv hs h
theorem aH{op:Operator}{pos:Pos}(ho:W9 X (Fn op) r)(hv:OpC K r o)(ha:PE X a (TV K ml pa ta ia fa))(hb:PE X b (TV K ml pb tb ib fb))(hs:(pb || (ta&&ia))=true:=by rfl):PE X (.BinOp a op b pos) (TV K ml (pa&&pb) true (ia&&ib) (f2 o fa fb)):=
 (Yu ho ha hb).imp λ_ _ _ h=>kL hv hs h
theorem XR{op:CmpOp}{pos:Pos}(ho:W9 X (Cr op) r)(hv:QF K r o)(ha:PE X a (TV K ml pa ta ia fa))(hb:PE X b (TV K ml pb tb ib fb))(hm:Hz op b=false)(hs:(pb || (ta&&ia))=true:=by rfl):PE X (.Compare a [op] [b] pos) (TV K ml (pa&&pb) true true (f2 o fa fb)):=
 (oO ho ha hb hm).imp λ_ _ _ h=>GX hv hs h
theorem mK{pos:Pos}(ho:BN X r)(hv:OpI K r o)(ha:PE X a (TV K ml pa ta ia fa))(hb:PE X b (TV K ml pb tb ib fb))(hx:JP b)(hs:(pb || (ta&&ia))=true:=by rfl):PE X (.Subscript a b pos) (TV K ml (pa&&pb) ia ia (f2 o fa fb)):=
 (hU ho ha hb hx).imp λ_ _ _ h=>kE hv hs h
noncomputable def oI(C:Int->Int->Bool)(g:Int->Int->cO):cO->cO->Option cO
 |.int i,.int j=>if C i j=true then some (g i j) else none
 |_,_=>none
theorem Wp{C:Int->Int->Bool}{g:Int->Int->cO}{d e c:cO}(h:oI C g d e=some c):∃i j,d=.int i/\e=.int j/\C i j=true/\c=g i j:=by
 unfold oI at h;split at h
 ·split at h
  ·rename_i hc
   cases h;exact⟨_,_,rfl,rfl,hc,rfl⟩
  ·cases h
 ·cases h
theorem EI{C:Int->Int->Prop}{C':Int->Int->Bool}{g:Int->Int->V}{g':Int->Int->cO}(hC:∀i j,C' i j=true->C i j)(hg:∀i j N H M,bB K N H M (g i j) (g' i j)):QF K (rI C g) (oI C' g'):=by intro H N N' M M' x y d e c Q hx hy h k;obtain⟨i,j,rfl,rfl,hc,rfl⟩:=Wp h;cases hx;cases hy;exact⟨_,_,rfl,rfl,hC _ _ hc,k _ λ_ _ _=>hg ..⟩
theorem OD{g:Int->Int->V}{g':Int->Int->cO}(hg:∀i j N H M,bB K N H M (g i j) (g' i j)):QF K (GH g) (oI (λ_ _=>true) g'):=by intro H N N' M M' x y d e c Q hx hy h k;obtain⟨i,j,rfl,rfl,hc,rfl⟩:=Wp h;cases hx;cases hy;exact⟨_,_,rfl,rfl,k _ λ_ _ _=>hg ..⟩
noncomputable def cMul(i j:Int):Bool:=(decide (-18446744073709551616<i)&&decide (i<18446744073709551616)) || (decide (-18446744073709551616<j)&&decide (j<18446744073709551616))
noncomputable def cDiv(i j:Int):Bool:=decide (0<j)&&decide (j<1073741824)
noncomputable def cPow(i j:Int):Bool:=decide (0<=j)&&decide (j<=1000000)&&decide (i.natAbs<18446744073709551616)
noncomputable abbrev OB:=oI (λ_ _=>true) λi j=>.int (i - j)
noncomputable abbrev oMul:=oI cMul λi j=>.int (i*j)
noncomputable abbrev ED:=oI cDiv λi j=>.int (i/j)
noncomputable abbrev KH:=oI (λ_ j=>decide (0<j)) λi j=>.int (i % j)
noncomputable abbrev oPow:=oI cPow λi j=>.int (i ^ j.toNat)
noncomputable abbrev oLt:=oI (λ_ _=>true) λi j=>.bl (decide (i<j))
noncomputable abbrev oLe:=oI (λ_ _=>true) λi j=>.bl (decide (i<=j))
noncomputable abbrev oGt:=oI (λ_ _=>true) λi j=>.bl (decide (j<i))
noncomputable abbrev oGe:=oI (λ_ _=>true) λi j=>.bl (decide (j<=i))
theorem QB:QF K (GH λi j=>.int (i - j)) OB:=OD λi j _ _ _=>.int _
theorem kP:QF K (rI BK λi j=>.int (i*j)) oMul:=EI (λi j h=>by
 have p:(2:Int) ^ 64=18446744073709551616:=by decide
 unfold BK;rw[p];simpa[cMul] using h) λi j _ _ _=>.int _
theorem Ys:QF K (rI CDiv λi j=>.int (i/j)) ED:=EI (λi j h=>by show 0<j/\j<1073741824;simpa[cDiv] using h) λi j _ _ _=>.int _
theorem QA:QF K (rI (λ_ j=>0<j) λi j=>.int (i % j)) KH:=EI (λi j h=>by simpa using h) λi j _ _ _=>.int _
theorem eZ:QF K (rI CPow λi j=>.int (i ^ j.toNat)) oPow:=EI (λi j h=>by
 have p:(2:Nat) ^ 64=18446744073709551616:=by decide
 unfold CPow;rw[p];simpa[cPow,and_assoc] using h) λi j _ _ _=>.int _
theorem s_lt:QF K (GH λi j=>.bl (decide (i<j))) oLt:=OD λi j _ _ _=>.bl _
theorem s_le:QF K (GH λi j=>.bl (decide (i<=j))) oLe:=OD λi j _ _ _=>.bl _
theorem s_gt:QF K (GH λi j=>.bl (decide (j<i))) oGt:=OD λi j _ _ _=>.bl _
theorem s_ge:QF K (GH λi j=>.bl (decide (j<=i))) oGe:=OD λi j _ _ _=>.bl _
noncomputable def MB(d:cO):Bool:=d.isD&&Es d.pd
def BF(d e:cO):Bool:=Ju d.pd e.pd
noncomputable def VT(d e:cO):Option cO:=if(MB d&&MB e)=true then some (.bl (BF d e)) else none
noncomputable def P9(d e:cO):Option cO:=if(MB d&&MB e)=true then some (.bl (!BF d e)) else none
theorem s_eq:QF K (rEqD K) VT:=by
 intro H N N' M M' x y d e c Q hx hy h k;unfold VT at h;split at h
 ·rename_i hh
  cases h;simp only[MB,Ae] at hh;exact⟨d.pd,e.pd,hx.dp hh.1.1,hy.dp hh.2.1,hh.1.2,hh.2.2,k _ λ_ _ _=>.bl _⟩
 ·cases h
theorem OM:QF K (rNeD K) P9:=by
 intro H N N' M M' x y d e c Q hx hy h k;unfold P9 at h;split at h
 ·rename_i hh
  cases h;simp only[MB,Ae] at hh;exact⟨d.pd,e.pd,hx.dp hh.1.1,hy.dp hh.2.1,hh.1.2,hh.2.2,k _ λ_ _ _=>.bl _⟩
 ·cases h
noncomputable def isN:cO->Bool
 |.non=>true
 |_=>false
noncomputable def F5:cO->cO->Option cO
 |d,.non=>some (.bl (isN d))
 |_,_=>none
theorem jN{N M:Um->Prop}(h:bB K N H M v d):decide (v=V.non)=isN d:=by
 cases h<;>simp[isN]
theorem eB:QF K (λx y H Q=>y=.non/\Q (.bl (decide (x=.non))) H) F5:=by
  intro H N N' M M' x y d e c Q hx hy h k;cases hy<;>first
    | (cases h
       refine⟨rfl,?_⟩;rw[jN hx];exact k _ λ_ _ _=>.bl _)
    |(simp[F5] at h)
noncomputable def YH:cO->Option (List cO)
 |.tup ds=>some ds
 |.lst ds=>some ds
 |_=>none
theorem bB.seq{N M:Um->Prop}{ds:List cO}(h:bB K N H M v d)(e:YH d=some ds):∃a xs,v=.ref a/\(X6 K H a xs∨WF K H a xs)/\bY K N H xs ds:=by
 cases h<;>first
  |(cases e;rename_i q r;exact⟨_,_,rfl,.inr q,r⟩)
  |(cases e;rename_i q n r;exact⟨_,_,rfl,.inl (X6.of q),r⟩)
  |(cases e;rename_i q r;exact⟨_,_,rfl,.inl q.sq,r⟩)
  |cases e
theorem gZ{N:Um->Prop}{xs:List V}{ds:List cO}{i:Int}(r:bY K N H xs ds)(h:U3 ds i=some d):∃v,U3 xs i=some v/\bB K N H N v d:=by
 unfold U3 at h⊢;rw[r.length];cases hi:ixN ds.length i with
 |none=>rw[hi] at h;cases h
 |some j=>
  rw[hi] at h;exact r.get h
end
section
variable{X:Cx}{K:Ai}{ml:List Nat}{e a b c:Ut}{es:List Ut}{pa ta ia pb tb ib pc tc ic pu bt bi ps bs:Bool}{fa fb fc:VF}{r r':R2}{o o':cO->cO->Option cO}{B:Bs}{O:Nat->Option Um}{H H1 H':Hp}{σ:St}{δ δ':Ev}{v:V}{d:cO}{p:Um}{pos:Pos}
theorem aN.unadd(S:aN K ml (B.add p) O H σ δ):aN K ml B O H σ δ where
 len:=S.len
 va:=λi d e=>let ⟨v,a,b⟩:=S.va i d e;⟨v,a,b.mono SQ SQ⟩
 ow:=λi d e=>let ⟨a,b,c,w⟩:=S.ow i d e;⟨a,b,c,w.mono SQ⟩
 dom:=S.dom
 inj:=S.inj
 old:=λi a h=>⟨λz=>(S.old i a h).1 (.inl z),(S.old i a h).2⟩
 zin:=λa h=>S.zin a (.inl h)
 frm:=S.frm
 par:=S.par
 pin:=S.pin
 kep:=λp h=>(S.kep p h).mono SQ SQ
structure ResN(K:Ai)(ml:List Nat)(B:Bs)(O:Nat->Option Um)(H:Hp)(σ:St)(pu:Bool)(H':Hp)(δ':Ev)(p:Um)(d:cO):Prop where
 sta:aN K ml (B.add p) O H' σ δ'
 frm:Fr (OA O) H H'
 pur:pu=true->aL H H'
 own:O8 K (Nn (B.add p) O) H' p d
 nz:¬Nn B O p
 h0:B.H0 p=none
def TN(K:Ai)(ml:List Nat)(pu:Bool)(f:VF):TE:=λσ H Q=>∃B O δ d δ',aN K ml B O H σ δ/\f δ=some (d,δ')/\∀p H',ResN K ml B O H σ pu H' δ' p d->Q (.ref p) H'
theorem bK{f:VF}(h:PE X e (TN K ml pu f)):PE X e (TV K ml pu true true f):=h.imp λσ H Q ⟨B,O,δ,d,δ',S,q,k⟩=>
 ⟨B,O,δ,d,δ',S,q,λp H' R=>k _ H' ⟨R.sta.unadd,R.frm,R.pur,(R.own.mono SQ).rep R.nz⟩⟩
theorem mkN{xs:List V}{ds:List cO}(S:aN K ml B O H1 σ δ')(f:Fr (OA O) H H1)(s:pu=true->aL H H1)(hp:H1 p=none)(r:bY K (Nn B O) H1 xs ds):ResN K ml B O H σ pu (upd H1 p (.lst xs)) δ' p (.lst ds):=
 ⟨S.laid hp,f.trans (cJ hp).fr,λz=>(s z).trans (cJ hp),.lst b5 ((r.away hp _ _ WL).same (cJ hp)),S.new hp,S.fresh hp⟩
theorem mkD(S:aN K ml B O H1 σ δ')(f:Fr (OA O) H H1)(s:pu=true->aL H H1)(hp:H1 p=none):ResN K ml B O H σ pu (upd H1 p (.dK [])) δ' p (.dct [] []):=
 ⟨S.laid hp,f.trans (cJ hp).fr,λz=>(s z).trans (cJ hp),.dct (kvs:=[]) b5 .nil,S.new hp,S.fresh hp⟩
theorem AW:PE X (.Dict [] [] pos) (TN K ml true (fC (.dct [] []))):=zB0.imp λσ H Q q0=>by obtain⟨B,O,δ,d,δ',S,q,k⟩:=q0;cases q;exact λp hp=>k p _ (mkD S (Fr.refl _ _) (λ_=>aL.refl _) hp)
abbrev O9:=Ev->Option (List cO×Ev)
structure ResA(K:Ai)(ml:List Nat)(B:Bs)(O:Nat->Option Um)(H:Hp)(σ:St)(pu b:Bool)(H':Hp)(δ':Ev)(vs:List V)(ds:List cO):Prop where
 sta:aN K ml B O H' σ δ'
 frm:Fr (OA O) H H'
 pur:pu=true->aL H H'
 rep:bY K (av B O b) H' vs ds
def TAV(K:Ai)(ml:List Nat)(pu b:Bool)(f:O9):TA:=λσ H Q=>∃B O δ d δ',aN K ml B O H σ δ/\f δ=some (d,δ')/\∀vs H',ResA K ml B O H σ pu b H' δ' vs d->Q vs H'
def b6:O9:=λδ=>some ([],δ)
noncomputable def cN(fa:VF)(fs:O9):O9:=λδ=>(fa δ).bind λp=>(fs p.2).map λq=>(p.1::q.1,q.2)
theorem CD{fs:O9}{ds:List cO}(h:cN fa fs δ=some (ds,δ')):∃x δ1 xs,fa δ=some (x,δ1)/\fs δ1=some (xs,δ')/\ds=x::xs:=by
 unfold cN at h;cases h1:fa δ with
 |none=>rw[h1] at h;cases h
 |some p=>
  rw[h1] at h;cases h2:fs p.2 with
  |none=>simp[h2] at h
  |some q=>
   simp only[Af,h2] at h;cases h;exact⟨p.1,p.2,q.1,rfl,h2,rfl⟩
theorem cF:PA X [] (TAV K ml true true b6):=ZO.imp λσ H Q q0=>by obtain⟨B,O,δ,d,δ',S,q,k⟩:=q0;cases q;exact k [] H ⟨S,Fr.refl _ _,λ_=>aL.refl _,.nil⟩
theorem cP{fs:O9}(ha:PE X a (TV K ml pa ta ia fa))(hr:PA X es (TAV K ml ps bs fs))(hs:Uo (a::es) X.env=(false,eval a X.env)::Uo es X.env:=by rfl)(hl:(ps || (ta&&ia))=true:=by rfl)(ht:ta=true:=by rfl):
  PA X (a::es) (TAV K ml (pa&&ps) (ta&&ia&&bs) (cN fa fs)):=(bD ha hr hs).imp λσ H Q ⟨B,O,δ,d,δ2,S,q,k⟩=>by
 obtain⟨x,δ1,xs,h1,h2,rfl⟩:=CD q;refine⟨B,O,δ,x,δ1,S,h1,λv1 H1 R1=>⟨B,O,δ1,xs,δ2,R1.sta,h2,λvs H2 R2=>k _ H2 ⟨R2.sta,R1.frm.trans R2.frm,λz=>?_,?_⟩⟩⟩
 ·obtain⟨z1,z2⟩:=(Ae _ _).mp z
  exact(R1.pur z1).trans (R2.pur z2)
 ·have g : ∀ c,((ta && ia && bs) = true -> c = true) -> ∀ a,av B O (ta && ia && bs) a -> av B O c a := λc h => PB h
  have g1:=g ta λz=>by simp only[Ae] at z;exact z.1.1
  have g2:=g ia λz=>by simp only[Ae] at z;exact z.1.2
  have g3:=g bs λz=>by simp only[Ae] at z;exact z.2
  refine .cons ?_ (R2.rep.mono g3);have h:bB K (av B O ia) H2 (at_ B O ta) v1 x:=by
   cases ps with
   |true=>exact R1.rep.same (R2.pur rfl)
   |false=>
    have hs:(ta&&ia)=true:=by simpa using hl
    obtain⟨h1,h2⟩:=(Ae _ _).mp hs;subst h1 h2;exact R1.rep.fr R2.frm (λa z=>.inr z) λa z=>.inr z
  subst ht;exact h.mono g2 g1
theorem aN.lone(S:aN K ml B O H σ δ){i:Nat}{x:cO}(hm:i∉ml)(h:fO i δ=some (x,δ')):δ'=δ/\∃v,σ[i]?=some (some v)/\bB K (av B O false) H (av B O false) v x:=by
 unfold fO at h;split at h
 ·rename_i d hd
  cases h;obtain⟨v,e1,r⟩:=S.va i _ hd;exact⟨rfl,v,e1,r.mono (λa z=>z.1) λa z=>z.1⟩
 ·rename_i d hd
  cases h;obtain⟨a,e1,e2,w⟩:=S.ow i _ hd;refine⟨rfl,.ref a,e2,(w.mono λa z=>z.1).rep λz=>?_⟩;rcases z.2 with z|⟨j,z⟩
  ·exact(S.old i a e1).1 z
  ·have hj:=S.par.1 j a z
   have:i=j:=S.inj i j a e1 ((S.par.2 j hj).trans z);exact hm (this▸hj)
 ·cases h
noncomputable def aT(fs:O9):VF:=λδ=>(fs δ).bind λp=>if p.1.length<=16777216 then some (.tup p.1,p.2) else none
noncomputable def ZT(fs:O9):VF:=λδ=>(fs δ).bind λp=>if p.1.length<=16777216 then some (.lst p.1,p.2) else none
theorem NU{fs:O9}{g:List cO->cO}(h:((fs δ).bind λp=>if p.1.length<=16777216 then some (g p.1,p.2) else none)=some (d,δ')):∃ds,fs δ=some (ds,δ')/\ds.length<=16777216/\d=g ds:=by
 cases h1:fs δ with
 |none=>rw[h1] at h;cases h
 |some p=>
  rw[h1] at h;have h:(if p.1.length<=16777216 then some (g p.1,p.2) else none)=some (d,δ'):=h;split at h
  ·cases h
   exact⟨p.1,rfl,by assumption,rfl⟩
  ·cases h
theorem bN{x1}{fs:O9}(h:PA X es (TAV K ml pu bs fs)):PE X (.Tuple es x1 pos) (TV K ml pu true bs (aT fs)):=(Ym h).imp λσ H Q q0=>by obtain⟨B,O,δ,d,δ',S,q,k⟩:=q0;obtain⟨ds,h1,hl,rfl⟩:=NU (g:=cO.tup) q;refine⟨B,O,δ,ds,δ',S,h1,λvs H1 R=>⟨by rw[R.rep.length,Bu];exact hl,λp hp=>k _ _ ⟨R.sta.same (cJ hp),R.frm.trans (cJ hp).fr,λz=>(R.pur z).trans (cJ hp),.tup (WF.of b5) (R.rep.same (cJ hp))⟩⟩⟩
theorem nI{fs:O9}(h:PA X es (TAV K ml pu bs fs)):PE X (.List es pos) (TV K ml pu true bs (ZT fs)):=(Wm h).imp λσ H Q q0=>by obtain⟨B,O,δ,d,δ',S,q,k⟩:=q0;obtain⟨ds,h1,hl,rfl⟩:=NU (g:=cO.lst) q;refine⟨B,O,δ,ds,δ',S,h1,λvs H1 R=>⟨by rw[R.rep.length,Bu];exact hl,λp hp=>k _ _ ⟨R.sta.same (cJ hp),R.frm.trans (cJ hp).fr,λz=>(R.pur z).trans (cJ hp),.lst b5 (R.sta.new hp) (R.rep.same (cJ hp))⟩⟩⟩
theorem aZ{fs:O9}(h:PA X es (TAV K ml pu true fs)):PE X (.List es pos) (TN K ml pu (ZT fs)):=(Wm h).imp λσ H Q q0=>by obtain⟨B,O,δ,d,δ',S,q,k⟩:=q0;obtain⟨ds,h1,hl,rfl⟩:=NU (g:=cO.lst) q;exact⟨B,O,δ,ds,δ',S,h1,λvs H1 R=>⟨by rw[R.rep.length,Bu];exact hl,λp hp=>k p _ (mkN R.sta R.frm R.pur hp R.rep)⟩⟩
abbrev VB:=Ev->Option (Bool×Ev)
structure BQ(K:Ai)(ml:List Nat)(B:Bs)(O:Nat->Option Um)(H:Hp)(σ:St)(pu:Bool)(H':Hp)(δ':Ev):Prop where
 sta:aN K ml B O H' σ δ'
 frm:Fr (OA O) H H'
 pur:pu=true->aL H H'
def TB(K:Ai)(ml:List Nat)(pu:Bool)(f:VB):TT:=λσ H Q=>∃B O δ k δ',aN K ml B O H σ δ/\f δ=some (k,δ')/\∀H',BQ K ml B O H σ pu H' δ'->Q k H'
noncomputable def fB(f:VF):VB:=λδ=>(f δ).bind λp=>match p.1 with
 |.bl k=>some (k,p.2)
 |_=>none
theorem nR{f:VF}{k:Bool}(h:fB f δ=some (k,δ')):f δ=some (.bl k,δ'):=by
 unfold fB at h;cases h1:f δ with
 |none=>rw[h1] at h;cases h
 |some p=>
  obtain⟨x,δ1⟩:=p;rw[h1] at h;cases x<;>first
   |(cases h;rfl)
   |cases h
theorem K0{f:VF}{t:TE}(ht:∀σ H Q,TV K ml pu bt bi f σ H Q->t σ H Q){Q:Bool->Hp->Prop}(h:TB K ml pu (fB f) σ H Q):t σ H λx H'=>∃k,x=.bl k/\Q k H':=by obtain⟨B,O,δ,k,δ',S,q,w⟩:=h;refine ht σ H _ ⟨B,O,δ,.bl k,δ',S,nR q,λv H' R=>⟨k,?_,w H' ⟨R.sta,R.frm,R.pur⟩⟩⟩;cases R.rep;rfl
theorem a6{op:CmpOp}(ho:W9 X (Cr op) r)(hv:QF K r o)(ha:PE X a (TV K ml pa ta ia fa))(hb:PE X b (TV K ml pb tb ib fb))(hm:Hz op b=false)(hs:(pb || (ta&&ia))=true:=by rfl):PT X (.Compare a [op] [b] pos) (TB K ml (pa&&pb) (fB (f2 o fa fb))):=
 (iK ho ha hb hm).imp λ_ _ _ h=>K0 (λ_ _ _=>GX hv hs) h
theorem YJ{f:VF}(h:PE X e (TV K ml pu bt bi f))(he:∀bq,isTrue e X.env bq=(do let v<-bq;standAt e.pos;holding [v] (truthy v)):=by intro _;rfl):PT X e (TB K ml pu (fB f)):=
 (mD h he).imp λ_ _ _ h=>K0 (λ_ _ _ z=>z) h
noncomputable def NI(x y:VB):VB:=λδ=>(x δ).bind λp=>if p.1=true then y p.2 else some (false,p.2)
noncomputable def G2(x y:VB):VB:=λδ=>(x δ).bind λp=>if p.1=true then some (true,p.2) else y p.2
noncomputable def R6(x:VB):VB:=λδ=>(x δ).map λp=>(!p.1,p.2)
theorem BQ.refl(S:aN K ml B O H σ δ):BQ K ml B O H σ pu H δ:=⟨S,Fr.refl _ _,λ_=>aL.refl _⟩
theorem lY{x y:VB}{Q:Bool->Hp->Prop}(h:TB K ml (pa&&pb) (NI x y) σ H Q):tAnd (TB K ml pa x) (TB K ml pb y) σ H Q:=by
 obtain⟨B,O,δ,k,δ',S,q,w⟩:=h;unfold NI at q;cases h1:x δ with
 |none=>rw[h1] at q;cases q
 |some p=>
  obtain⟨kk,δ1⟩:=p;rw[h1] at q;refine⟨B,O,δ,kk,δ1,S,h1,λH1 R1=>?_⟩;cases kk with
  |true=>
   have q:y δ1=some (k,δ'):=q;exact NA ⟨B,O,δ1,k,δ',R1.sta,q,λH2 R2=>w H2 ⟨R2.sta,R1.frm.trans R2.frm,λz=>by obtain⟨z1,z2⟩:=(Ae _ _).mp z;exact(R1.pur z1).trans (R2.pur z2)⟩⟩
  |false=>
   have q:some (false,δ1)=some (k,δ'):=q;cases q;exact M9 (w H1 ⟨R1.sta,R1.frm,λz=>R1.pur ((Ae _ _).mp z).1⟩)
theorem Zf{x y:VB}{Q:Bool->Hp->Prop}(h:TB K ml (pa&&pb) (G2 x y) σ H Q):tOr (TB K ml pa x) (TB K ml pb y) σ H Q:=by
 obtain⟨B,O,δ,k,δ',S,q,w⟩:=h;unfold G2 at q;cases h1:x δ with
 |none=>rw[h1] at q;cases q
 |some p=>
  obtain⟨kk,δ1⟩:=p;rw[h1] at q;refine⟨B,O,δ,kk,δ1,S,h1,λH1 R1=>?_⟩;cases kk with
  |false=>
   have q:y δ1=some (k,δ'):=q;exact M9 ⟨B,O,δ1,k,δ',R1.sta,q,λH2 R2=>w H2 ⟨R2.sta,R1.frm.trans R2.frm,λz=>by obtain⟨z1,z2⟩:=(Ae _ _).mp z;exact(R1.pur z1).trans (R2.pur z2)⟩⟩
  |true=>
   have q:some (true,δ1)=some (k,δ'):=q;cases q;exact NA (w H1 ⟨R1.sta,R1.frm,λz=>R1.pur ((Ae _ _).mp z).1⟩)
theorem XS{x:VB}(h:PT X a (TB K ml pu x)):PT X (.UnaryOp .Not a pos) (TB K ml pu (R6 x)):=(gH h).imp λσ H Q q0=>by
 obtain⟨B,O,δ,k,δ',S,q,w⟩:=q0;unfold R6 at q;cases h1:x δ with
 |none=>rw[h1] at q;cases q
 |some p=>
  rw[h1] at q;cases q;exact⟨B,O,δ,p.1,p.2,S,h1,w⟩
theorem K4{x:VB}(h:PT X a (TB K ml pu x)):PW X (.BoolOp .And [a] pos) (TB K ml pu x):=kU h
theorem WE{x:VB}(h:PT X a (TB K ml pu x)):PW X (.BoolOp .Or [a] pos) (TB K ml pu x):=kJ h
theorem GY{x y:VB}(ha:PT X a (TB K ml pa x))(hb:PW X (.BoolOp .And (b::es) pos) (TB K ml pb y)):PW X (.BoolOp .And (a::b::es) pos) (TB K ml (pa&&pb) (NI x y)):=(gM ha hb).imp λ_ _ _ h=>lY h
theorem TD{x y:VB}(ha:PT X a (TB K ml pa x))(hb:PW X (.BoolOp .Or (b::es) pos) (TB K ml pb y)):PW X (.BoolOp .Or (a::b::es) pos) (TB K ml (pa&&pb) (G2 x y)):=(dU ha hb).imp λ_ _ _ h=>Zf h
theorem Q5{x:VB}(h:PW X e (TB K ml pu x)):PT X e (TB K ml pu x):=h.pt
noncomputable def NS(x y:VF):VF:=λδ=>(x δ).bind λp=>match p.1 with
 |.bl true=>y p.2
 |.bl false=>some (.bl false,p.2)
 |_=>none
theorem Q4{op}{f:VF}(h:PE X a (TV K ml pu bt bi f)):PE X (.BoolOp op [a] pos) (TV K ml pu bt bi f):=mL h
theorem UT(ha:PE X a (TV K ml pa ta ia fa))(hb:PE X (.BoolOp .And (b::es) pos) (TV K ml pb tb ib fb)):PE X (.BoolOp .And (a::b::es) pos) (TV K ml (pa&&pb) tb ib (NS fa fb)):=(fY ha hb).imp λσ H Q q0=>by
 obtain⟨B,O,δ,d,δ',S,q,k⟩:=q0;unfold NS at q;cases h1:fa δ with
 |none=>rw[h1] at q;cases q
 |some p=>
  obtain⟨x,δ1⟩:=p;rw[h1] at q;refine⟨B,O,δ,x,δ1,S,h1,λv1 H1 R1=>?_⟩;cases x with
  |bl kk=>
   have e1:v1=.bl kk:=by cases R1.rep;rfl
   refine⟨kk,e1,?_⟩;cases kk with
   |true=>
    exact NA ⟨B,O,δ1,d,δ',R1.sta,q,λv2 H2 R2=>k v2 H2 ⟨R2.sta,R1.frm.trans R2.frm,λz=>by obtain⟨z1,z2⟩:=(Ae _ _).mp z;exact(R1.pur z1).trans (R2.pur z2),R2.rep⟩⟩
   |false=>
    cases q;exact M9 (k _ H1 ⟨R1.sta,R1.frm,λz=>R1.pur ((Ae _ _).mp z).1,.bl _⟩)
  |_=>cases q
noncomputable def fIf(t:VB)(x y:VF):VF:=λδ=>(t δ).bind λp=>if p.1=true then x p.2 else y p.2
theorem JH{t:VB}(ht:PT X c (TB K ml pc t))(ha:PE X a (TV K ml pa ta ia fa))(hb:PE X b (TV K ml pb tb ib fb)):PE X (.IfExp c a b pos) (TV K ml (pc&&pa&&pb) (ta&&tb) (ia&&ib) (fIf t fa fb)):=(Zb ht ha hb).imp λσ H Q q0=>by
 obtain⟨B,O,δ,d,δ',S,q,k⟩:=q0;unfold fIf at q;cases h1:t δ with
 |none=>rw[h1] at q;cases q
 |some p=>
  obtain⟨kk,δ1⟩:=p;rw[h1] at q;refine⟨B,O,δ,kk,δ1,S,h1,λH1 R1=>?_⟩;have g1:∀c,((ta&&tb)=true->c=true)->∀a,at_ B O (ta&&tb) a->at_ B O c a:=λc h=>lP h;have g2:∀c,((ia&&ib)=true->c=true)->∀a,av B O (ia&&ib) a->av B O c a:=λc h=>PB h;cases kk with
  |true=>
   exact NA ⟨B,O,δ1,d,δ',R1.sta,q,λv2 H2 R2=>k v2 H2 ⟨R2.sta,R1.frm.trans R2.frm,λz=>by simp only[Ae] at z;exact(R1.pur z.1.1).trans (R2.pur z.1.2),R2.rep.mono (g2 _ λz=>((Ae _ _).mp z).1) (g1 _ λz=>((Ae _ _).mp z).1)⟩⟩
  |false=>
   exact M9 ⟨B,O,δ1,d,δ',R1.sta,q,λv2 H2 R2=>k v2 H2 ⟨R2.sta,R1.frm.trans R2.frm,λz=>by simp only[Ae] at z;exact(R1.pur z.1.1).trans (R2.pur z.2),R2.rep.mono (g2 _ λz=>((Ae _ _).mp z).2) (g1 _ λz=>((Ae _ _).mp z).2)⟩⟩
noncomputable def f3(o o':cO->cO->Option cO)(fa fb fc:VF):VF:=λδ=>(fa δ).bind λp=>(fb p.2).bind λq=>(o p.1 q.1).bind λz=>match z with
 |.bl true=>(fc q.2).bind λs=>(o' q.1 s.1).map λu=>(u,s.2)
 |.bl false=>some (.bl false,q.2)
 |_=>none
theorem JD(ho:QF K r o)(ho':QF K r' o')(hs:(pb || (ta && ia))=true)(hs':(pc || (tb && ib))=true){Q:VK}(h:TV K ml (pa && pb && pc) true true (f3 o o' fa fb fc) σ H Q):GU r r' (TV K ml pa ta ia fa) (TV K ml pb tb ib fb) (TV K ml pc tc ic fc) σ H Q:=by
 obtain⟨B,O,δ,d,δ3,S,q,k⟩:=h;unfold f3 at q;cases h1:fa δ with
 |none=>rw[h1] at q;cases q
 |some p=>
  obtain⟨x,δ1⟩:=p;rw[h1] at q;cases h2:fb δ1 with
  |none=>simp[h2] at q
  |some p2=>
   obtain⟨y,δ2⟩:=p2;simp only[Af,h2] at q;refine⟨B,O,δ,x,δ1,S,h1,λv1 H1 R1=>⟨B,O,δ1,y,δ2,R1.sta,h2,λv2 H2 R2=>?_⟩⟩;cases h3:o x y with
   |none=>rw[h3] at q;cases q
   |some z=>
    rw[h3] at q;refine ho H2 _ _ _ _ v1 v2 x y z _ (R2.live hs R1.rep) R2.rep h3 λv hv=>?_;have hv:=hv (λ_=>none) (λ_=>True) λ_=>True;cases z with
    |bl kk=>
     have e1:v=.bl kk:=by cases hv;rfl
     refine⟨kk,e1,?_⟩;cases kk with
     |false=>
      cases q;exact M9 (k _ H2 ⟨R2.sta,R1.frm.trans R2.frm,λz=>by simp only[Ae] at z;exact(R1.pur z.1.1).trans (R2.pur z.1.2),.bl _⟩)
     |true=>
      have q:((fc δ2).bind λs=>(o' y s.1).map λu=>(u,s.2))=some (d,δ3):=q;cases h4:fc δ2 with
      |none=>rw[h4] at q;cases q
      |some p4=>
       obtain⟨z4,δ4⟩:=p4;rw[h4] at q;have q:((o' y z4).map λu=>(u,δ4))=some (d,δ3):=q;cases h5:o' y z4 with
       |none=>rw[h5] at q;cases q
       |some u=>
        rw[h5] at q;cases q;refine NA ⟨B,O,δ2,z4,_,R2.sta,h4,λv4 H4 R4=>?_⟩;exact ho' H4 _ _ _ _ v2 v4 y z4 d Q (R4.live hs' R2.rep) R4.rep h5 λv hv=>k v H4 ⟨R4.sta,(R1.frm.trans R2.frm).trans R4.frm,λz=>by simp only[Ae] at z;exact((R1.pur z.1.1).trans (R2.pur z.1.2)).trans (R4.pur z.2),hv _ _ _⟩
    |_=>cases q
theorem AQ{op op':CmpOp}(ho:W9 X (Cr op) r)(ho':W9 X (Cr op') r')(hv:QF K r o)(hv':QF K r' o')(ha:PE X a (TV K ml pa ta ia fa))(hb:PE X b (TV K ml pb tb ib fb))(hc:PE X c (TV K ml pc tc ic fc))(hm:Rp [op,op'] [b,c]=false:=by with_unfolding_all rfl)(hs:(pb || (ta&&ia))=true:=by rfl)(hs':(pc || (tb&&ib))=true:=by rfl):PE X (.Compare a [op,op'] [b,c] pos) (TV K ml (pa&&pb&&pc) true true (f3 o o' fa fb fc)):=
 (gB ho ho' ha hb hc hm).imp λ_ _ _ h=>JD hv hv' hs hs' h
theorem A0{op op':CmpOp}(ho:W9 X (Cr op) r)(ho':W9 X (Cr op') r')(hv:QF K r o)(hv':QF K r' o')(ha:PE X a (TV K ml pa ta ia fa))(hb:PE X b (TV K ml pb tb ib fb))(hc:PE X c (TV K ml pc tc ic fc))(hm:Rp [op,op'] [b,c]=false:=by with_unfolding_all rfl)(hs:(pb || (ta&&ia))=true:=by rfl)(hs':(pc || (tb&&ib))=true:=by rfl):PT X (.Compare a [op,op'] [b,c] pos) (TB K ml (pa&&pb&&pc) (fB (f3 o o' fa fb fc))):=
 (dO ho ho' ha hb hc hm).imp λ_ _ _ h=>K0 (λ_ _ _=>JD hv hv' hs hs') h
end
section
variable{X:Cx}{K:Ai}{ml:List Nat}{e a b c:Ut}{es:List Ut}{pa ta ia pb tb ib pc tc ic pu bt bi ps bs:Bool}{fa fb fc:VF}{B:Bs}{O:Nat->Option Um}{H H1 H':Hp}{σ:St}{δ δ':Ev}{v:V}{d:cO}{p:Um}{pos:Pos}
noncomputable def f1(o:cO->Option cO)(fa:VF):VF:=λδ=>(fa δ).bind λp=>(o p.1).map λc=>(c,p.2)
theorem QK{o:cO->Option cO}(h:f1 o fa δ=some (d,δ')):∃x,fa δ=some (x,δ')/\o x=some d:=by
 unfold f1 at h;cases h1:fa δ with
 |none=>rw[h1] at h;cases h
 |some p=>
  rw[h1] at h;have h:((o p.1).map λc=>(c,p.2))=some (d,δ'):=h;cases h3:o p.1 with
  |none=>rw[h3] at h;cases h
  |some c=>
   rw[h3] at h;cases h;exact⟨p.1,rfl,h3⟩
abbrev RC:=List V->Hp->VK->Prop
def CalS(K:Ai)(r:RC)(o:cO->Option cO):Prop:=∀(H:Hp) (N M:Um->Prop) (x:V) (d c:cO) (Q:VK),bB K N H M x d->o d=some c->(∀v,(∀H' N M,bB K N H' M v c)->Q v H)->r [x] H Q
def CalC(K:Ai)(r:RC)(o:cO->Option cO):Prop:=∀(H:Hp) (N M:Um->Prop) (x:V) (d c:cO) (Q:VK),bB K N H M x d->o d=some c->
 (∀v H',aL H H'->(∀M,(∀a,M a->∃o,H a=some o)->bB K N H' M v c)->Q v H')->r [x] H Q
def CalN(K:Ai)(r:RC)(o:cO->Option cO):Prop:=∀(H:Hp) (N M:Um->Prop) (x:V) (d c:cO) (Q:VK),bB K N H M x d->o d=some c->
 (∀p xs ds,H p=none->bY K N H xs ds->c=.lst ds->Q (.ref p) (upd H p (.lst xs)))->r [x] H Q
def NE(K:Ai)(r:RC)(o:cO->cO->Option cO):Prop:=∀(H:Hp) (N N' M M':Um->Prop) (x y:V) (d e c:cO) (Q:VK),bB K N H M x d->bB K N' H M' y e->o d e=some c->(∀v,(∀H' N M,bB K N H' M v c)->Q v H)->r [x,y] H Q
theorem DG{r:RC}{o:cO->Option cO}(ho:CalS K r o){Q:VK}(h:TV K ml pa true true (f1 o fa) σ H Q):tCB r (MQ (TV K ml pa ta ia fa) AG) σ H Q:=by obtain⟨B,O,δ,d,δ',S,q,k⟩:=h;obtain⟨x,h1,h2⟩:=QK q;exact⟨B,O,δ,x,δ',S,h1,λv1 H1 R1=>ho H1 _ _ v1 x d Q R1.rep h2 λv hv=>k v H1 ⟨R1.sta,R1.frm,R1.pur,hv _ _ _⟩⟩
theorem DF{r:RC}{o:cO->Option cO}(ho:CalC K r o){Q:VK}(h:TV K ml pa true ia (f1 o fa) σ H Q):tCB r (MQ (TV K ml pa ta ia fa) AG) σ H Q:=by obtain⟨B,O,δ,d,δ',S,q,k⟩:=h;obtain⟨x,h1,h2⟩:=QK q;exact⟨B,O,δ,x,δ',S,h1,λv1 H1 R1=>ho H1 _ _ v1 x d Q R1.rep h2 λv H2 s2 hv=>k v H2 ⟨R1.sta.same s2,R1.frm.trans s2.fr,λz=>(R1.pur z).trans s2,hv _ λa z=>R1.sta.nin z⟩⟩
theorem MU{r:RC}{o:cO->Option cO}(ho:CalN K r o){Q:VK}(h:TN K ml pa (f1 o fa) σ H Q):tCB r (MQ (TV K ml pa ta true fa) AG) σ H Q:=by obtain⟨B,O,δ,d,δ',S,q,k⟩:=h;obtain⟨x,h1,h2⟩:=QK q;refine⟨B,O,δ,x,δ',S,h1,λv1 H1 R1=>ho H1 _ _ v1 x d Q R1.rep h2 λp xs ds hp hr he=>?_⟩;subst he;exact k p _ (mkN R1.sta R1.frm R1.pur hp hr)
theorem DH{r:RC}{o:cO->cO->Option cO}(ho:NE K r o)(hs:(pb || (ta&&ia))=true){Q:VK}(h:TV K ml (pa&&pb) true true (f2 o fa fb) σ H Q):tCB r (MQ (TV K ml pa ta ia fa) (MQ (TV K ml pb tb ib fb) AG)) σ H Q:=by
 obtain⟨B,O,δ,d,δ2,S,q,k⟩:=h;obtain⟨x,δ1,y,h1,h2,h3⟩:=R9 q;refine⟨B,O,δ,x,δ1,S,h1,λv1 H1 R1=>⟨B,O,δ1,y,δ2,R1.sta,h2,λv2 H2 R2=>?_⟩⟩;exact ho H2 _ _ _ _ v1 v2 x y d Q (R2.live hs R1.rep) R2.rep h3 λv hv=>k v H2 ⟨R2.sta,R1.frm.trans R2.frm,λz=>by obtain⟨z1,z2⟩:=(Ae _ _).mp z;exact(R1.pur z1).trans (R2.pur z2),hv _ _ _⟩
section
variable{x:Us}{p':Pos}{id T:String}{r:RC}
theorem Wy{o:cO->Option cO}(hc:Z1 X (.builtin id) r)(ho:CalS K r o)(hg:Gl X x)(hm:X.mg x=none)(hv:Be x=some (.builtin id))(ha:PE X a (TV K ml pa ta ia fa))(hn:x≠ "__name__":=by decide)(hdb:(x==("__debug__":Us))=false:=by decide)(he:Uo (a::[]) X.env=(false,eval a X.env)::Uo [] X.env:=by rfl):PE X (.Call (.Name x p') [a] [] pos) (TV K ml pa true true (f1 o fa)):=
 (OE hc hg hm hv (bD ha ZO he) hn hdb he).imp λ_ _ _ h=>DG ho h
theorem X7{o:cO->cO->Option cO}(hc:Z1 X (.builtin id) r)(ho:NE K r o)(hg:Gl X x)(hm:X.mg x=none)(hv:Be x=some (.builtin id))(ha:PE X a (TV K ml pa ta ia fa))(hb:PE X b (TV K ml pb tb ib fb))(hn:x≠ "__name__":=by decide)(hdb:(x==("__debug__":Us))=false:=by decide)(he:Uo (a::[b]) X.env=(false,eval a X.env)::Uo [b] X.env:=by rfl)(he2:Uo (b::[]) X.env=(false,eval b X.env)::Uo [] X.env:=by rfl)(hpl:(Dq pos (Uo [b] X.env)).any (·.1)=false:=by rfl)(hs:(pb || (ta&&ia))=true:=by rfl):PE X (.Call (.Name x p') [a,b] [] pos) (TV K ml (pa&&pb) true true (f2 o fa fb)):=
 (OE hc hg hm hv (bD ha (bD hb ZO he2) he) hn hdb he hpl).imp λ_ _ _ h=>DH ho hs h
theorem JG{o:cO->Option cO}(hc:Z1 X (.type T) r)(ho:CalC K r o)(hg:Gl X x)(hm:X.mg x=none)(hv:Be x=some (.type T))(ha:PE X a (TV K ml pa ta ia fa))(hn:x≠ "__name__":=by decide)(hdb:(x==("__debug__":Us))=false:=by decide)(he:Uo (a::[]) X.env=(false,eval a X.env)::Uo [] X.env:=by rfl):PE X (.Call (.Name x p') [a] [] pos) (TV K ml pa true ia (f1 o fa)):=
 (V3 hc hg hm hv (bD ha ZO he) hn hdb he).imp λ_ _ _ h=>DF ho h
theorem JI{o:cO->Option cO}(hc:Z1 X (.type T) r)(ho:CalN K r o)(hg:Gl X x)(hm:X.mg x=none)(hv:Be x=some (.type T))(ha:PE X a (TV K ml pa ta true fa))(hn:x≠ "__name__":=by decide)(hdb:(x==("__debug__":Us))=false:=by decide)(he:Uo (a::[]) X.env=(false,eval a X.env)::Uo [] X.env:=by rfl):PE X (.Call (.Name x p') [a] [] pos) (TN K ml pa (f1 o fa)):=
 (V3 hc hg hm hv (bD ha ZO he) hn hdb he).imp λ_ _ _ h=>MU ho h
theorem jG{o:cO->Option cO}(hc:Z1 X (.builtin id) r)(ho:CalN K r o)(hg:Gl X x)(hm:X.mg x=none)(hv:Be x=some (.builtin id))(ha:PE X a (TV K ml pa ta true fa))(hn:x≠ "__name__":=by decide)(hdb:(x==("__debug__":Us))=false:=by decide)(he:Uo (a::[]) X.env=(false,eval a X.env)::Uo [] X.env:=by rfl):PE X (.Call (.Name x p') [a] [] pos) (TN K ml pa (f1 o fa)):=
 (OE hc hg hm hv (bD ha ZO he) hn hdb he).imp λ_ _ _ h=>MU ho h
end
noncomputable def YW:cO->Option cO
 |.tup ds=>some (.int ds.length)
 |.lst ds=>some (.int ds.length)
 |.str z=>if z.length<=16777216 then some (.int z.length) else none
 |_=>none
def rLen(K:Ai):RC:=λxs H Q=>(∃p ys,xs=[.ref p]/\(X6 K H p ys∨WF K H p ys)/\Q (.int ys.length) H)∨∃z,xs=[.str z]/\z.length<=sizeLine/\Q (.int z.length) H
theorem fS(h:X.K=K):Z1 X (.builtin "len") (rLen K):=by subst h;exact JU.or JV
theorem Zw:CalS K (rLen K) YW:=by
  intro H N M x d c Q hx h k;cases d<;>first
    | (rename_i ds
       obtain⟨a,xs,rfl,sq,r⟩:=hx.seq rfl;cases h;refine .inl ⟨a,xs,rfl,sq,?_⟩;rw[r.length];exact k _ λ_ _ _=>.int _)
    | (cases hx
       simp only[YW] at h;split at h
       · cases h
         exact .inr ⟨_,rfl,by rw[Bu];assumption,k _ λ_ _ _=>.int _⟩
       · cases h)
    |cases h
noncomputable def SZ(d:cO):Option cO:=(YH d).map cO.lst
noncomputable def UL(d:cO):Option cO:=(YH d).map cO.tup
def Yr(K:Ai):RC:=λxs H Q=>∃p ys,xs=[.ref p]/\(X6 K H p ys∨WF K H p ys)/\∀l,H l=none->Q (.ref l) (upd H l (.lst ys))
def EV(K:Ai):RC:=λxs H Q=>∃p ys,xs=[.ref p]/\((X6 K H p ys/\∀l,H l=none->Q (.ref l) (upd H l (.tup ys)))∨(WF K H p ys/\Q (.ref p) H))
theorem N0(h:X.K=K):Z1 X (.type "list") (Yr K):=Zx h
theorem RK(h:X.K=K):Z1 X (.type "tuple") (EV K):=cU h
theorem IU{d:cO}{g:List cO->cO}{c:cO}(h:(YH d).map g=some c):∃ds,YH d=some ds/\c=g ds:=by
 cases h1:YH d with
 |none=>rw[h1] at h;cases h
 |some ds=>rw[h1] at h;cases h;exact⟨ds,rfl,rfl⟩
theorem XM:CalN K (Yr K) SZ:=by intro H N M x d c Q hx h k;obtain⟨ds,h1,rfl⟩:=IU h;obtain⟨a,xs,rfl,sq,r⟩:=hx.seq h1;exact⟨a,xs,rfl,sq,λl hl=>k l xs ds hl r rfl⟩
theorem RB:CalC K (EV K) UL:=by
 intro H N M x d c Q hx h k;obtain⟨ds,h1,rfl⟩:=IU h;obtain⟨a,xs,rfl,sq,r⟩:=hx.seq h1;rcases sq with sq|sq
 ·exact⟨a,xs,rfl,.inl ⟨sq,λl hl=>k _ _ (cJ hl) λM hM=>.tup (WF.of b5) (r.same (cJ hl))⟩⟩
 ·exact⟨a,xs,rfl,.inr ⟨sq,k _ _ (aL.refl _) λM hM=>.tup sq r⟩⟩
noncomputable def o2I(g:Int->Int->Int):cO->cO->Option cO
 |.int i,.int j=>some (.int (g i j))
 |_,_=>none
theorem Xh{g:Int->Int->Int}:NE K (λxs H Q=>∃i j,xs=[.int i,.int j]/\Q (.int (g i j)) H) (o2I g):=by
 intro H N N' M M' x y d e c Q hx hy h k;unfold o2I at h;split at h
 ·cases h
  cases hx;cases hy;exact⟨_,_,rfl,k _ λ_ _ _=>.int _⟩
 ·cases h
noncomputable abbrev oMax:=o2I λi j=>if j>i then j else i
noncomputable abbrev oMin:=o2I λi j=>if j<i then j else i
theorem Zc:NE K (λxs H Q=>∃i j,xs=[.int i,.int j]/\Q (.int (if j>i then j else i)) H) oMax:=Xh
theorem dC:NE K (λxs H Q=>∃i j,xs=[.int i,.int j]/\Q (.int (if j<i then j else i)) H) oMin:=Xh
noncomputable def tyD:cO->Option String
 |.non=>some "NoneType"
 |.bl _=>some "bool"
 |.int _=>some "int"
 |.str _=>some "str"
 |.tup _=>some "tuple"
 |.lst _=>some "list"
 |_=>none
noncomputable def QP(t n:String):Option Bool:=if((Kz t)==(Kz n))=true then some true else if W.kitMeta n=true then(PySem.fastBuiltinMro t).map (·.contains (.type n)) else none
theorem Yz{t n:String}{k:Bool}(h:QP t n=some k):Hg K (.type t) (.type n)=some k:=h
noncomputable def QV:cO->cO->Option cO
 |d,.ty n=>(tyD d).bind λt=>(QP t n).map cO.bl
 |_,_=>none
def rIsi(K:Ai):RC:=λxs H Q=>∃x n d N M t k,xs=[x,.ty n]/\bB K N H M x d/\tyD d=some t/\QP t n=some k/\Q (.bl k) H
theorem BV:Z1 X (.builtin "isinstance") (rIsi X.K):=by
 intro aa s σ H xs us Q I r h;obtain⟨x,n,d,N,M,t,k,rfl,hx,ht,hk,q⟩:=h;obtain⟨u,c,rfl,rx,rc⟩:=JE r;cases (show c=Kz n from rc);have e:=Yz (K:=X.K) hk;have fin:∀tk,EP X aa σ Q (.bool k) {s with toks:=tk}:=λtk=>⟨.bl k,H,I.tok tk,rfl,q⟩;cases hx with
 |non=>cases ht;exact T4 I rx (.non) e fin
 |bl y=>cases ht;exact T4 I rx (.bl y) e fin
 |int i=>cases ht;exact T4 I rx (.int i) e fin
 |str y=>cases ht;exact T4 I rx (.str y) e fin
 |ty n=>cases ht
 |fn _=>cases ht
 |dct _ _ _=>cases ht
 |ktb _ _=>cases ht
 |exn _ _ _=>cases ht
 |exr _ _ _ _ _=>cases ht
 |tup q _=>
  cases ht;cases rx;obtain⟨its,_,⟨o,h1,h2,_⟩,_⟩:=I.tuple q;exact Fb W.kitx_tuple I.kIn ⟨o,h1,h2⟩ e (λz=>nomatch z) fin
 |lst q _ _=>
  cases ht;cases rx;obtain⟨its,_,⟨o,n,h1,h2,_⟩,_⟩:=I.list (X6.of q);exact Fb Nw I.kIn ⟨o,h1,h2⟩ e (λz=>nomatch z) fin
 |fzl q _=>
  cases ht;cases rx;obtain⟨its,_,⟨o,n,h1,h2,_⟩,_⟩:=I.list q.sq;exact Fb Nw I.kIn ⟨o,h1,h2⟩ e (λz=>nomatch z) fin
theorem kIsi(h:X.K=K):Z1 X (.builtin "isinstance") (rIsi K):=by subst h;exact BV
theorem kR:NE K (rIsi K) QV:=by
  intro H N N' M M' x y d e c Q hx hy h k;cases hy<;>first
    | (simp only [QV] at h
       cases h1:tyD d with
       |none=>rw[h1] at h;cases h
       |some t=>
         rw[h1] at h;rename_i n;have h:(QP t n).map cO.bl=some c:=h;cases h2:QP t n with
         |none=>rw[h2] at h;cases h
         |some kk=>
           rw[h2] at h;cases h;exact⟨x,n,d,N,M,t,kk,rfl,hx,h1,h2,k _ λ_ _ _=>.bl _⟩)
    |cases h
noncomputable def QW:cO->Option cO
 |.int i=>some (.int (-i))
 |_=>none
theorem WD(ha:PE X a (TV K ml pa ta ia fa)):PE X (.UnaryOp .USub a pos) (TV K ml pa true true (f1 QW fa)):=(lF Zj ha).imp λσ H Q q0=>by
 obtain⟨B,O,δ,d,δ',S,q,k⟩:=q0;obtain⟨x,h1,h2⟩:=QK q;refine⟨B,O,δ,x,δ',S,h1,λv1 H1 R1=>?_⟩;cases x with
 |int i=>
  cases h2;have e1:v1=.int i:=by cases R1.rep;rfl
  exact⟨i,e1,k _ H1 ⟨R1.sta,R1.frm,R1.pur,.int _⟩⟩
 |_=>cases h2
abbrev VP:=Ev->Option (Option Int×Ev)
def TPO(K:Ai)(ml:List Nat)(pu:Bool)(f:VP):TO:=λσ H Q=>∃B O δ k δ',aN K ml B O H σ δ/\f δ=some (k,δ')/\∀H',BQ K ml B O H σ pu H' δ'->Q k H'
def IE:VP:=λδ=>some (none,δ)
noncomputable def KM(f:VF):VP:=λδ=>(f δ).bind λp=>match p.1 with
 |.int i=>some (some i,p.2)
 |_=>none
theorem PO.imp{e:Option Ut}{t u:TO}(h:PO X e t)(k:∀σ H Q,u σ H Q->t σ H Q):PO X e u:=λaa s σ H Q I w=>h aa s σ H Q I (k σ H Q w)
theorem U8:PO X none (TPO K ml true IE):=zDL.imp λσ H Q q0=>by obtain⟨B,O,δ,d,δ',S,q,k⟩:=q0;cases q;exact k H (BQ.refl S)
theorem U9(h:PE X a (TV K ml pa ta ia fa)):PO X (some a) (TPO K ml pa (KM fa)):=(nQ h).imp λσ H Q q0=>by
 obtain⟨B,O,δ,d,δ',S,q,k⟩:=q0;unfold KM at q;cases h1:fa δ with
 |none=>rw[h1] at q;cases q
 |some p=>
  obtain⟨x,δ1⟩:=p;rw[h1] at q;refine⟨B,O,δ,x,δ1,S,h1,λv1 H1 R1=>?_⟩;cases x with
  |int i=>
   have e1:v1=.int i:=by cases R1.rep;rfl
   cases q;exact⟨i,e1,k H1 ⟨R1.sta,R1.frm,R1.pur⟩⟩
  |_=>cases q
noncomputable def VY(ds:List cO)(lo hi:Option Int):List cO:=(ds.drop (HT.sIx ds.length 0 lo)).take (HT.sIx ds.length ds.length hi - HT.sIx ds.length 0 lo)
theorem PF{N:Um->Prop}{xs:List V}{ds:List cO}(r:bY K N H xs ds)(lo hi:Option Int):bY K N H (HB xs lo hi) (VY ds lo hi):=by unfold HB VY;rw[r.length];exact(r.drop _).take _
noncomputable def oSl(d:cO)(lo hi:Option Int):Option cO:=match d with
 |.lst ds=>some (.lst (VY ds lo hi))
 |.tup ds=>some (.tup (VY ds lo hi))
 |_=>none
noncomputable def J2(fa:VF)(fl fh:VP):VF:=λδ=>(fa δ).bind λp=>(fl p.2).bind λl=>(fh l.2).bind λu=>(oSl p.1 l.1 u.1).map λc=>(c,u.2)
theorem DC{prog:As}{w:Uu}{A:Bt}{E:Ul->Ad->Prop}{s:Ad}{t sl:Um}{items:Array Ul}{vl vu:Ul}{lo hi:Option Int}{Q:Ul->Ad->Prop}(ht:IsTup s.heap t items)(hs:s.heap.IsSliceOf sl vl vu .none)(pl:IsPart vl lo)(pu:IsPart vu hi)(h1:HT.sIx items.size 0 lo=0)(h2:HT.sIx items.size items.size hi=items.size)(h:Q (.ref t) s):Uq (Ur prog w) A (Lq (.ref t) (.ref sl)) Q E s:=by
 obtain⟨os,hos,hcs,hds⟩:=id hs;have hT:s.TypeIs (.ref sl) "slice":=⟨os,hos,hcs⟩;unfold Lq;try with_reducible refine Bq ?_
 first|refine Aa (Ah ?_)|skip
 refine Aa (Lb ht.typeIs (by decide) ?_);refine Aa (Di (name:=Bf "__getitem__") ht.typeIs Em
  (El Em ht.typeIs PyProof.Rows.entry_tuple_getitem ?_ (PyProof.Rows.args_tuple_getitem _ _)))
 show Uq _ _ (Ko (.ref t)>>=_) _ _ s;refine Aa (PyProof.Rows.tupleItemsOf_ ht ?_);refine Aa (Kt hT ?_);rw[if_pos (by decide)];refine Aa (HT.V5 hs pl pu ?_);rw[h1,h2];show Uq _ _ (if((((0:Nat):Int)==0&&(1:Int)==1&&(items.size - 0)==items.size)=true) then _ else _) _ _ s;rw[if_pos (by simp)];refine Aa (m:=Sf _) (Aa (Kt ht.typeIs (Ah ?_)));rw[if_pos (by decide)];exact Aa (Ir (Ah ⟨_,rfl,Ah h⟩))
def rSlW(K:Ai):V->Option Int->Option Int->Hp->VK->Prop:=λx lo hi H Q=>∃a xs,x=.ref a/\WF K H a xs/\(HT.sIx xs.length 0 lo=0/\HT.sIx xs.length xs.length hi=xs.length)/\Q (.ref a) H
theorem mZ:SlR X (rSlW X.K):=by
 intro aa s σ H x v vl vu lo hi sl Q I rx hs pl pu h;obtain⟨a,xs,rfl,hx,hw,q⟩:=h;cases rx;obtain⟨its,r,ht,hz⟩:=I.tuple hx;have ag:its.toArray.size=xs.length:=by rw[Am];exact r.length.symm
 refine⟨"tuple",_,PyProof.Rows.slot_tuple_getitem.lookup,ht.typeIs,?_⟩;exact DC ht hs pl pu (by rw[ag];exact hw.1) (by rw[ag];exact hw.2) ⟨.ref a,H,I,rfl,q⟩
def rSl(K:Ai):V->Option Int->Option Int->Hp->VK->Prop:=λx lo hi H Q=>(rSlT K x lo hi H Q∨rSlL K x lo hi H Q)∨rSlW K x lo hi H Q
theorem kSl(h:X.K=K):SlR X (rSl K):=by subst h;exact(zGL.or gR).or mZ
theorem iB{fl fh:VP}(h:J2 fa fl fh δ=some (d,δ')):∃x δ1 l δ2 u,fa δ=some (x,δ1)/\fl δ1=some (l,δ2)/\fh δ2=some (u,δ')/\oSl x l u=some d:=by
 unfold J2 at h;cases h1:fa δ with
 |none=>rw[h1] at h;cases h
 |some p=>
  rw[h1] at h;cases h2:fl p.2 with
  |none=>simp[h2] at h
  |some q=>
   simp only[Af,h2] at h;cases h3:fh q.2 with
   |none=>simp[h3] at h
   |some s=>
    simp only[Af,h3] at h;cases h4:oSl p.1 q.1 s.1 with
    |none=>rw[h4] at h;cases h
    |some c=>
     rw[h4] at h;cases h;exact⟨p.1,p.2,q.1,q.2,s.1,rfl,h2,h3,h4⟩
theorem U7{lo hi:Option Ut}{p2:Pos}{fl fh:VP}(hK:X.K=K)(ha:PE X a (TV K ml pa ta ia fa))(hl:PO X lo (TPO K ml pb fl))(hh:PO X hi (TPO K ml pc fh))(hs:(pb&&pc || (ta&&ia))=true:=by rfl):
  PE X (.Subscript a (.Slice lo hi none p2) pos) (TV K ml (pa&&pb&&pc) true ia (J2 fa fl fh)):=(iE (kSl hK) ha hl hh).imp λσ H Q ⟨B,O,δ,d,δ3,S,q,k⟩=>by
 obtain⟨x,δ1,l,δ2,u,h1,h2,h3,h4⟩:=iB q;refine⟨B,O,δ,x,δ1,S,h1,λv1 H1 R1=>⟨B,O,δ1,l,δ2,R1.sta,h2,λH2 R2=>⟨B,O,δ2,u,δ3,R2.sta,h3,λH3 R3=>?_⟩⟩⟩;have hx:bB K (av B O ia) H3 (at_ B O ta) v1 x:=by
  rcases(Ih _ _).mp hs with z|z
  ·obtain⟨z1,z2⟩:=(Ae _ _).mp z
   exact(R1.rep.same (R2.pur z1)).same (R3.pur z2)
  ·obtain⟨z1,z2⟩:=(Ae _ _).mp z
   subst z1 z2;exact(R1.rep.fr R2.frm (λa z=>.inr z) λa z=>.inr z).fr R3.frm (λa z=>.inr z) λa z=>.inr z
 have i3:(pa&&pb&&pc)=true->aL H H3:=λz=>by simp only[Ae] at z;exact((R1.pur z.1.1).trans (R2.pur z.1.2)).trans (R3.pur z.2)
 have hfr:=(R1.frm.trans R2.frm).trans R3.frm;cases x with
 |lst ds=>
  cases h4;obtain⟨a,xs,rfl,sq,r⟩:=hx.seq rfl;rcases sq with sq|sq
  ·exact .inl (.inr ⟨a,xs,rfl,sq,λp hp=>k _ _ ⟨R3.sta.same (cJ hp),hfr.trans (cJ hp).fr,λz=>(i3 z).trans (cJ hp),.lst b5 (R3.sta.new hp) ((PF r l u).same (cJ hp))⟩⟩)
  ·cases hx with
   |lst q n r'=>exact .inl (.inr ⟨a,_,rfl,X6.of q,λp hp=>k _ _ ⟨R3.sta.same (cJ hp),hfr.trans (cJ hp).fr,λz=>(i3 z).trans (cJ hp),.lst b5 (R3.sta.new hp) ((PF r' l u).same (cJ hp))⟩⟩)
   |fzl q r'=>exact .inl (.inr ⟨a,_,rfl,q.sq,λp hp=>k _ _ ⟨R3.sta.same (cJ hp),hfr.trans (cJ hp).fr,λz=>(i3 z).trans (cJ hp),.lst b5 (R3.sta.new hp) ((PF r' l u).same (cJ hp))⟩⟩)
 |tup ds=>
  cases h4;cases hx with
  |tup q r'=>
   by_cases hw:HT.sIx ds.length 0 l=0/\HT.sIx ds.length ds.length u=ds.length
   ·refine .inr ⟨_,_,rfl,q,by rw [r'.length];exact hw,k _ _ ⟨R3.sta,hfr,i3,?_⟩⟩
    have e:VY ds l u=ds:=by unfold VY;rw[hw.1,hw.2];simp
    rw[e];exact .tup q r'
   ·exact .inl (.inl ⟨_,_,rfl,q,by rw[r'.length];exact hw,λp hp=>k _ _ ⟨R3.sta.same (cJ hp),hfr.trans (cJ hp).fr,λz=>(i3 z).trans (cJ hp),.tup (WF.of b5) ((PF r' l u).same (cJ hp))⟩⟩)
 |_=>cases h4
end
inductive Ou where
 |nx (δ:Ev)|rt (d:cO) (δ:Ev)|bk (δ:Ev)|ct (δ:Ev)
abbrev VS:=Ev->Option Ou
def Post(K:Ai)(ml:List Nat)(B:Bs)(D:M3):Ou->Prop
 |.nx δ'=>∀σ' H' O',aN K ml B O' H' σ' δ'->D.nx σ' H'
 |.rt d δ'=>∀v σ' H' O',aN K ml B O' H' σ' δ'->bB K (rz B) H' (rz B) v d->D.rt v H'
 |.bk δ'=>∀σ' H' O',aN K ml B O' H' σ' δ'->D.bk σ' H'
 |.ct δ'=>∀σ' H' O',aN K ml B O' H' σ' δ'->D.ct σ' H'
def V6(K:Ai)(ml:List Nat)(g:VS):TS:=λD σ H=>∃B O δ o,aN K ml B O H σ δ/\g δ=some o/\Post K ml B D o
section
variable{X:Cx}{K:Ai}{ml:List Nat}{e a b c:Ut}{es:List Ut}{pa ta ia pb tb ib pc tc ic pu bt bi ps bs:Bool}{fa fb fc f:VF}{B B':Bs}{O:Nat->Option Um}{H H1 H':Hp}{σ:St}{δ δ':Ev}{v:V}{d:cO}{p:Um}{pos:Pos}{st:Ux}{rest:List Ux}{g g':VS}
def ZQ:VS:=λδ=>some (.nx δ)
noncomputable def bZ(g g':VS):VS:=λδ=>(g δ).bind λo=>match o with
 |.nx δ'=>g' δ'
 |o=>some o
theorem bU:WZ X [] (V6 K ml ZQ):=EO.imp λD σ H q0=>by obtain⟨B,O,δ,o,S,q,k⟩:=q0;cases q;exact k σ H O S
theorem cK(h1:PS X st (V6 K ml g))(h2:WZ X rest (V6 K ml g')):WZ X (st::rest) (V6 K ml (bZ g g')):=(RU h1 h2).imp λD σ H q0=>by
 obtain⟨B,O,δ,o,S,q,k⟩:=q0;unfold bZ at q;cases h1:g δ with
 |none=>rw[h1] at q;cases q
 |some z=>
  rw[h1] at q;refine⟨B,O,δ,z,S,h1,?_⟩;cases z with
  |nx δ1=>exact λσ' H' O' S'=>⟨B,O',δ1,o,S',q,k⟩
  |rt d δ1=>cases q;exact k
  |bk δ1=>cases q;exact k
  |ct δ1=>cases q;exact k
theorem cH(h1:PS X st (V6 K ml g)):WZ X [st] (V6 K ml g):=(RU h1 EO).imp λD σ H ⟨B,O,δ,o,S,q,k⟩=>⟨B,O,δ,o,S,q,by cases o<;>exact k⟩
noncomputable def bC(f:VF):VS:=λδ=>(f δ).map λp=>.rt p.1 p.2
theorem b8(h:PE X e (TV K ml pu bt bi f))(ht:bt=true:=by rfl):PS X (.Return (some e) pos) (V6 K ml (bC f)):=(GG h).imp λD σ H q0=>by
 obtain⟨B,O,δ,o,S,q,k⟩:=q0;unfold bC at q;cases h1:f δ with
 |none=>rw[h1] at q;cases q
 |some p=>
  rw[h1] at q;cases q;subst ht;exact⟨B,O,δ,p.1,p.2,S,h1,λv H' R=>k v σ H' O R.sta (R.rep.mono R.sta.rza R.sta.rzn)⟩
theorem gK{i:Nat}(h:PE X e (KZ i))(hm:i∉ml:=by decide):PS X (.Return (some e) pos) (V6 K ml (bC (fO i))):=(GG h).imp λD σ H q0=>by
 obtain⟨B,O,δ,o,S,q,k⟩:=q0;unfold bC at q;cases h1:fO i δ with
 |none=>rw[h1] at q;cases q
 |some p=>
  obtain⟨x,δ1⟩:=p;rw[h1] at q;cases q;obtain⟨rfl,v,e1,r⟩:=S.lone hm h1;exact⟨v,e1,k v σ H O S (r.mono S.rza S.rza)⟩
noncomputable def WM(t:VB)(g g':VS):VS:=λδ=>(t δ).bind λp=>if p.1=true then g p.2 else g' p.2
theorem aR{x y:List Ux}{t:VB}(ht:PT X c (TB K ml pc t))(ha:WZ X x (V6 K ml g))(hb:WZ X y (V6 K ml g')):PS X (.If c x y pos) (V6 K ml (WM t g g')):=(We ht ha hb).imp λD σ H q0=>by
 obtain⟨B,O,δ,o,S,q,k⟩:=q0;unfold WM at q;cases h1:t δ with
 |none=>rw[h1] at q;cases q
 |some p=>
  obtain⟨kk,δ1⟩:=p;rw[h1] at q;refine⟨B,O,δ,kk,δ1,S,h1,λH1 R1=>?_⟩;cases kk with
  |true=>exact NA ⟨B,O,δ1,o,R1.sta,q,k⟩
  |false=>exact M9 ⟨B,O,δ1,o,R1.sta,q,k⟩
abbrev VX:=Ev->Option (Sl×Ev)
inductive St1(K:Ai)(B:Bs)(O:Nat->Option Um)(H:Hp):Bs->V->Sl->Prop
 |va {v:V} {d:cO}:St1 K B O H {B with kp:=[(v,d)]++B.kp} v (.va d)
 |ol {p:Um} {xs:List V} {ds:List cO}:H p=some (.lst xs)->xs.length=ds.length->¬Nn B O p->B.H0 p=none->St1 K B O H {B.add p with kp:=xs.zip ds++B.kp} (.ref p) (.ow (.lst ds))
 |od {p:Um} {kvs:List (aG×V)} {ds:List cO}:H p=some (.dK kvs)->kvs.length=ds.length->¬Nn B O p->B.H0 p=none->St1 K B O H {B.add p with kp:=(kvs.map Er).zip ds++B.kp} (.ref p) (.ow (.dct (kvs.map Dj) ds))
theorem St1.fr{s:Sl}(h:St1 K B O H B' v s)(f:Fr (OA O) H H'):St1 K B O H' B' v s:=by
 cases h with
 |va=>exact .va
 |ol q l n z=>exact .ol (f _ _ q λw=>absurd (.inr w) n) l n z
 |od q l n z=>exact .od (f _ _ q λw=>absurd (.inr w) n) l n z
def TX(K:Ai)(ml:List Nat)(f:VX):TE:=λσ H Q=>∃B O δ s δ',aN K ml B O H σ δ/\f δ=some (s,δ')/\∀v H' B',aN K ml B' O H' σ δ'->St1 K B O H' B' v s->Fr (OA O) H H'->Q v H'
noncomputable def xV(f:VF):VX:=λδ=>(f δ).map λp=>(.va p.1,p.2)
noncomputable def xO(f:VF):VX:=λδ=>(f δ).map λp=>(.ow p.1,p.2)
theorem ZX(h:PE X e (TV K ml pu true true f)):PE X e (TX K ml (xV f)):=h.imp λσ H Q q0=>by
 obtain⟨B,O,δ,o,δ',S,q,k⟩:=q0;unfold xV at q;cases h1:f δ with
 |none=>rw[h1] at q;cases q
 |some p=>
  rw[h1] at q;cases q;exact⟨B,O,δ,p.1,p.2,S,h1,λv H' R=>k v H' _ (R.sta.keepV (ps:=[(v,p.1)]) λz hz=>by rw[Az.mp hz];exact R.rep) .va R.frm⟩
theorem UB{N:Um->Prop}:∀{xs:List V} {ds:List cO},bY K N H xs ds->∀z∈xs.zip ds,bB K N H N z.1 z.2
 |_,_,.nil,z,hz=>nomatch hz
 |_,_,.cons h t,z,hz=>by
  rcases Ak.mp hz with e|e
  ·rw[e];exact h
  ·exact UB t z e
theorem T8{N:Um->Prop}:∀{xs:List V} {ds:List cO},xs.length=ds.length->(∀z∈xs.zip ds,bB K N H N z.1 z.2)->bY K N H xs ds
 |[],[],_,_=>.nil
 |x::xs,d::ds,hl,h=>.cons (h (x,d) (Ar ..)) (T8 (by simpa using hl) λz hz=>h z (An _ hz))
theorem VA(h:PE X e (TN K ml pu f)):PE X e (TX K ml (xO f)):=h.imp λσ H Q q0=>by
 obtain⟨B,O,δ,o,δ',S,q,k⟩:=q0;unfold xO at q;cases h1:f δ with
 |none=>rw[h1] at q;cases q
 |some p=>
  obtain⟨d,δ1⟩:=p;rw[h1] at q;cases q;refine⟨B,O,δ,d,δ1,S,h1,λp H' R=>?_⟩;have w:=R.own;cases w with
  |lst q r=>exact k _ H' _ (R.sta.keepV (UB r)) (.ol q r.length R.nz R.h0) R.frm
  |dct q r=>exact k _ H' _ (R.sta.keepV (UB r)) (.od q (by simpa using r.length) R.nz R.h0) R.frm
theorem St1.bind{O':Nat->Option Um}{s:Sl}{i:Nat}(h:St1 K B O H' B' v s)(S:aN K ml B' O' H' σ δ)(hm:i∉ml)(hl:i<δ.length):∃O'',aN K ml B O'' H' (σ.set i (some v)) (δ.set i s):=by
 cases h with
 |va=>
  refine⟨_,aN.unkeep (ps:=_) (S.setVa hm (S.kep _ (Bw _ (Az.mpr rfl))))⟩
 |ol q l n z=>
  refine⟨_,aN.setOw (aN.unkeep (B:=B.add _) S) hm hl (λw=>n (.inl w)) z (.lst q (T8 l λz hz=>S.kep z (Bw _ hz)))⟩
 |od q l n z=>
  refine⟨_,aN.setOw (aN.unkeep (B:=B.add _) S) hm hl (λw=>n (.inl w)) z (.dct q (T8 (by simpa using l) λz hz=>S.kep z (Bw _ hz)))⟩
noncomputable def aD(i:Nat)(x:VX):VS:=λδ=>(x δ).bind λp=>if i<p.2.length then some (.nx (p.2.set i p.1)) else none
theorem bA{i:Nat}{y:Us}{x:VX}{ci:Pos}(hN:X.N.Nodup)(he:PE X e (TX K ml x))(hi:X.N[i]?=some y:=by rfl)(hx:BO X.env.scope y:=by first|exact .inl rfl|exact .inr rfl)(hm:i∉ml:=by decide)(hs:Vb e (some (.Name y ci)) pos.line X.env=pure false:=by rfl)
  (hf:X.fn y=true∨X.env.scope.names.lookup y=some .local:=by first|exact .inl rfl|exact .inr rfl|assumption):PS X (.Assign [.Name y ci] e pos) (V6 K ml (aD i x)):=(nX hN hi hx he hs hf).imp λD σ H ⟨B,O,δ,o,S,q,k⟩=>by
 unfold aD at q;cases h1:x δ with
 |none=>rw[h1] at q;cases q
 |some p=>
  obtain⟨s,δ1⟩:=p;rw[h1] at q;have q:(if i<δ1.length then some (Ou.nx (δ1.set i s)) else none)=some o:=q;split at q
  ·rename_i hl
   cases q;refine⟨B,O,δ,s,δ1,S,h1,λv H' B' S' h' f'=>?_⟩;obtain⟨O'',S''⟩:=h'.bind S' hm hl;exact k _ _ _ S''
  ·cases q
noncomputable def E4(i j:Nat)(x y:VX):VS:=λδ=>(x δ).bind λp=>(y p.2).bind λq=>if i<q.2.length/\j<q.2.length then some (.nx ((q.2.set j q.1).set i p.1)) else none
theorem oF{i j:Nat}{y z:Us}{fx fy:VX}{px py pt:Pos}{kt k2 pt2}(hc:X.calm=true)(hN:X.N.Nodup)(hi:X.N[i]?=some y)(hj:X.N[j]?=some z)(hij:i≠j)(hx:X.env.scope.names.lookup y=some .local)(hy:X.env.scope.names.lookup z=some .local)(ha:PE X a (TX K ml fx))(hb:PE X b (TX K ml fy))(hw:Gg [.Tuple [.Name y px,.Name z py] kt pt] (.Tuple [a,b] k2 pt2) X.env=pure (some [y,z]))(hmi:i∉ml:=by decide)(hmj:j∉ml:=by decide)(hs:Gf [.Tuple [.Name y px,.Name z py] kt pt] (.Tuple [a,b] k2 pt2) pos.line X.env=pure false:=by rfl)(he:Uo (a::[b]) X.env=(false,eval a X.env)::Uo [b] X.env:=by rfl)(he2:Uo (b::[]) X.env=(false,eval b X.env)::Uo [] X.env:=by rfl):
  PS X (.Assign [.Tuple [.Name y px,.Name z py] kt pt] (.Tuple [a,b] k2 pt2) pos) (V6 K ml (E4 i j fx fy)):=(dZ hc hN hi hj hij hx hy (bD ha (bD hb ZO he2) he) hw hs).imp λD σ H ⟨B,O,δ,o,S,q,k⟩=>by
 unfold E4 at q;cases h1:fx δ with
 |none=>rw[h1] at q;cases q
 |some p=>
  obtain⟨s,δ1⟩:=p;rw[h1] at q;cases h2:fy δ1 with
  |none=>simp[h2] at q
  |some p2=>
   obtain⟨s2,δ2⟩:=p2;simp only[Af,h2] at q;split at q
   ·rename_i hl
    cases q;refine⟨B,O,δ,s,δ1,S,h1,λv H1 B1 S1 w1 f1=>⟨B1,O,δ1,s2,δ2,S1,h2,λv2 H2 B2 S2 w2 f2=>⟨v,v2,rfl,?_⟩⟩⟩;obtain⟨O3,S3⟩:=w2.bind S2 hmj hl.2;obtain⟨O4,S4⟩:=(w1.fr f2).bind S3 hmi (by rw[Bz];exact hl.1);rw[Eo _ _ (Dm hij)] at S4;exact k _ _ _ S4
   ·cases q
abbrev VG:=cO->Ev->Option Ev
def TGV(K:Ai)(ml:List Nat)(h:VG):TG:=λv σ H Q=>∃B O δ d δ',aN K ml B O H σ δ/\bB K (Nn B O) H (Nn B O) v d/\h d δ=some δ'/\∀σ' O',aN K ml B O' H σ' δ'->(∀i∈ml,σ'[i]?=σ[i]?)->Q σ' H
theorem PG.imp{t u:TG}(h:PG X e t)(k:∀v σ H Q,u v σ H Q->t v σ H Q):PG X e u:=λaa s σ H v w Q I r z=>h aa s σ H v w Q I r (k v σ H Q z)
theorem DR.imp{t u:BR}(h:DR X es t)(k:∀v σ H Q,u v σ H Q->t v σ H Q):DR X es u:=λaa s σ H v w Q I r z=>h aa s σ H v w Q I r (k v σ H Q z)
theorem PG.or{t u:TG}(h:PG X e t)(h':PG X e u):PG X e (λv σ H Q=>t v σ H Q∨u v σ H Q):=λaa s σ H v w Q I r z=>by
 rcases z with z|z
 ·exact h aa s σ H v w Q I r z
 ·exact h' aa s σ H v w Q I r z
def gN(i:Nat):VG:=λd δ=>some (δ.set i (.va d))
theorem bG{i:Nat}{x:Us}(hN:X.N.Nodup)(hi:X.N[i]?=some x:=by rfl)(hx:BO X.env.scope x:=by first|exact .inl rfl|exact .inr rfl)(hm:i∉ml:=by decide)(hf:X.fn x=true∨X.env.scope.names.lookup x=some .local:=by first|exact .inl rfl|exact .inr rfl|assumption):PG X (.Name x pos) (TGV K ml (gN i)):=
 (PQ hN hi hx hf).imp λv σ H Q q0=>by obtain⟨B,O,δ,d,δ',S,r,q,k⟩:=q0;cases q;exact k _ _ (S.setVa hm r) λj hj=>Bo λ(z:i=j)=>hm (z▸hj)
abbrev BE:=List cO->Ev->Option Ev
def TGVs(K:Ai)(ml:List Nat)(h:BE):BR:=λvs σ H Q=>∃B O δ ds δ',aN K ml B O H σ δ/\bY K (Nn B O) H vs ds/\h ds δ=some δ'/\∀σ' O',aN K ml B O' H σ' δ'->(∀i∈ml,σ'[i]?=σ[i]?)->Q σ' H
def V1:BE:=λds δ=>match ds with
 |[]=>some δ
 |_=>none
noncomputable def Z8(g:VG)(gs:BE):BE:=λds δ=>match ds with
 |d::r=>(g d δ).bind λδ1=>gs r δ1
 |[]=>none
theorem WN:DR X [] (TGVs K ml V1):=EK.imp λvs σ H Q q0=>by
 obtain⟨B,O,δ,ds,δ',S,r,q,k⟩:=q0;cases r with
 |nil=>cases q;exact⟨rfl,k _ _ S λ_ _=>rfl⟩
 |cons _ _=>cases q
theorem aI{g:VG}{gs:BE}(h1:PG X e (TGV K ml g))(h2:DR X es (TGVs K ml gs))(hs:(Uv (e::es) X.env).map (·.2)=Hv e X.env::(Uv es X.env).map (·.2):=by rfl):DR X (e::es) (TGVs K ml (Z8 g gs)):=
 (RS h1 h2 hs).imp λvs σ H Q q0 => by
  obtain⟨B,O,δ,ds,δ',S,r,q,k⟩:=q0;cases r with
  |nil=>cases q
  | @cons v vs d ds h t=>
   have q:((g d δ).bind λδ1=>gs ds δ1)=some δ':=q;cases h1:g d δ with
   |none=>rw[h1] at q;cases q
   |some δ1=>
    rw[h1] at q;have S0:=S.keepV (UB t);exact⟨v,vs,rfl,_,O,δ,d,δ1,S0,h,h1,λσ1 O1 S1 m1=>⟨B,O1,δ1,ds,δ',S1.unkeep,T8 t.length λz hz=>S1.kep z (Bw _ hz),q,λσ2 O2 S2 m2=>k σ2 O2 S2 λi hi=>(m2 i hi).trans (m1 i hi)⟩⟩
noncomputable def FV(n:Nat)(gs:BE):VG:=λd δ=>(YH d).bind λds=>if ds.length=n then gs ds δ else none
theorem UU{gs:BE}{k n:Nat}(hK:X.K=K)(hc:X.calm=true)(h:DR X es (TGVs K ml gs))(hn:(Uv es X.env).length=n:=by rfl)(hst:(Uv es X.env).findIdx? (·.1)=none:=by rfl):PG X (.Tuple es k pos) (TGV K ml (FV n gs)):=
 ((Yt (K := K) hK hc h hn hst).or (mV (K := K) hK hc h hn hst)).imp λv σ H Q q0 => by
  obtain⟨B,O,δ,d,δ',S,r,q,k⟩:=q0;unfold FV at q;cases h1:YH d with
  |none=>rw[h1] at q;cases q
  |some ds=>
   rw[h1] at q;have q:(if ds.length=n then gs ds δ else none)=some δ':=q;split at q
   ·rename_i hl
    obtain⟨a,xs,rfl,sq,ra⟩:=r.seq h1;have fin:TGVs K ml gs xs σ H Q:=⟨B,O,δ,ds,δ',S,ra,q,k⟩;rcases sq with sq|sq
    ·exact .inr ⟨a,xs,rfl,sq,ra.length.trans hl,fin⟩
    ·exact .inl ⟨a,xs,rfl,sq,ra.length.trans hl,fin⟩
   ·cases q
noncomputable def sAsg(f:VF)(g:VG):VS:=λδ=>(f δ).bind λp=>(g p.1 p.2).map Ou.nx
theorem AX{tg:Ut}{gg:VG}(he:PE X e (TV K ml pu true true f))(hg:PG X tg (TGV K ml gg))(hs:Gf [tg] e pos.line X.env=pure false:=by rfl)(hw:Gg [tg] e X.env=pure none:=by rfl)
  (h1:(Uv [tg] X.env).map (·.2)=[Hv tg X.env]:=by rfl):PS X (.Assign [tg] e pos) (V6 K ml (sAsg f gg)):=(GF he hg hs hw h1).imp λD σ H ⟨B,O,δ,o,S,q,k⟩=>by
 unfold sAsg at q;cases h1:f δ with
 |none=>rw[h1] at q;cases q
 |some p=>
  obtain⟨d,δ1⟩:=p;rw[h1] at q;have q:(gg d δ1).map Ou.nx=some o:=q;cases h2:gg d δ1 with
  |none=>rw[h2] at q;cases q
  |some δ2=>
   rw[h2] at q;cases q;exact⟨B,O,δ,d,δ1,S,h1,λv H' R=>⟨B,O,δ1,d,δ2,R.sta,R.rep,h2,λσ' O' S' _=>k σ' H' O' S'⟩⟩
def MuV(K:Ai)(r:V->List V->Hp->VK->Prop)(m:List cO->List cO->Option (List cO)):Prop:=∀(H:Hp) (N:Um->Prop) (l:Um) (xs vs:List V) (ds es ds':List cO) (Q:VK),
 H l=some (.lst xs)->N l->bY K N H xs ds->bY K N H vs es->m ds es=some ds'->(∀v xs',bY K N H xs' ds'->Q v (upd H l (.lst xs')))->r (.ref l) vs H Q
noncomputable def RQ(δ:Ev)(i:Nat):Option (List cO):=match δ[i]? with
 |some (.ow (.lst ds))=>some ds
 |_=>none
noncomputable def WC(i:Nat)(m:List cO->List cO->Option (List cO))(fs:O9):VS:=λδ=>(RQ δ i).bind λ_=>(fs δ).bind λp=>(RQ p.2 i).bind λds=>(m ds p.1).map λds'=>.nx (p.2.set i (.ow (.lst ds')))
theorem MC{i:Nat}{ds:List cO}(h:RQ δ i=some ds):δ[i]?=some (.ow (.lst ds)):=by
 unfold RQ at h;split at h
 ·cases h;assumption
 ·cases h
theorem IM{N:Um->Prop}{l:Um}{o:HO}{xs:List V}{ds ys:List cO}{zs:List V}(ho:H l=some (.lst zs))(hN:N l)(h:bY K N H xs ds):bY K N (upd H l o) xs ds:=
 h.fr (P:=λb=>b=l) (λb u q n=>by
  by_cases hb:b=l
  ·subst hb
   rw[ho] at q;cases q;exact absurd (n rfl) λz=>z
  ·rw[bM hb]
   exact q) λa z=>z▸hN
theorem Y6{i:Nat}{x:Us}{name:Us}{ao af gm:Pos}{id:String}{r:V->List V->Hp->VK->Prop}{m:List cO->List cO->Option (List cO)}{fs:O9}(hK:X.K=K)(slot:Slot "list" name id)(hty:Nl (.builtin id)=pure (.type "method_descriptor"))(hm:MtR X id r)(hmu:MuV K r m)(ho:PE X (.Name x gm) (KZ i))(ha:PA X (e::es) (TAV K ml pu true fs))(c8:Fo (.Name x gm) name X.env (eval (.Name x gm) X.env)=eval (.Name x gm) X.env:=by rfl)(di : ((Dq af (Uo (e :: es) X.env)).all (λx => !x.1) && (Ic af (Fc [] X.env)).all (λx => x.1.isSome) && decide ((e::es).length+([]:List Iy).length+(if([]:List Iy).isEmpty then 0 else 1)<30))=true:=by rfl)(bz:(ao.endLine==af.line)=true:=by rfl)(hs:Uo (e::es) X.env=(false,eval e X.env)::Uo es X.env:=by rfl)(ax:(Dq af (Uo es X.env)).any (·.1)=false:=by rfl)(hsw:Vb (.Call (.Attribute (.Name x gm) name ao) (e::es) [] af) none pos.line X.env=pure false:=by rfl):PS X (.Expr (.Call (.Attribute (.Name x gm) name ao) (e::es) [] af) pos) (V6 K ml (WC i m fs)):=
 (lB (kBm (K := K) hK Ii slot hty hm ho ha c8 di bz hs ax) hsw).imp λD σ H q0 => by
  obtain⟨B,O,δ,o,S,q,k⟩:=q0;unfold WC at q;cases h0:RQ δ i with
  |none=>rw[h0] at q;cases q
  |some ds0=>
   rw[h0] at q;have q:((fs δ).bind λp=>(RQ p.2 i).bind λds=>(m ds p.1).map λds'=>Ou.nx (p.2.set i (.ow (.lst ds'))))=some o:=q;cases h1:fs δ with
   |none=>rw[h1] at q;cases q
   |some p=>
    obtain⟨es',δ1⟩:=p;rw[h1] at q;have q:((RQ δ1 i).bind λds=>(m ds es').map λds'=>Ou.nx (δ1.set i (.ow (.lst ds'))))=some o:=q;cases h2:RQ δ1 i with
    |none=>rw[h2] at q;cases q
    |some ds=>
     rw[h2] at q;have q:((m ds es').map λds'=>Ou.nx (δ1.set i (.ow (.lst ds'))))=some o:=q;cases h3:m ds es' with
     |none=>rw[h3] at q;cases q
     |some ds'=>
      rw[h3] at q;cases q;obtain⟨l,e1,e2,w⟩:=S.ow i _ (MC h0);cases w with
      |lst hl0 _=>
       refine⟨.ref l,e2,.inl ⟨rfl,_,X6.of hl0⟩,B,O,δ,es',δ1,S,h1,λvs H1 R=>?_⟩;obtain⟨l',e3,_,w1⟩:=R.sta.ow i _ (MC h2);rw[e1] at e3;cases e3;cases w1 with
       |lst hl1 r1=>
        refine hmu H1 (Nn B O) l _ vs ds es' ds' _ hl1 (.inr ⟨i,e1⟩) r1 R.rep h3 λv xs' r2=>?_;exact k σ _ O (R.sta.wrote e1 (λz=>z) (.lst b5 (IM (ys:=[]) hl1 (.inr ⟨i,e1⟩) r2)))
noncomputable def UJ:List cO->List cO->Option (List cO)
 |ds,[d]=>if ds.length<16777216 then some (ds++[d]) else none
 |_,_=>none
theorem X3:MuV K ET UJ:=by
 intro H N l xs vs ds es ds' Q hl hN rx re h k;cases re with
 |nil=>cases h
 | @cons v vs d es hd t=>
  cases t with
  |cons _ _=>cases h
  |nil=>
   simp only[UJ] at h;split at h
   ·rename_i hz
    cases h;exact⟨l,xs,v,rfl,rfl,hl,by rw[rx.length,Bu];exact hz,k _ _ (rx.snoc hd)⟩
   ·cases h
end
section
variable{X:Cx}{K:Ai}{ml:List Nat}{e a b c:Ut}{es:List Ut}{pa ta ia pb tb ib pc tc ic pu bt bi ps bs:Bool}{fa fb fc f:VF}{B B':Bs}{O:Nat->Option Um}{H H1 H':Hp}{σ:St}{δ δ':Ev}{v:V}{d:cO}{p:Um}{pos:Pos}{st:Ux}{rest:List Ux}{g g':VS}
noncomputable def YB(nxt:VS):Ou->Option Ou
 |.nx δ=>nxt δ
 |.ct δ=>nxt δ
 |.bk δ=>some (.nx δ)
 |.rt d δ=>some (.rt d δ)
noncomputable def aM(t:VB)(g:VS):Nat->VS
 |0=>λ_=>none
 |n+1=>λδ=>(t δ).bind λp=>if p.1=true then(g p.2).bind (YB (aM t g n)) else some (.nx p.2)
theorem UX{t:VB}:∀{n:Nat} {δ:Ev} {o:Ou},aM t g n δ=some o->aM t g (n+1) δ=some o
 |0,_,_,h=>by cases h
 | n + 1,δ,o,h => by
  dsimp only[aM] at h;show((t δ).bind λp=>if p.1=true then(g p.2).bind (YB (aM t g (n+1))) else some (.nx p.2))=some o;cases h1:t δ with
  |none=>rw[h1] at h;cases h
  |some p=>
   rw[h1] at h;obtain⟨kk,δ1⟩:=p;cases kk with
   |false=>exact h
   |true=>
    have h:(g δ1).bind (YB (aM t g n))=some o:=h;show(g δ1).bind (YB (aM t g (n+1)))=some o;cases h2:g δ1 with
    |none=>rw[h2] at h;cases h
    |some z=>
     rw[h2] at h;cases z with
     |nx δ2=>exact UX (n:=n) h
     |ct δ2=>exact UX (n:=n) h
     |bk δ2=>exact h
     |rt d δ2=>exact h
theorem SW{t:VB}{n:Nat}{o:Ou}(h:aM t g n δ=some o):∀k,aM t g (n+k) δ=some o
 |0=>h
 |k+1=>UX (SW h k)
theorem G0{t:VB}{n m:Nat}{o o':Ou}(h:aM t g n δ=some o)(h':aM t g m δ=some o'):o=o':=by have e1:=SW h m;have e2:=SW h' n;rw[Qk] at e2;rw[e1] at e2;exact Bv e2
open Classical in
noncomputable def SS(t:VB)(g:VS):VS:=λδ=>if h:∃o n,aM t g n δ=some o then some (Classical.choose h) else none
theorem MM{t:VB}{n:Nat}{o:Ou}(h:aM t g n δ=some o):SS t g δ=some o:=by have hx:∃o n,aM t g n δ=some o:=⟨o,n,h⟩;unfold SS;rw[dif_pos hx];obtain⟨m,hm⟩:=Mu hx;rw[G0 hm h]
theorem GN{t:VB}{o:Ou}(h:SS t g δ=some o):∃n,aM t g n δ=some o:=by
 unfold SS at h;split at h
 ·rename_i hx
  cases h;exact Mu hx
 ·cases h
theorem JJ{body:List Ux}{t:VB}(hp:Ro (Ur X.prog X.w) X.A X.env X.xe)(hc:PT X c (TB K ml pc t))(hb:WZ X body (V6 K ml g)):PS X (.While c body [] pos) (V6 K ml (SS t g)):=(eE hp hc hb).imp λD σ H q0=>by
 obtain⟨B,O,δ,o,S,q,k⟩:=q0;obtain⟨n,hn⟩:=GN q;refine⟨λm σ H=>∃O δ,aN K ml B O H σ δ/\aM t g m δ=some o,⟨n,O,δ,S,hn⟩,?_⟩;rintro m σ H ⟨O,δ,S,hm⟩;cases m with
 |zero=>cases hm
 |succ m=>
  dsimp only[aM] at hm;cases h1:t δ with
  |none=>rw[h1] at hm;cases hm
  |some p=>
   obtain⟨kk,δ1⟩:=p;rw[h1] at hm;refine⟨B,O,δ,kk,δ1,S,h1,λH1 R1=>?_⟩;cases kk with
   |false=>
    have hm:some (Ou.nx δ1)=some o:=hm;cases hm;exact M9 (k σ H1 O R1.sta)
   |true=>
    have hm:(g δ1).bind (YB (aM t g m))=some o:=hm;cases h2:g δ1 with
    |none=>rw[h2] at hm;cases hm
    |some z=>
     rw[h2] at hm;refine NA ⟨λσ' H'=>∃O δ,aN K ml B O H' σ' δ/\aM t g m δ=some o,λσ' H' w=>⟨m,Nat.lt_succ_self _,w⟩,B,O,δ1,z,R1.sta,h2,?_⟩;cases z with
     |nx δ2=>exact λσ' H' O' S'=>⟨O',δ2,S',hm⟩
     |ct δ2=>exact λσ' H' O' S'=>⟨O',δ2,S',hm⟩
     |bk δ2=>cases hm;exact λσ' H' O' S'=>k σ' H' O' S'
     |rt d δ2=>cases hm;exact λv σ' H' O' S' r=>k v σ' H' O' S' r
def Walk(K:Ai)(J:It)(kps:List (V×cO))(ds:List cO):Prop:=∀(N:Um->Prop) (H:Hp),(∀p∈kps,bB K N H N p.1 p.2)->
 (∀(i:Nat) (d:cO),ds[i]?=some d->J.go i H/\∀x H',J.yld i H x H'->aL H H'/\bB K N H' N x d)/\J.stop ds.length H
abbrev VI:=Ev->Option (List cO×Ev)
def TIV(K:Ai)(ml:List Nat)(pu:Bool)(f:VI):TI:=λσ H R=>∃B O δ ds δ',aN K ml B O H σ δ/\f δ=some (ds,δ')∧
 ∀J kps H',aN K ml {B with kp:=kps++B.kp} O H' σ δ'->Fr (OA O) H H'->(pu=true->aL H H')->Walk K J kps ds->R J H'
theorem PI.imp{tg:Ut}{t u:TI}(h:PI X tg e t)(k:∀σ H R,u σ H R->t σ H R):PI X tg e u:=λaa s σ H R I w=>h aa s σ H R I (k σ H R w)
theorem PI.or{tg:Ut}{t u:TI}(h:PI X tg e t)(h':PI X tg e u):PI X tg e (λσ H R=>t σ H R∨u σ H R):=λaa s σ H R I z=>by
 rcases z with z|z
 ·exact h aa s σ H R I z
 ·exact h' aa s σ H R I z
noncomputable def TK(f:VF):VI:=λδ=>(f δ).bind λp=>(YH p.1).map λds=>(ds,p.2)
theorem A6{a:Um}{ds:List cO}:Walk K (Itl K a) [(.ref a,.lst ds)] ds:=by
 intro N H h;have r:=h _ (Az.mpr rfl);have fin:∀xs,X6 K H a xs->bY K N H xs ds->(∀(i:Nat) (d:cO),ds[i]?=some d->(Itl K a).go i H/\∀x H',(Itl K a).yld i H x H'->aL H H'/\bB K N H' N x d)/\(Itl K a).stop ds.length H:=λxs sq r=>by refine⟨λi d e=>?_,xs,sq,by rw[r.length];exact Ap _⟩;obtain⟨x,e1,r1⟩:=r.get e;refine⟨⟨xs,x,sq,e1⟩,λy H' hy=>?_⟩;obtain⟨e2,e3⟩:=hy;subst e2;have:=e3 xs sq;rw[e1] at this;cases this;exact⟨aL.refl _,r1⟩
 cases r with
 |lst q n r=>exact fin _ (X6.of q) r
 |fzl q r=>exact fin _ q.sq r
theorem A8{a:Um}{ds:List cO}:Walk K (Itt K a) [(.ref a,.tup ds)] ds:=by
 intro N H h;have r:=h _ (Az.mpr rfl);cases r with
 |tup sq r=>
  refine⟨λi d e=>?_,_,sq,by rw[r.length];exact Ap _⟩;obtain⟨x,e1,r1⟩:=r.get e;refine⟨⟨_,x,sq,e1⟩,λy H' hy=>?_⟩;obtain⟨e2,e3⟩:=hy;subst e2;have:=e3 _ sq;rw[e1] at this;cases this;exact⟨aL.refl _,r1⟩
theorem SV{tg:Ut}(hK:X.K=K)(h:PE X e (TV K ml pu true true f)):PI X tg e (TIV K ml pu (TK f)):=((Wx (K:=K) hK h).or (Yw (K:=K) hK h)).imp λσ H R q0=>by
 obtain⟨B,O,δ,ds,δ',S,q,k⟩:=q0;unfold TK at q;cases h1:f δ with
 |none=>rw[h1] at q;cases q
 |some p=>
  obtain⟨x,δ1⟩:=p;rw[h1] at q;cases x with
  |lst ds'=>
   cases q;refine .inl ⟨B,O,δ,_,δ1,S,h1,λv H1 R1=>?_⟩;obtain⟨a,xs,rfl,sq,r⟩:=R1.rep.seq rfl;refine⟨a,rfl,?_,k _ [(.ref a,.lst ds)] H1 (R1.sta.keepV λp hp=>by rw[Az.mp hp];exact R1.rep) R1.frm R1.pur A6⟩;have r:=R1.rep;cases r with
   |lst q _ _=>exact⟨_,X6.of q⟩
   |fzl q _=>exact⟨_,q.sq⟩
  |tup ds'=>
   cases q;refine .inr ⟨B,O,δ,_,δ1,S,h1,λv H1 R1=>?_⟩;obtain⟨a,xs,rfl,sq,r⟩:=R1.rep.seq rfl;refine⟨a,rfl,?_,k _ [(.ref a,.tup ds)] H1 (R1.sta.keepV λp hp=>by rw[Az.mp hp];exact R1.rep) R1.frm R1.pur A8⟩;have r:=R1.rep;cases r with
   |tup q _=>exact⟨_,q⟩
  |_=>cases q
def Y8(lo:Int)(n:Nat):List cO:=(Bb n).map λk:Nat=>.int (lo+k)
noncomputable def BG(f:VF):VI:=λδ=>(f δ).bind λp=>match p.1 with
 |.int j=>if -4611686018427387904<=j/\j<4611686018427387904 then some (Y8 0 j.toNat,p.2) else none
 |_=>none
noncomputable def iR2(f g:VF):VI:=λδ=>(f δ).bind λp=>(g p.2).bind λq=>match p.1,q.1 with
 |.int i,.int j=>if(-4611686018427387904<=i/\i<4611686018427387904)/\ -4611686018427387904<=j/\j<4611686018427387904 then some (Y8 i (j - i).toNat,q.2) else none
 |_,_=>none
theorem oN{lo:Int}{n i:Nat}{d:cO}(h:(Y8 lo n)[i]?=some d):i<n/\d=.int (lo+i):=by
 unfold Y8 at h;rw[Dh] at h;cases h1:(Bb n)[i]? with
 |none=>rw[h1] at h;cases h
 |some k=>
  rw[h1] at h;cases h;have:=Ag.mp h1;obtain⟨hl,e⟩:=this;rw[Iz] at hl;rw[List.getElem_range] at e;subst e;exact⟨hl,rfl⟩
theorem JK{lo:Int}{n:Nat}:Walk K (Itr lo n) [] (Y8 lo n):=by intro N H _;refine⟨λi d e=>?_,by simp[Itr,Y8]⟩;obtain⟨hl,rfl⟩:=oN e;refine⟨hl,λx H' hy=>?_⟩;obtain⟨rfl,rfl⟩:=hy;exact⟨aL.refl _,.int _⟩
theorem W2{tg:Ut}{p':Pos}(hg:Gl X "range")(hm:X.mg "range"=none)(h:PE X a (TV K ml pa ta ia fa))(hs:Uo [a] X.env=[(false,eval a X.env)]:=by rfl)(hs1:Uo (a::[]) X.env=(false,eval a X.env)::Uo [] X.env:=by rfl):
  PI X tg (.Call (.Name "range" p') [a] [] pos) (TIV K ml pa (BG fa)):=(CY hg hm (bD h ZO hs1) hs).imp λσ H R ⟨B,O,δ,ds,δ',S,q,k⟩=>by
 unfold BG at q;cases h1:fa δ with
 |none=>rw[h1] at q;cases q
 |some p=>
  obtain⟨x,δ1⟩:=p;rw[h1] at q;cases x with
  |int j=>
   have q:(if -4611686018427387904<=j/\j<4611686018427387904 then some (Y8 0 j.toNat,δ1) else none)=some (ds,δ'):=q;split at q
   ·rename_i hj
    cases q;have p62:(2:Int) ^ 62=4611686018427387904:=by decide
    refine⟨B,O,δ,_,_,S,h1,λv H1 R1=>⟨j,?_,by rw[p62];exact hj.1,by rw[p62];exact hj.2,k _ [] H1 (R1.sta.keepV λ_ z=>nomatch z) R1.frm R1.pur JK⟩⟩;have r:=R1.rep;cases r;rfl
   ·cases q
  |_=>cases q
theorem DJ{tg:Ut}{p':Pos}(hg:Gl X "range")(hm:X.mg "range"=none)(h:PE X a (TV K ml pa ta ia fa))(h':PE X b (TV K ml pb tb ib fb))(hs:Uo [a,b] X.env=[(false,eval a X.env),(false,eval b X.env)]:=by rfl)(hs2:Uo [b] X.env=[(false,eval b X.env)]:=by rfl)(he:Uo (a::[b]) X.env=(false,eval a X.env)::Uo [b] X.env:=by rfl)(he2:Uo (b::[]) X.env=(false,eval b X.env)::Uo [] X.env:=by rfl):
  PI X tg (.Call (.Name "range" p') [a,b] [] pos) (TIV K ml (pa&&pb) (iR2 fa fb)):=(CZ hg hm (bD h (bD h' ZO he2) he) hs hs2).imp λσ H R ⟨B,O,δ,ds,δ',S,q,k⟩=>by
 unfold iR2 at q;cases h1:fa δ with
 |none=>rw[h1] at q;cases q
 |some p=>
  obtain⟨x,δ1⟩:=p;rw[h1] at q;cases h2:fb δ1 with
  |none=>simp[h2] at q
  |some p2=>
   obtain⟨y,δ2⟩:=p2;simp only[Af,h2] at q;cases x with
   |int i=>
    cases y with
    |int j=>
     have q:(if(-4611686018427387904<=i/\i<4611686018427387904)/\ -4611686018427387904<=j/\j<4611686018427387904 then some (Y8 i (j - i).toNat,δ2) else none)=some (ds,δ'):=q;split at q
     ·rename_i hj
      cases q;have p62:(2:Int) ^ 62=4611686018427387904:=by decide
      refine⟨B,O,δ,_,_,S,h1,λv H1 R1=>⟨B,O,δ1,_,_,R1.sta,h2,λv2 H2 R2=>⟨i,j,?_,by rw[p62];exact⟨hj.1.1,hj.1.2,hj.2.1,hj.2.2⟩,k _ [] H2 (R2.sta.keepV λ_ z=>nomatch z) (R1.frm.trans R2.frm) (λz=>by obtain⟨z1,z2⟩:=(Ae _ _).mp z;exact(R1.pur z1).trans (R2.pur z2)) JK⟩⟩⟩
      have r1:=R1.rep;have r2:=R2.rep;cases r1;cases r2;rfl
     ·cases q
    |_=>cases q
   |_=>cases q
noncomputable def W6(gg:VG)(s:VS):List cO->VS
 |[]=>λδ=>some (.nx δ)
 |d::r=>λδ=>(gg d δ).bind λδ1=>(s δ1).bind (YB (W6 gg s r))
noncomputable def QY(fi:VI)(gg:VG)(s:VS):VS:=λδ=>(fi δ).bind λp=>W6 gg s p.1 p.2
theorem UV{tg iter:Ut}{body:List Ux}{fi:VI}{gg:VG}(hp:Ro (Ur X.prog X.w) X.A X.env X.xe)(hc:X.calm=true)(hi:PI X tg iter (TIV K ml pu fi))(hg:PG X tg (TGV K ml gg))(hb:WZ X body (V6 K ml g))
  (hs:∀x,Uz iter X.env x=pure x:=by intro _;rfl):PS X (.For tg iter body [] pos) (V6 K ml (QY fi gg g)):=(Yy hp hc hi hg hb hs).imp λD σ H ⟨B,O,δ,o,S,q,k⟩=>by
 unfold QY at q;cases h1:fi δ with
 |none=>rw[h1] at q;cases q
 |some p=>
  obtain⟨ds,δ1⟩:=p;rw[h1] at q;have q:W6 gg g ds δ1=some o:=q;refine⟨B,O,δ,ds,δ1,S,h1,λJ kps H1 S1 _ _ wk=>?_⟩;refine⟨λi m σ H=>m=ds.length - i/\i<=ds.length/\∃O δ,aN K ml {B with kp:=kps++B.kp} O H σ δ/\W6 gg g (ds.drop i) δ=some o,⟨ds.length,rfl,Dv _,O,δ1,S1,q⟩,?_⟩;rintro i m σ H ⟨rfl,hi,O,δ,S,hf⟩;have w:=wk (Nn B O) H λp hp=>S.kep p (Bw _ hp);by_cases hlt:i<ds.length
  ·obtain ⟨go,yl⟩ := w.1 i ds[i] (by simp [hlt])
   rw[Ep hlt] at hf;refine .inr ⟨go,λσ' H'=>∃O δ,aN K ml {B with kp:=kps++B.kp} O H' σ' δ/\W6 gg g (ds.drop (i+1)) δ=some o,λσ' H' w'=>⟨ds.length - (i+1),by lia,rfl,hlt,w'⟩,λx H' hy=>?_⟩;obtain⟨sm,rx⟩:=yl x H' hy;have hf:((gg ds[i] δ).bind λδ1=>(g δ1).bind (YB (W6 gg g (ds.drop (i+1)))))=some o:=hf;cases h2:gg ds[i] δ with
   |none=>rw[h2] at hf;cases hf
   |some δ2=>
    rw[h2] at hf;have hf:(g δ2).bind (YB (W6 gg g (ds.drop (i+1))))=some o:=hf;refine⟨_,O,δ,ds[i],δ2,S.same sm,rx,h2,λσ2 O2 S2 _=>?_⟩;cases h3:g δ2 with
    |none=>rw[h3] at hf;cases hf
    |some z=>
     rw[h3] at hf;refine⟨_,O2,δ2,z,S2,h3,?_⟩;cases z with
     |nx δ3=>exact λσ' H' O' S'=>⟨O',δ3,S',hf⟩
     |ct δ3=>exact λσ' H' O' S'=>⟨O',δ3,S',hf⟩
     |bk δ3=>cases hf;exact λσ' H' O' S'=>k σ' H' O' S'.unkeep
     |rt d δ3=>cases hf;exact λv σ' H' O' S' r=>k v σ' H' O' S'.unkeep r
  ·have e : i = ds.length := by lia
   subst e;rw[Gi] at hf;cases hf;exact .inl ⟨w.2,k σ H O S.unkeep⟩
end
section
variable{X:Cx}{K:Ai}{ml:List Nat}{e a b c:Ut}{es:List Ut}{pa ta ia pb tb ib pc tc ic pu bt bi ps bs:Bool}{fa fb fc f:VF}{B B':Bs}{O:Nat->Option Um}{H H1 H':Hp}{σ:St}{δ δ':Ev}{v:V}{d:cO}{p:Um}{pos:Pos}{st:Ux}{rest:List Ux}{g g':VS}
theorem aN.call{P:Um->Prop}(S:aN K ml B O H σ δ)(hl:δ'.length=δ.length)(h:∀i:Nat,(δ'[i]?=δ[i]? /\∀a,O i=some a->¬P a)∨∃a d',O i=some a/\δ'[i]?=some (Sl.ow d')/\O8 K (Nn B O) H' a d')
  (f:Fr P H H') (hP:∀a,P a->OA O a):aN K ml B O H' σ δ' where
 len:=by rw[hl,S.len]
 va:=λi d e=>by
  rcases h i with⟨e1,_⟩|⟨a,d',_,e1,_⟩
  ·rw[e1] at e
   obtain⟨v,e2,r⟩:=S.va i d e;exact⟨v,e2,r.fr f (λa z=>.inr (hP a z)) λa z=>.inr (hP a z)⟩
  ·rw[e1] at e
   cases e
 ow:=λi d e=>by
  rcases h i with⟨e1,n⟩|⟨a,d',e2,e1,w⟩
  ·rw[e1] at e
   obtain⟨a,e2,e3,w⟩:=S.ow i d e;exact⟨a,e2,e3,w.fr f (λa z=>.inr (hP a z)) (n a e2)⟩
  ·rw[e1] at e
   cases e;obtain⟨d0,q0⟩:=S.dom i a e2;obtain⟨a',e3,e4,_⟩:=S.ow i d0 q0;rw[e2] at e3;cases e3;exact⟨a,e2,e4,w⟩
 dom:=λi a e=>by
  rcases h i with⟨e1,n⟩|⟨a,d',e2,e1,w⟩
  ·obtain⟨d0,q0⟩:=S.dom i a e
   exact⟨d0,e1.trans q0⟩
  ·exact⟨d',e1⟩
 inj:=S.inj
 old:=S.old
 zin:=λa h'=>by
  obtain⟨o,q⟩:=S.zin a h';exact⟨o,f a o q λz=>by obtain⟨i,e⟩:=hP a z;exact absurd h' (S.old i a e).1⟩
 frm:=λb o q n=>by
  have h1:=S.frm b o q n;refine f b o h1 λz=>?_;obtain⟨i,e⟩:=hP b z;rcases(S.old i b e).2 with w|w
  ·exact n w
  ·rw[q] at w;cases w
 par:=S.par
 pin:=λa h'=>by
  obtain⟨o,q⟩:=S.pin a h';by_cases z:P a
  ·obtain⟨i,e⟩:=hP a z
   rcases h i with⟨_,n⟩|⟨a',d',e2,e1,w⟩
   ·exact absurd z (n a e)
   ·rw[e] at e2
    cases e2;obtain⟨o,q,_⟩:=w.soft;exact⟨o,q⟩
  ·exact⟨o,f a o q λy=>absurd y z⟩
 kep:=λp hp=>(S.kep p hp).fr f (λa z=>.inr (hP a z)) λa z=>.inr (hP a z)
abbrev aS:=List cO->Option (cO×List cO)
def M5(ml:List Nat)(vs:List V):Um->Prop:=λa=>∃i∈ml,vs[i]?=some (.ref a)
def Zp(Z:Um->Prop)(ml:List Nat)(vs:List V):Um->Prop:=λa=>Z a∨M5 ml vs a
structure Vz(K:Ai)(ml:List Nat)(Z:Um->Prop)(H:Hp)(vs:List V)(ds:List cO):Prop where
 len:vs.length=ds.length
 mem:∀i∈ml,i<ds.length
 va:∀(i:Nat) (d:cO),i∉ml->ds[i]?=some d->∃v,vs[i]?=some v/\bB K (Zp Z ml vs) H (Zp Z ml vs) v d
 ow:∀(i:Nat) (d:cO),i∈ml->ds[i]?=some d->∃a,vs[i]?=some (.ref a)/\O8 K (Zp Z ml vs) H a d/\¬Z a
 inj:∀(i j:Nat) (a:Um),i∈ml->j∈ml->vs[i]?=some (.ref a)->vs[j]?=some (.ref a)->i=j
 zin:∀a,Z a->∃o,H a=some o
def spV(K:Ai)(ml:List Nat)(n:Nat)(F:aS):Sp:=λvs H Q _=>∃(Z:Um->Prop) (ds:List cO) (r:cO) (os:List cO),ds.length=n/\Vz K ml Z H vs ds/\F ds=some (r,os)∧
 ∀v H',Fr (M5 ml vs) H H'->(∀(k i:Nat) (a:Um) (o:cO),ml[k]?=some i->vs[i]?=some (.ref a)->os[k]?=some o->O8 K (Zp Z ml vs) H' a o)->bB K (Zp Z ml vs) H' (Zp Z ml vs) v r->Q v H'
noncomputable def bF(ml:List Nat)(n:Nat)(ds:List cO):Ev:=ds.mapIdx (λi d=>if i∈ml then Sl.ow d else Sl.va d)++At (n - ds.length) Sl.no
noncomputable def UP(ml:List Nat)(δ:Ev):Option (List cO):=ml.mapM λ(i:Nat)=>match(δ[i]? :Option Sl) with
 |some (Sl.ow d)=>some d
 |_=>none
noncomputable def ZH(n:Nat)(ml:List Nat)(g:VS):aS:=λds=>(g (bF ml n ds)).bind λo=>match o with
 |.rt d δ=>(UP ml δ).map λos=>(d,os)
 |.nx δ=>(UP ml δ).map λos=>(.non,os)
 |_=>none
theorem ID:∀{ml:List Nat} {δ:Ev} {os:List cO},UP ml δ=some os->∀(k i:Nat) (o:cO),ml[k]?=some i->os[k]?=some o->δ[i]?=some (.ow o)
 |[],_,_,h,k,i,o,e1,e2=>by simp at e1
 | j :: ml,δ,os,h,k,i,o,e1,e2 => by
  unfold UP at h;rw[Sh] at h;split at h
  ·rename_i d hd
   cases h2:(ml.mapM λ(i:Nat)=>match(δ[i]? :Option Sl) with
    |some (Sl.ow d)=>some d
    |_=>none:Option (List cO)) with
   |none=>rw[h2] at h;cases h
   |some os2=>
    rw[h2] at h;cases h;cases k with
    |zero=>
     cases e1;cases e2;exact hd
    |succ k=>exact ID (ml:=ml) h2 k i o (by simpa using e1) (by simpa using e2)
  ·cases h
theorem MO{N:List Us}{Z:Um->Prop}{vs:List V}{ds:List cO}(A:Vz K ml Z H vs ds)(hn:ds.length<=N.length):∃mu:Nat->Option Um,(∀i a,mu i=some a↔i∈ml/\vs[i]?=some (.ref a))/\aN K ml ⟨Z,M5 ml vs,H,mu,[]⟩ mu H (start N vs) (bF ml N.length ds):=by
 classical
 let mu:Nat->Option Um:=λi=>if i∈ml then(match vs[i]? with
  |some (.ref a)=>some a
  |_=>none) else none
 have hmu:∀i a,mu i=some a↔i∈ml/\vs[i]?=some (.ref a):=λi a=>by
  show(if i∈ml then(match vs[i]? with
   |some (.ref a)=>some a
   |_=>none) else none)=some a↔_
  by_cases hi:i∈ml
  ·rw[if_pos hi]
   constructor
   ·intro h
    split at h
    ·rename_i b hb
     cases h;exact⟨hi,hb⟩
    ·cases h
   ·rintro ⟨_,h⟩
    rw[h]
  ·rw[if_neg hi]
   exact⟨(λh=>nomatch h),λh=>absurd h.1 hi⟩
 have hN:∀a,Nn ⟨Z,M5 ml vs,H,mu,[]⟩ mu a->Zp Z ml vs a:=λa h=>by
  rcases h with h|⟨i,h⟩
  ·exact .inl h
  ·exact .inr ⟨i,(hmu i a).mp h⟩
 have lx:∀(i:Nat) (s:Sl),(bF ml N.length ds)[i]?=some s->(∃d,ds[i]?=some d/\s=if i∈ml then .ow d else .va d)∨s=.no:=λi s h=>by
  unfold bF at h;by_cases hi:i<ds.length
  ·rw [Ao (by simpa using hi),Nf] at h
   cases q:ds[i]? with
   |none=>rw[q] at h;cases h
   |some d=>rw[q] at h;cases h;exact .inl ⟨d,rfl,rfl⟩
  ·rw [Dk (by simpa using hi),Dg] at h
   split at h
   ·cases h;exact .inr rfl
   ·cases h
 have hst:∀(i:Nat) (v:V),vs[i]?=some v->(start N vs)[i]?=some (some v):=λi v h=>by unfold start;have hi:i<vs.length:=(Ag.mp h).1;rw[Ao (by simpa using hi),Dh,h];rfl
 refine⟨mu,hmu,?_,λi d q=>?_,λi d q=>?_,λi a q=>?_,λi j a q1 q2=>?_,λi a q=>?_,A.zin,Fr.refl _ _,⟨λi a q=>((hmu i a).mp q).1,λi _=>rfl⟩,λa q=>?_,λp hp=>nomatch hp⟩
 ·unfold start bF
  have:=A.len;simp;lia
 ·rcases lx i _ q with⟨e,h1,h2⟩|h
  ·by_cases hi:i∈ml
   ·rw[if_pos hi] at h2;cases h2
   ·rw[if_neg hi] at h2
    cases h2;obtain⟨v,e1,r⟩:=A.va i d hi h1;exact⟨v,hst i v e1,r.mono hN hN⟩
  ·cases h
 ·rcases lx i _ q with⟨e,h1,h2⟩|h
  ·by_cases hi:i∈ml
   ·rw[if_pos hi] at h2
    cases h2;obtain⟨a,e1,w,_⟩:=A.ow i d hi h1;exact⟨a,(hmu i a).mpr ⟨hi,e1⟩,hst i _ e1,w.mono hN⟩
   ·rw[if_neg hi] at h2;cases h2
  ·cases h
 ·obtain⟨hi,e1⟩:=(hmu i a).mp q
  have hl:=A.mem i hi;refine⟨ds[i],?_⟩;unfold bF;rw[Ao (by simpa using hl),Nf];simp[hl,hi]
 ·exact A.inj i j a ((hmu i a).mp q1).1 ((hmu j a).mp q2).1 ((hmu i a).mp q1).2 ((hmu j a).mp q2).2
 ·obtain⟨hi,e1⟩:=(hmu i a).mp q
  refine⟨λz=>?_,.inl ⟨i,hi,e1⟩⟩;obtain⟨a',e2,_,n⟩:=A.ow i (ds[i]'(A.mem i hi)) hi (by simp[A.mem i hi]);rw[e1] at e2;cases e2;exact n z
 ·obtain⟨i,hi,e1⟩:=q
  obtain⟨a',e2,w,n⟩:=A.ow i (ds[i]'(A.mem i hi)) hi (by simp[A.mem i hi]);rw[e1] at e2;cases e2;obtain⟨o,q,_⟩:=w.soft;exact⟨o,q⟩
theorem Yb{N ps:List Us}{vs:List V}{Q:VK}{E:XK}(hps:ps.length<=N.length)(h:spV K ml ps.length (ZH N.length ml g) vs H Q E):V6 K ml g {nx:=λ_ H'=>Q .non H',rt:=Q} (start N vs) H:=by
 obtain⟨Z,ds,r,os,hn,AV,hF,k⟩:=h;obtain⟨mu,hmu,S0⟩:=MO (N:=N) AV (by rw[hn];exact hps);unfold ZH at hF;cases h1:g (bF ml N.length ds) with
 |none=>rw[h1] at hF;cases hF
 |some o=>
  rw[h1] at hF;refine⟨_,mu,_,o,S0,h1,?_⟩;have fin:∀(δ':Ev) (v:V) (σ':St) (H':Hp) (O':Nat->Option Um),UP ml δ'=some os->aN K ml ⟨Z,M5 ml vs,H,mu,[]⟩ O' H' σ' δ'->bB K (rz ⟨Z,M5 ml vs,H,mu,[]⟩) H' (rz ⟨Z,M5 ml vs,H,mu,[]⟩) v r->Q v H':=λδ' v σ' H' O' ho S' hr'=>by
   have hz:∀a,Zp Z ml vs a->rz ⟨Z,M5 ml vs,H,mu,[]⟩ a:=λa h=>by
    rcases h with h|⟨i,hi,e⟩
    ·exact .inl h
    ·exact .inr ⟨i,(hmu i a).mpr ⟨hi,e⟩⟩
   refine k v H' S'.frm (λkk i a o e1 e2 e3=>?_) (hr'.mono hz hz);have hd:=ID ho kk i o e1 e3;obtain⟨a',e4,_,w⟩:=S'.ow i o hd;have hi:i∈ml:=Ej e1;have:=(S'.par.2 i hi).trans ((hmu i a).mpr ⟨hi,e2⟩);rw[this] at e4;cases e4;refine w.mono λb hb=>?_;rcases hb with hb|⟨j,hj,e5⟩
   ·exact .inl hb
   ·exact .inr ⟨j,(S'.par.2 j hj).trans ((hmu j b).mpr ⟨hj,e5⟩)⟩
  cases o with
  |rt d δ'=>
   have hF:(UP ml δ').map (λos=>(d,os))=some (r,os):=hF;cases h2:UP ml δ' with
   |none=>rw[h2] at hF;cases hF
   |some os'=>
    rw[h2] at hF;cases hF;exact λv σ' H' O' S' hr'=>fin δ' v σ' H' O' h2 S' hr'
  |nx δ'=>
   have hF:(UP ml δ').map (λos=>(cO.non,os))=some (r,os):=hF;cases h2:UP ml δ' with
   |none=>rw[h2] at hF;cases hF
   |some os'=>
    rw[h2] at hF;cases hF;exact λσ' H' O' S'=>fin δ' .non σ' H' O' h2 S' .non
  |bk δ'=>cases hF
  |ct δ'=>cases hF
theorem X8.okV{P:As}{w:Uu}{mg:Us->Option Ul}{base:Uw}{x qual:Us}{st:Ux}{f:Um}{fd:Cu}{N ps:List Us}{k:Nat}(F:X8 K x qual st f fd)(S:bX N ps (cL st))(hps:ps.length<=N.length)(aq:∀(cdv:Ul) (A:Bt) (outer:List Env) (s:Ad) (H:Hp) (E:XK),Y7 k (A.deeper (envOfC qual (cL st) s.heap.objs.size f cdv))->WZ (TJ CX0 P w K mg base N qual (cL st) f cdv A outer s H E).nox (aP st) (V6 K ml g)):Z7 P w K mg base CX0 (k+1) f fd ps (spV K ml ps.length (ZH N.length ml g)):=by refine F.ok S (λvs H Q E h=>?_) (λcdv A outer s H vs Q E hr h=>⟨_,aq cdv A outer s H E hr,Yb hps h⟩);obtain⟨Z,ds,r,os,hn,AV,_⟩:=h;rw[AV.len,hn]
inductive AV where
 |d (d:cO)|o (j:Nat)
inductive VU(K:Ai)(N:Um->Prop)(H:Hp)(σ:St):List V->List AV->Prop
 |nil:VU K N H σ [] []
 |d {v:V} {vs:List V} {d:cO} {as:List AV}:bB K N H N v d->VU K N H σ vs as->VU K N H σ (v::vs) (.d d::as)
 |o {v:V} {vs:List V} {j:Nat} {as:List AV}:σ[j]?=some (some v)->VU K N H σ vs as->VU K N H σ (v::vs) (.o j::as)
abbrev PX:=Ev->Option (List AV×Ev)
structure ResG(K:Ai)(ml:List Nat)(B:Bs)(O:Nat->Option Um)(H:Hp)(σ:St)(pu:Bool)(H':Hp)(δ':Ev)(vs:List V)(as:List AV):Prop where
 sta:aN K ml B O H' σ δ'
 frm:Fr (OA O) H H'
 pur:pu=true->aL H H'
 rep:VU K (Nn B O) H' σ vs as
def FK(K:Ai)(ml:List Nat)(pu:Bool)(f:PX):TA:=λσ H Q=>∃B O δ as δ',aN K ml B O H σ δ/\f δ=some (as,δ')/\∀vs H',ResG K ml B O H σ pu H' δ' vs as->Q vs H'
def bT:PX:=λδ=>some ([],δ)
noncomputable def aE(f:VF)(fs:PX):PX:=λδ=>(f δ).bind λp=>(fs p.2).map λq=>(.d p.1::q.1,q.2)
noncomputable def slot(δ:Ev)(j:Nat):Option cO:=match δ[j]? with
 |some (.va d)=>some d
 |some (.ow d)=>some d
 |_=>none
noncomputable def aO(j:Nat)(fs:PX):PX:=λδ=>(slot δ j).bind λ_=>(fs δ).map λq=>(.o j::q.1,q.2)
theorem cG:PA X [] (FK K ml true bT):=ZO.imp λσ H Q q0=>by obtain⟨B,O,δ,d,δ',S,q,k⟩:=q0;cases q;exact k [] H ⟨S,Fr.refl _ _,λ_=>aL.refl _,.nil⟩
theorem cI{fs:PX}(ha:PE X a (TV K ml pa true true fa))(hr:PA X es (FK K ml ps fs))(hs:Uo (a::es) X.env=(false,eval a X.env)::Uo es X.env:=by rfl):PA X (a::es) (FK K ml (pa&&ps) (aE fa fs)):=(bD ha hr hs).imp λσ H Q q0=>by
 obtain⟨B,O,δ,as,δ2,S,q,k⟩:=q0;unfold aE at q;cases h1:fa δ with
 |none=>rw[h1] at q;cases q
 |some p=>
  obtain⟨x,δ1⟩:=p;rw[h1] at q;have q:((fs δ1).map λq=>(AV.d x::q.1,q.2))=some (as,δ2):=q;cases h2:fs δ1 with
  |none=>rw[h2] at q;cases q
  |some p2=>
   rw[h2] at q;cases q;refine⟨B,O,δ,x,δ1,S,h1,λv1 H1 R1=>⟨B,O,δ1,_,_,R1.sta,h2,λvs H2 R2=>k _ H2 ⟨R2.sta,R1.frm.trans R2.frm,λz=>?_,.d (R1.rep.fr R2.frm (λa z=>.inr z) λa z=>.inr z) R2.rep⟩⟩⟩;obtain⟨z1,z2⟩:=(Ae _ _).mp z;exact(R1.pur z1).trans (R2.pur z2)
theorem MN{j:Nat}{d:cO}(h:slot δ j=some d):δ[j]?=some (.va d)∨δ[j]?=some (.ow d):=by
 unfold slot at h;split at h
 ·cases h;exact .inl (by assumption)
 ·cases h;exact .inr (by assumption)
 ·cases h
theorem aN.slot(S:aN K ml B O H σ δ){j:Nat}{d:cO}(h:slot δ j=some d):∃v,σ[j]?=some (some v):=by
 rcases MN h with h|h
 ·obtain⟨v,e,_⟩:=S.va j d h
  exact⟨v,e⟩
 ·obtain⟨a,_,e,_⟩:=S.ow j d h
  exact⟨_,e⟩
theorem aW{fs:PX}{j:Nat}(ha:PE X a (KZ j))(hr:PA X es (FK K ml ps fs))(hs:Uo (a::es) X.env=(false,eval a X.env)::Uo es X.env:=by rfl):PA X (a::es) (FK K ml ps (aO j fs)):=(bD ha hr hs).imp λσ H Q q0=>by
 obtain⟨B,O,δ,as,δ2,S,q,k⟩:=q0;unfold aO at q;cases h1:slot δ j with
 |none=>rw[h1] at q;cases q
 |some d=>
  rw[h1] at q;have q:((fs δ).map λq=>(AV.o j::q.1,q.2))=some (as,δ2):=q;cases h2:fs δ with
  |none=>rw[h2] at q;cases q
  |some p2=>
   rw[h2] at q;cases q;obtain⟨v,e⟩:=S.slot h1;exact⟨v,e,B,O,δ,_,_,S,h2,λvs H2 R2=>k _ H2 ⟨R2.sta,R2.frm,R2.pur,.o e R2.rep⟩⟩
theorem VU.length:∀{N:Um->Prop} {vs:List V} {as:List AV},VU K N H σ vs as->vs.length=as.length
 |_,_,_,.nil=>rfl
 |_,_,_,.d _ t=>congrArg (· +1) (VU.length t)
 |_,_,_,.o _ t=>congrArg (· +1) (VU.length t)
theorem VU.getD:∀{N:Um->Prop} {vs:List V} {as:List AV} {i:Nat} {d:cO},VU K N H σ vs as->as[i]?=some (.d d)->∃v,vs[i]?=some v/\bB K N H N v d
 |_,_,_,_,_,.nil,e=>by simp at e
 |_,_,_,0,_,.d h _,e=>by simp at e;subst e;exact⟨_,rfl,h⟩
 |_,_,_,0,_,.o h _,e=>by simp at e
 |_,_,_,i+1,_,.d _ t,e=>by obtain⟨u,h1,h2⟩:=VU.getD (i:=i) t (by simpa using e);exact⟨u,by simpa using h1,h2⟩
 |_,_,_,i+1,_,.o _ t,e=>by obtain⟨u,h1,h2⟩:=VU.getD (i:=i) t (by simpa using e);exact⟨u,by simpa using h1,h2⟩
theorem VU.getO:∀{N:Um->Prop} {vs:List V} {as:List AV} {i j:Nat},VU K N H σ vs as->as[i]?=some (.o j)->∃v,vs[i]?=some v/\σ[j]?=some (some v)
 |_,_,_,_,_,.nil,e=>by simp at e
 |_,_,_,0,_,.d h _,e=>by simp at e
 |_,_,_,0,_,.o h _,e=>by simp at e;subst e;exact⟨_,rfl,h⟩
 |_,_,_,i+1,_,.d _ t,e=>by obtain⟨u,h1,h2⟩:=VU.getO (i:=i) t (by simpa using e);exact⟨u,by simpa using h1,h2⟩
 |_,_,_,i+1,_,.o _ t,e=>by obtain⟨u,h1,h2⟩:=VU.getO (i:=i) t (by simpa using e);exact⟨u,by simpa using h1,h2⟩
noncomputable def argD(δ:Ev):AV->Option cO
 |.d d=>some d
 |.o j=>slot δ j
noncomputable def WR(δ:Ev):List AV->Option (List cO)
 |[]=>some []
 |a::as=>(argD δ a).bind λd=>(WR δ as).map λds=>d::ds
theorem LB:∀{as:List AV} {ds:List cO},WR δ as=some ds->as.length=ds.length/\∀(i:Nat) (d:cO),ds[i]?=some d->∃a,as[i]?=some a/\argD δ a=some d
 |[],ds,h=>by cases h;exact⟨rfl,λi d e=>by simp at e⟩
 | a :: as,ds,h => by
  unfold WR at h;cases h1:argD δ a with
  |none=>rw[h1] at h;cases h
  |some d=>
   rw[h1] at h;cases h2:WR δ as with
   |none=>simp[h2] at h
   |some ds'=>
    simp only[Af,h2] at h;cases h;obtain⟨l,g⟩:=LB h2;refine⟨by simp[l],λi e he=>?_⟩;cases i with
    |zero=>cases he;exact⟨a,rfl,h1⟩
    |succ i=>
     obtain⟨b,e1,e2⟩:=g i e (by simpa using he);exact⟨b,by simpa using e1,e2⟩
noncomputable def U1:List AV->List Nat
 |[]=>[]
 |.d _::as=>U1 as
 |.o j::as=>j::U1 as
theorem QQ:∀{as:List AV} {i j:Nat},as[i]?=some (.o j)->j∈U1 as
 |[],_,_,e=>by simp at e
 |.d _::as,0,j,e=>by simp at e
 |.o k::as,0,j,e=>by simp at e;subst e;exact Ar
 |.d _::as,i+1,j,e=>QQ (as:=as) (i:=i) (by simpa using e)
 |.o k::as,i+1,j,e=>An _ (QQ (as:=as) (i:=i) (by simpa using e))
theorem D7:∀{as:List AV} {j:Nat},j∈U1 as->∃i:Nat,as[i]?=some (AV.o j)
 |[],_,h=>nomatch h
 |.d _::as,j,h=>by obtain⟨i,e⟩:=D7 (as:=as) h;exact⟨i+1,by simpa using e⟩
 | .o k :: as,j,h => by
  rcases Ak.mp h with e|e
  ·exact⟨0,by rw[e];rfl⟩
  ·obtain⟨i,e⟩:=D7 (as:=as) e
   exact⟨i+1,by simpa using e⟩
theorem J6:∀{as:List AV} {i k j:Nat},(U1 as).Nodup->as[i]?=some (.o j)->as[k]?=some (.o j)->i=k
 |[],_,_,_,_,e,_=>by simp at e
 |.d _::as,0,_,j,_,e,_=>by simp at e
 |.d _::as,_+1,0,j,_,_,e=>by simp at e
 |.d _::as,i+1,k+1,j,n,e1,e2=>congrArg (· +1) (J6 (as:=as) n (by simpa using e1) (by simpa using e2))
 |.o x::as,0,0,j,_,_,_=>rfl
 |.o x::as,0,k+1,j,n,e1,e2=>by
  simp at e1;subst e1;have h:as[k]?=some (.o x):=by simpa using e2
  exact absurd (QQ h) (Cs.mp n).1
 |.o x::as,i+1,0,j,n,e1,e2=>by
  simp at e2;subst e2;have h:as[i]?=some (.o x):=by simpa using e1
  exact absurd (QQ h) (Cs.mp n).1
 |.o x::as,i+1,k+1,j,n,e1,e2=>congrArg (· +1) (J6 (as:=as) (Cs.mp n).2 (by simpa using e1) (by simpa using e2))
noncomputable def EB(δ:Ev)(as:List AV)(i:Nat):Bool:=match as[i]? with
 |some (.o j)=>match δ[j]? with
  |some (.ow _)=>true
  |_=>false
 |_=>false
noncomputable def WQ(mF:List Nat):List AV->Nat->Bool
 |[],_=>true
 |.d _::as,i=>WQ mF as (i+1)
 |.o _::as,i=>decide (i∈mF)&&WQ mF as (i+1)
theorem TW{mF:List Nat}:∀{as:List AV} {k i j:Nat},WQ mF as k=true->as[i]?=some (.o j)->k+i∈mF
 |[],_,_,_,_,e=>by simp at e
 |.d _::as,k,0,j,h,e=>by simp at e
 |.o _::as,k,0,j,h,e=>by simp only[WQ,Ae,decide_eq_true_eq] at h;exact h.1
 |.d _::as,k,i+1,j,h,e=>by have:=TW (as:=as) (k:=k+1) (i:=i) (j:=j) h (by simpa using e);rwa[show k+(i+1)=k+1+i by lia]
 |.o _::as,k,i+1,j,h,e=>by simp only[WQ,Ae] at h;have:=TW (as:=as) (k:=k+1) (i:=i) (j:=j) h.2 (by simpa using e);rwa[show k+(i+1)=k+1+i by lia]
noncomputable def UG:cO->Bool
 |.lst ds=>UF ds
 |.dct _ ds=>UF ds
 |_=>false
theorem O8.kids{N N':Um->Prop}{a:Um}(w:O8 K N H a d)(h:UG d=true):O8 K N' H a d:=by
 cases w with
 |lst q r=>exact .lst q (r.hard h)
 |dct q r=>exact .dct q (r.hard h)
noncomputable def WP(as:List AV):List Nat->List cO->Ev->Ev
 |i::is,o::os,δ=>match as[i]? with
  |some (.o j)=>WP as is os (δ.set j (.ow o))
  |_=>WP as is os δ
 |_,_,δ=>δ
theorem RV{as:List AV}:∀{is:List Nat} {os:List cO} {δ:Ev},(WP as is os δ).length=δ.length
 |[],_,_=>rfl
 |_::_,[],_=>rfl
 |i::is,o::os,δ=>by
  unfold WP;split
  ·rw[RV,Bz]
  ·rw[RV]
theorem OI{as:List AV}:∀{is:List Nat} {os:List cO} {δ:Ev} (j:Nat),is.length=os.length->j<δ.length->(∃(k i:Nat) (o:cO),is[k]?=some i/\os[k]?=some o/\as[i]?=some (AV.o j)/\(WP as is os δ)[j]?=some (Sl.ow o))∨((∀i∈is,as[i]? ≠some (AV.o j))/\(WP as is os δ)[j]?=δ[j]?)
 |[],[],δ,j,_,_=>.inr ⟨(λi h=>nomatch h),rfl⟩
 | i :: is,o :: os,δ,j,hl,hj => by
  unfold WP;split
  ·rename_i j0 e0
   rcases OI (is:=is) (os:=os) (δ:=δ.set j0 (.ow o)) j (by simpa using hl) (by rw[Bz];exact hj) with⟨k,i',o',h1,h2,h3,h4⟩|⟨h1,h2⟩
   ·exact .inl ⟨k+1,i',o',by simpa using h1,by simpa using h2,h3,h4⟩
   ·by_cases hjj:j=j0
    ·subst hjj
     rw[Cj hj] at h2;exact .inl ⟨0,i,o,rfl,rfl,e0,h2⟩
    ·rw[Bo (Dm hjj)] at h2
     refine .inr ⟨λi' hi'=>?_,h2⟩;rcases Ak.mp hi' with z|z
     ·rw[z,e0]
      intro w;cases w;exact hjj rfl
     ·exact h1 i' z
  ·rename_i hn
   rcases OI (is:=is) (os:=os) (δ:=δ) j (by simpa using hl) hj with⟨k,i',o',h1,h2,h3,h4⟩|⟨h1,h2⟩
   ·exact .inl ⟨k+1,i',o',by simpa using h1,by simpa using h2,h3,h4⟩
   ·refine .inr ⟨λi' hi' => ?_,h2⟩
    rcases Ak.mp hi' with z|z
    ·rw[z]
     exact λw=>hn j w
    ·exact h1 i' z
noncomputable def VE(mF:List Nat)(as:List AV)(δ:Ev):Bool:=mF.all (EB δ as)&&decide (U1 as).Nodup
noncomputable def V7(mF:List Nat)(as:List AV)(r:cO)(os:List cO):Bool:=(WQ mF as 0 || r.hard)&&(WQ mF as 0 || os.all UG)&&decide (mF.length=os.length)
noncomputable def cA(n:Nat)(mF:List Nat)(F:aS)(fs:PX):VF:=λδ=>(fs δ).bind λp=>(WR p.2 p.1).bind λds=>if ds.length=n/\VE mF p.1 p.2=true then(F ds).bind λq=>if V7 mF p.1 q.1 q.2=true then some (q.1,WP p.1 mF q.2 p.2) else none else none
theorem K1{n:Nat}{mF:List Nat}{F:aS}{fs:PX}{Q:VK}(h:TV K ml (ps && mF.isEmpty) true true (cA n mF F fs) σ H Q):E8 (spV K mF n F) [] E0 (FK K ml ps fs) σ H Q:=by
 obtain⟨B,O,δ,d,δ2,S,q,k⟩:=h;unfold cA at q;cases h1:fs δ with
 |none=>rw[h1] at q;cases q
 |some p=>
  obtain⟨as,δ1⟩:=p;rw[h1] at q;have q:((WR δ1 as).bind λds=>if ds.length=n/\VE mF as δ1=true then(F ds).bind λq=>if V7 mF as q.1 q.2=true then some (q.1,WP as mF q.2 δ1) else none else none)=some (d,δ2):=q;cases h2:WR δ1 as with
  |none=>rw[h2] at q;cases q
  |some ds=>
   rw[h2] at q;have q:(if ds.length=n/\VE mF as δ1=true then(F ds).bind λq=>if V7 mF as q.1 q.2=true then some (q.1,WP as mF q.2 δ1) else none else none)=some (d,δ2):=q;split at q
   ·rename_i hc
    cases h3:F ds with
    |none=>rw[h3] at q;cases q
    |some z=>
     obtain⟨r,os⟩:=z;rw[h3] at q;have q:(if V7 mF as r os=true then some (r,WP as mF os δ1) else none)=some (d,δ2):=q;split at q
     ·rename_i hb
      cases q;obtain⟨hn,hc⟩:=hc;simp only[VE,Ae,decide_eq_true_eq,Fk] at hc;simp only[V7,Ae,decide_eq_true_eq] at hb;obtain⟨hmu,hnd⟩:=hc;obtain⟨⟨nw,on⟩,ag⟩:=hb;refine⟨B,O,δ,as,δ1,S,h1,λvs H1 R=>?_⟩;show spV K mF n F (vs++[]) H1 Q E0;rw[Cw];obtain⟨hal,hag⟩:=LB h2;have hm:∀i∈mF,∃j a x,as[i]?=some (.o j)/\δ1[j]?=some (.ow x)/\O j=some a/\vs[i]?=some (.ref a)/\O8 K (Nn B O) H1 a x:=λi hi=>by
       have:=hmu i hi;unfold EB at this;split at this
       ·rename_i j ej
        split at this
        ·rename_i x ex
         obtain⟨a,e1,e2,w⟩:=R.sta.ow j x ex;obtain⟨v,e3,e4⟩:=R.rep.getO ej;rw[e2] at e4;cases e4;exact⟨j,a,x,ej,ex,e1,e3,w⟩
        ·cases this
       ·cases this
      have hP:∀a,M5 mF vs a->∃i j,i∈mF/\as[i]?=some (.o j)/\O j=some a:=λa q0=>by obtain⟨i,hi,e⟩:=q0;obtain⟨j,a',x,e1,_,e2,e3,_⟩:=hm i hi;rw[e] at e3;cases e3;exact⟨i,j,hi,e1,e2⟩
      have hPO:∀a,M5 mF vs a->OA O a:=λa h=>by obtain⟨i,j,_,_,e⟩:=hP a h;exact⟨j,e⟩
      have hZp:∀a,Zp (λa=>Nn B O a/\∀j∈U1 as,O j≠some a) mF vs a->Nn B O a:=λa h=>by
       rcases h with h|h
       ·exact h.1
       ·exact .inr (hPO a h)
      refine⟨λa=>Nn B O a/\∀j∈U1 as,O j≠some a,ds,_,os,hn,⟨by rw[<-hal,R.rep.length],λi hi=>?_,λi x hi e=>?_,λi x hi e=>?_,λi j a hi hj e1 e2=>?_,λa h=>R.sta.nin h.1⟩,h3,λv H2 f2 w2 r2=>?_⟩
      ·obtain⟨j,a,x,e1,_⟩:=hm i hi
       rw[<-hal];exact(Ag.mp e1).1
      ·obtain⟨a,e1,e2⟩:=hag i x e
       cases a with
       |d y=>
        cases e2;obtain⟨v,e3,r⟩:=R.rep.getD e1;exact⟨v,e3,r.mono hZp hZp⟩
       |o j=>
        obtain⟨v,e3,e4⟩:=R.rep.getO e1;refine⟨v,e3,?_⟩;rcases MN e2 with e5|e5
        ·obtain⟨v',e6,r⟩:=R.sta.va j x e5
         rw[e4] at e6;cases e6;exact r.mono hZp hZp
        ·obtain⟨a,e7,e6,w⟩:=R.sta.ow j x e5
         rw[e4] at e6;cases e6;refine(w.mono hZp).rep λz=>?_;rcases z with z|z
         ·exact z.2 j (QQ e1) e7
         ·obtain⟨i',j',hi',e8,e9⟩:=hP a z
          have:j=j':=R.sta.inj j j' a e7 e9;subst this;have:=J6 hnd e1 e8;subst this;exact hi hi'
      ·obtain⟨a,e1,e2⟩:=hag i x e
       obtain⟨j,b,y,e3,e4,e5,e6,w⟩:=hm i hi;rw[e3] at e1;cases e1;have e7:slot δ1 j=some y:=by unfold slot;rw[e4]
       have e2:slot δ1 j=some x:=e2;rw[e7] at e2;cases e2;exact⟨b,e6,w.mono hZp,λz=>z.2 j (QQ e3) e5⟩
      ·obtain⟨j1,b1,_,e3,_,e4,e5,_⟩:=hm i hi
       obtain⟨j2,b2,_,e6,_,e7,e8,_⟩:=hm j hj;rw[e1] at e5;cases e5;rw[e2] at e8;cases e8;have:j1=j2:=R.sta.inj j1 j2 a e4 e7;subst this;exact J6 hnd e3 e6
      ·have S2:aN K ml B O H2 σ (WP as mF os δ1):=by
        refine R.sta.call RV (λj=>?_) f2 hPO;by_cases hj:j<δ1.length
        ·rcases OI (as:=as) (is:=mF) (os:=os) (δ:=δ1) j ag hj with⟨kk,i,o,e1,e2,e3,e4⟩|⟨e1,e2⟩
         ·obtain⟨j',a,x,e5,_,e6,e7,_⟩:=hm i (Ej e1)
          rw[e3] at e5;cases e5;have w:=w2 kk i a o e1 e7 e2;refine .inr ⟨a,o,e6,e4,?_⟩;rcases(Ih _ _).mp on with z|z
          ·refine w.mono λb hb => ?_
           by_cases hjs:∃j'∈U1 as,O j'=some b
           ·obtain⟨j',hj',e8⟩:=hjs
            obtain⟨i',e9⟩:=D7 hj';have hi':=TW z e9;rw[Ks] at hi';obtain⟨j'',a'',_,e10,_,e11,e12,_⟩:=hm i' hi';rw[e9] at e10;cases e10;rw[e8] at e11;cases e11;exact .inr ⟨i',hi',e12⟩
           ·exact .inl ⟨hb,λj' hj' e=>hjs ⟨j',hj',e⟩⟩
          ·exact w.kids (Fk.mp z o (Ej e2))
         ·refine .inl ⟨e2,λa ea hPa => ?_⟩
          obtain⟨i,j',hi,e3,e4⟩:=hP a hPa;have:j=j':=R.sta.inj j j' a ea e4;subst this;exact e1 i hi e3
        ·refine .inl ⟨?_,λa ea => ?_⟩
         ·rw[Cg (by rw[RV];lia),Cg (by lia)]
         ·obtain⟨x,ex⟩:=R.sta.dom j a ea
          exact absurd (Ag.mp ex).1 hj
       refine k v H2 ⟨S2,R.frm.trans (f2.mono hPO),λz=>?_,?_⟩
       ·obtain⟨z1,z2⟩:=(Ae _ _).mp z
        refine(R.pur z1).trans λb o e=>f2 b o e λw=>?_;obtain⟨i,hi,_⟩:=w;rw[Qq.mp z2] at hi;cases hi
       ·rcases(Ih _ _).mp nw with z|z
        ·have hN : ∀ a,Nn B O a -> Zp (λa => Nn B O a /\ ∀ j ∈ U1 as,O j ≠ some a) mF vs a := λb hb => by
          by_cases hjs:∃j'∈U1 as,O j'=some b
          ·obtain⟨j',hj',e8⟩:=hjs
           obtain⟨i',e9⟩:=D7 hj';have hi':=TW z e9;rw[Ks] at hi';obtain⟨j'',a'',_,e10,_,e11,e12,_⟩:=hm i' hi';rw[e9] at e10;cases e10;rw[e8] at e11;cases e11;exact .inr ⟨i',hi',e12⟩
          ·exact .inl ⟨hb,λj' hj' e=>hjs ⟨j',hj',e⟩⟩
         exact r2.mono hN hN
        ·exact r2.hard z
     ·cases q
   ·cases q
theorem iU{x:Us}{kk j n:Nat}{qs:List Us}{mF:List Nat}{F:aS}{ff:Um}{p':Pos}{fs:PX}(hK:X.K=K)(D:Def X.prog X.w K X.mg X.base x kk qs (spV K mF n F) ff)(hr:Y7 j X.A)(hk:kk<=j)(hg:Gl X x)(ha:PA X (e::es) (FK K ml ps fs))(hdb:(x==("__debug__":Us))=false:=by decide)(he:Uo (e::es) X.env=(false,eval e X.env)::Uo es X.env:=by rfl)(hpl:(Dq pos (Uo es X.env)).any (·.1)=false:=by rfl):PE X (.Call (.Name x p') (e::es) [] pos) (TV K ml (ps&&mF.isEmpty) true true (cA n mF F fs)):=by subst hK;exact(fZ D hr hk hg ha hdb he hpl).imp λ_ _ _ h=>K1 h
end
section
variable{X:Cx}{K:Ai}{ml:List Nat}{e a b c:Ut}{es:List Ut}{pi pt pe pu bt bi ps bs:Bool}{f:VF}{B B':Bs}{O:Nat->Option Um}{H H0 H1 H':Hp}{σ:St}{δ δ':Ev}{v:V}{d:cO}{p:Um}{pos:Pos}{ix:List Nat}{nl:Nat}
def aY(ix:List Nat)(δ:Ev):Ev:=ix.map λi=>(δ[i]?).getD .no
def NC(nl:Nat):Ev:=At nl Sl.no
noncomputable def ZZ(n nl:Nat)(gg:VG)(tb:VB)(fe:VF):List cO->List cO->Ev->Option (List cO×Ev)
 |[],acc,δ=>some (acc,δ)
 |d::r,acc,δ=>(gg d (δ++NC nl)).bind λδ1=>(tb δ1).bind λp=>if p.1=true then(fe p.2).bind λq=>if acc.length<16777216 then ZZ n nl gg tb fe r (acc++[q.1]) (q.2.take n) else none else ZZ n nl gg tb fe r acc (p.2.take n)
noncomputable def Y9:List Nat->Ev->Ev->Ev
 |i::is,s::ss,δ=>match s with
  |.ow d=>Y9 is ss (δ.set i (.ow d))
  |_=>Y9 is ss δ
 |_,_,δ=>δ
noncomputable def ZG(ix:List Nat)(nl:Nat)(fi:VI)(gg:VG)(tb:VB)(fe:VF):VF:=λδ=>(fi δ).bind λp=>(ZZ ix.length nl gg tb fe p.1 [] (aY ix p.2)).map λq=>(.lst q.1,Y9 ix q.2 p.2)
def R7:VB:=λδ=>some (true,δ)
theorem VW:∀{ix:List Nat} {ss δ:Ev},(Y9 ix ss δ).length=δ.length
 |[],_,_=>rfl
 |_::_,[],_=>rfl
 |i::is,s::ss,δ=>by
  cases s<;>simp only[Y9]<;>rw[VW]<;>try rw[Bz]
theorem VV:∀{ix:List Nat} {ss δ:Ev} (i:Nat),i<δ.length->ix.length=ss.length->(∃(j:Nat) (d:cO),ix[j]?=some i/\ss[j]?=some (Sl.ow d)/\(Y9 ix ss δ)[i]?=some (Sl.ow d))∨((∀(j:Nat) (d:cO),ix[j]?=some i->ss[j]? ≠some (Sl.ow d))/\(Y9 ix ss δ)[i]?=δ[i]?)
 |[],ss,δ,i,hi,hl=>.inr ⟨(λj d h=>by simp at h),rfl⟩
 |k::is,[],δ,i,hi,hl=>by cases hl
 | k :: is,s :: ss,δ,i,hi,hl => by
  have hl2:is.length=ss.length:=by simpa using hl
  cases s with
  |ow d=>
   simp only[Y9];rcases VV (ix:=is) (ss:=ss) (δ:=δ.set k (.ow d)) i (by rw[Bz];exact hi) hl2 with⟨j,d',h1,h2,h3⟩|⟨h1,h2⟩
   ·exact .inl ⟨j+1,d',by simpa using h1,by simpa using h2,h3⟩
   ·by_cases hk:i=k
    ·subst hk
     rw[Cj hi] at h2;exact .inl ⟨0,d,rfl,rfl,h2⟩
    ·rw[Bo (Dm hk)] at h2
     refine .inr ⟨λj d' e=>?_,h2⟩;cases j with
     |zero=>cases e;exact absurd rfl hk
     |succ j=>simpa using h1 j d' (by simpa using e)
  |va d=>
   simp only[Y9];rcases VV (ix:=is) (ss:=ss) (δ:=δ) i hi hl2 with⟨j,d',h1,h2,h3⟩|⟨h1,h2⟩
   ·exact .inl ⟨j+1,d',by simpa using h1,by simpa using h2,h3⟩
   ·refine .inr ⟨λj d' e => ?_,h2⟩
    cases j with
    |zero=>simp
    |succ j=>simpa using h1 j d' (by simpa using e)
  |no=>
   simp only[Y9];rcases VV (ix:=is) (ss:=ss) (δ:=δ) i hi hl2 with⟨j,d',h1,h2,h3⟩|⟨h1,h2⟩
   ·exact .inl ⟨j+1,d',by simpa using h1,by simpa using h2,h3⟩
   ·refine .inr ⟨λj d' e => ?_,h2⟩
    cases j with
    |zero=>simp
    |succ j=>simpa using h1 j d' (by simpa using e)
noncomputable def Oc(ix:List Nat)(O:Nat->Option Um):Nat->Option Um:=λj=>(ix[j]?).bind O
noncomputable def Bc(ix:List Nat)(B:Bs)(O:Nat->Option Um)(H0:Hp)(D:Um)(kp:List (V×cO)):Bs:=
 ⟨λa=>(B.Z a∨a=D)∨∃i,O i=some a/\i∉ix,OA (Oc ix O),H0,Oc ix O,kp⟩
theorem N8{D:Um}{kp:List (V×cO)}:∀a,Nn (Bc ix B O H0 D kp) (Oc ix O) a->Nn B O a∨a=D:=λa h=>by
 rcases h with((h|h)|⟨i,h,_⟩)|⟨j,h⟩
 ·exact .inl (.inl h)
 ·exact .inr h
 ·exact .inl (.inr ⟨i,h⟩)
 ·unfold Oc at h
  cases q:ix[j]? with
  |none=>rw[q] at h;cases h
  |some i=>rw[q] at h;exact .inl (.inr ⟨i,h⟩)
theorem QS{D:Um}{kp:List (V×cO)}:∀a,Nn (B.add D) O a->Nn (Bc ix B O H0 D kp) (Oc ix O) a:=λa h=>by
 rcases h with h|⟨i,h⟩
 ·exact .inl (.inl h)
 ·by_cases hi:i∈ix
  ·obtain⟨j,hj⟩:=Mv.mp hi
   exact .inr ⟨j,by unfold Oc;rw[hj];exact h⟩
  ·exact .inl (.inr ⟨i,h,hi⟩)
theorem aN.withKp{kp:List (V×cO)}(S:aN K ml B O H σ δ)(h:∀p∈kp,bB K (Nn B O) H (Nn B O) p.1 p.2):aN K ml {B with kp:=kp} O H σ δ:=
 ⟨S.len,S.va,S.ow,S.dom,S.inj,S.old,S.zin,S.frm,S.par,S.pin,h⟩
theorem aN.writeZ{D:Um}{o:HO}{acc:List V}(S:aN K ml B O H σ δ)(hD:B.Z D)(hl:H D=some (.lst acc))(h0:B.H0 D=none):aN K ml B O (upd H D o) σ δ:=by
 have hf:Fr (λb=>b=D) H (upd H D o):=λb u q n=>by
  by_cases hb:b=D
  ·subst hb
   rw[hl] at q;cases q;exact absurd (n rfl) λz=>z
  ·rw[bM hb]
   exact q
 have hN:∀b,b=D->Nn B O b:=λb z=>.inl (z▸hD);have hin:∀b,(∃u,H b=some u)->∃u,upd H D o b=some u:=λb q0=>by
  obtain⟨u,q⟩:=q0;by_cases hb:b=D
  ·exact⟨o,by rw[hb];exact b5⟩
  ·exact⟨u,by rw[bM hb];exact q⟩
 refine⟨S.len,λi d q=>?_,λi d q=>?_,S.dom,S.inj,S.old,λb h=>hin b (S.zin b h),λb u q n=>?_,S.par,λb h=>hin b (S.pin b h),λp hp=>(S.kep p hp).fr hf hN hN⟩
 ·obtain⟨v,e,r⟩:=S.va i d q
  exact⟨v,e,r.fr hf hN hN⟩
 ·obtain⟨a,e,e2,w⟩:=S.ow i d q
  exact⟨a,e,e2,w.fr hf hN λz=>(S.old i a e).1 (z▸hD)⟩
 ·have hb : b ≠ D := λz => by rw [z,h0] at q;cases q
  rw[bM hb];exact S.frm b u q n
theorem LK{j:Nat}{s:Sl}(h:(aY ix δ++NC nl)[j]?=some s):(∃i,ix[j]?=some i/\s=(δ[i]?).getD .no)∨s=.no:=by
 unfold aY NC at h;by_cases hj:j<ix.length
 ·rw [Ao (by simpa using hj),Dh] at h
  cases q:ix[j]? with
  |none=>rw[q] at h;cases h
  |some i=>rw[q] at h;cases h;exact .inl ⟨i,rfl,rfl⟩
 ·rw [Dk (by simpa using hj),Dg] at h
  split at h
  ·cases h;exact .inr rfl
  ·cases h
theorem G9{i j:Nat}{v:V}(hi:ix[j]?=some i)(h:σ[i]?=some (some v)):(Y0 ix σ++At nl none)[j]?=some (some v):=by have hj:j<ix.length:=(Ag.mp hi).1;unfold Y0;rw[Ao (by simpa using hj),Dh,hi];show some ((σ[i]?).join)=_;rw[h];rfl
theorem aN.inner{D:Um}(S:aN K ml B O H0 σ δ)(hD:H0 D=none)(hnd:ix.Nodup){kps:List (V×cO)}(hk:∀p∈kps,bB K (Nn B O) H0 (Nn B O) p.1 p.2):
  aN K (Bb ix.length) (Bc ix B O H0 D kps) (Oc ix O) (upd H0 D (.lst [])) (Y0 ix σ++At nl none) (aY ix δ++NC nl) where
 len:=by simp[Y0,aY,NC]
 va := λj d e => by
  rcases LK e with⟨i,hi,q⟩|q
  ·have q:δ[i]? =some (.va d):=by
    cases w:δ[i]? with
    |none=>rw[w] at q;cases q
    |some s=>rw[w] at q;rw[show s=.va d from q.symm]
   obtain⟨v,e1,r⟩:=S.va i d q;exact⟨v,G9 hi e1,(r.away hD _ _ N8 N8).same (cJ hD)⟩
  ·cases q
 ow := λj d e => by
  rcases LK e with⟨i,hi,q⟩|q
  ·have q:δ[i]? =some (.ow d):=by
    cases w:δ[i]? with
    |none=>rw[w] at q;cases q
    |some s=>rw[w] at q;rw[show s=.ow d from q.symm]
   obtain⟨a,e1,e2,w⟩:=S.ow i d q;refine⟨a,by unfold Oc;rw[hi];exact e1,G9 hi e2,?_⟩;cases w with
   |lst q' r=>exact .lst (cJ hD _ _ q') ((r.away hD _ _ N8).same (cJ hD))
   |dct q' r=>exact .dct (cJ hD _ _ q') ((r.away hD _ _ N8).same (cJ hD))
  ·cases q
 dom:=λj a e=>by
  unfold Oc at e;cases hi:ix[j]? with
  |none=>rw[hi] at e;cases e
  |some i=>
   rw[hi] at e;obtain⟨d,q⟩:=S.dom i a e;refine⟨d,?_⟩;have hj:j<ix.length:=(Ag.mp hi).1;unfold aY;rw[Ao (by simpa using hj),Dh,hi];show some ((δ[i]?).getD .no)=_;rw[q];rfl
 inj:=λj k a e1 e2=>by
  unfold Oc at e1 e2;cases hi:ix[j]? with
  |none=>rw[hi] at e1;cases e1
  |some i=>
   cases hk:ix[k]? with
   |none=>rw[hk] at e2;cases e2
   |some i'=>
    rw[hi] at e1;rw[hk] at e2;have:i=i':=S.inj i i' a e1 e2;subst this;obtain⟨l1,q1⟩:=Ag.mp hi;obtain⟨l2,q2⟩:=Ag.mp hk;exact(Qo hnd).mp (q1.trans q2.symm)
 old:=λj a e=>by
  have e':=e;unfold Oc at e';cases hi:ix[j]? with
  |none=>rw[hi] at e';cases e'
  |some i=>
   rw[hi] at e';refine⟨λz=>?_,.inl ⟨j,e⟩⟩;rcases z with(z|z)|⟨i',z,n⟩
   ·exact(S.old i a e').1 z
   ·obtain⟨o,q⟩:=S.nin (.inr ⟨i,e'⟩)
    rw[z,hD] at q;cases q
   ·have:i=i':=S.inj i i' a e' z
    subst this;exact n (Ej hi)
 zin:=λa h=>by
  rcases h with(h|h)|⟨i,h,_⟩
  ·obtain⟨o,q⟩:=S.zin a h
   exact⟨o,cJ hD _ _ q⟩
  ·exact⟨_,by rw[h];exact b5⟩
  ·obtain⟨o,q⟩:=S.nin (.inr ⟨i,h⟩)
   exact⟨o,cJ hD _ _ q⟩
 frm:=(cJ hD).fr
 par:=⟨λj a e=>by
  have e:(ix[j]?).bind O=some a:=e;cases hi:ix[j]? with
  |none=>rw[hi] at e;cases e
  |some i=>exact Cn.mpr (Ag.mp hi).1,λj _=>rfl⟩
 pin:=λa q0=>by
  obtain⟨j,e⟩:=q0;unfold Oc at e;cases hi:ix[j]? with
  |none=>rw[hi] at e;cases e
  |some i=>
   rw[hi] at e;obtain⟨o,q⟩:=S.nin (.inr ⟨i,e⟩);exact⟨o,cJ hD _ _ q⟩
 kep:=λp hp=>((hk p hp).away hD _ _ N8 N8).same (cJ hD)
theorem aN.turn{O':Nat->Option Um}{σ':St}{n:Nat}{m:St}(S:aN K (Bb n) B O' H σ' δ)(hmu:∀j,n<=j->B.mu j=none)(hm:m.length=n)(hσ:σ'.take n=m)(hn:n<=δ.length):aN K (Bb n) B B.mu H (m++At nl none) (δ.take n++NC nl):=by
 have hO:∀j,j<n->O' j=B.mu j:=λj hj=>S.par.2 j (Cn.mpr hj);have hle:∀j a,B.mu j=some a->O' j=some a:=λj a e=>by rw[hO j (Cn.mp (S.par.1 j a e))];exact e
 have hN:∀a,Nn B B.mu a->Nn B O' a:=λa h=>by
  rcases h with h|⟨j,h⟩
  ·exact .inl h
  ·exact .inr ⟨j,hle j a h⟩
 have hg:∀(j:Nat) (s:Sl),(δ.take n++NC nl)[j]?=some s->(j<n/\δ[j]?=some s)∨s=.no:=λj s h=>by
  have hl:(δ.take n).length=n:=by rw[By];lia
  by_cases hj:j<n
  ·rw [Ao (by rw [hl];exact hj),Cv hj] at h
   exact .inl ⟨hj,h⟩
  ·unfold NC at h
   rw[Dk (by rw[hl];lia),Dg] at h;split at h
   ·cases h;exact .inr rfl
   ·cases h
 have hs:∀(j:Nat) (v:V),j<n->σ'[j]?=some (some v)->(m++At nl none)[j]?=some (some v):=λj v hj e=>by rw[Ao (by rw[hm];exact hj),<-hσ,Cv hj];exact e
 refine⟨?_,λj d e=>?_,λj d e=>?_,λj a e=>?_,λj k a e1 e2=>S.inj j k a (hle j a e1) (hle k a e2),λj a e=>S.old j a (hle j a e),S.zin,S.frm,⟨S.par.1,λj _=>rfl⟩,S.pin,λp hp=>(S.kep p hp).mono hN hN⟩
 ·simp[hm,NC,By]
  lia
 ·rcases hg j _ e with⟨hj,e⟩|e
  ·obtain⟨v,e1,r⟩:=S.va j d e
   exact⟨v,hs j v hj e1,r.mono hN hN⟩
  ·cases e
 ·rcases hg j _ e with⟨hj,e⟩|e
  ·obtain⟨a,e1,e2,w⟩:=S.ow j d e
   exact⟨a,(hO j hj)▸e1,hs j _ hj e2,w.mono hN⟩
  ·cases e
 ·have hj:=Cn.mp (S.par.1 j a e)
  obtain⟨d,q⟩:=S.dom j a (hle j a e);refine⟨d,?_⟩;rw[Ao (by rw[By];lia),Cv hj];exact q
theorem XV(ix:List Nat)(σ:St):(Y0 ix σ).length=ix.length:=by simp[Y0]
theorem MS{σ':St}(hl:ix.length<=σ'.length)(h:∀i∈Bb ix.length,σ'[i]?=(Y0 ix σ++At nl none)[i]?):σ'.take ix.length=Y0 ix σ:=by
 refine Lc λj=>?_;by_cases hj:j<ix.length
 ·rw[Cv hj,h j (Cn.mpr hj),Ao (by rw[XV];exact hj)]
 ·rw[Cg (by rw[By];lia),Cg (by rw[XV];lia)]
theorem FC{fi:VI}{gg:VG}{tb:VB}{fe:VF}(hnd:ix.Nodup){Q:VK}(h:TN K ml (pi && pt && pe) (ZG ix nl fi gg tb fe) σ H Q):E9 ix nl (TIV K ml pi fi) (TGV K (Bb ix.length) gg) (TB K (Bb ix.length) pt tb) (TV K (Bb ix.length) pe true true fe) σ H Q:=by
 obtain⟨B,O,δ,d,δ2,S,q,k⟩:=h;unfold ZG at q;cases h1:fi δ with
 |none=>rw[h1] at q;cases q
 |some p=>
  obtain⟨ds,δ1⟩:=p;rw[h1] at q;have q:((ZZ ix.length nl gg tb fe ds [] (aY ix δ1)).map λq=>(cO.lst q.1,Y9 ix q.2 δ1))=some (d,δ2):=q;cases h2:ZZ ix.length nl gg tb fe ds [] (aY ix δ1) with
  |none=>rw[h2] at q;cases q
  |some z=>
   obtain⟨res,δf⟩:=z;rw[h2] at q;cases q;refine⟨B,O,δ,ds,δ1,S,h1,λJ kps H0 S0 f0 p0 wk D hD=>?_⟩;have hDO:∀j,Oc ix O j≠some D:=λj e=>by
    unfold Oc at e;cases hi:ix[j]? with
    |none=>rw[hi] at e;cases e
    |some i=>
     rw[hi] at e;obtain⟨o,q⟩:=S0.nin (.inr ⟨i,e⟩);rw[hD] at q;cases q
   have i4:∀kp j,ix.length<=j->(Bc ix B O H0 D kp).mu j=none:=λkp j hj=>by show(ix[j]?).bind O=none;rw[Cg hj];rfl
   refine⟨λi m acc H1=>m=ds.length - i/\i<=ds.length/\∃(am:List cO) (δc:Ev),δc.length=ix.length/\acc.length=am.length∧
     aN K (Bb ix.length) (Bc ix B O H0 D (kps++acc.zip am)) (Oc ix O) H1 (Y0 ix σ++At nl none) (δc++NC nl)/\H1 D=some (.lst acc)/\((pt&&pe)=true->aL H0 H1)∧
     ZZ ix.length nl gg tb fe (ds.drop i) am δc=some (res,δf),
    ⟨ds.length,rfl,Dv _,[],aY ix δ1,by simp[aY],rfl,by rw[Pt,Cw];exact S0.unkeep.inner hD hnd λp hp=>S0.kep p (Bw _ hp),b5,λ_=>cJ hD,h2⟩,?_⟩
   rintro i m acc H1 ⟨rfl,hi,am,δc,hlc,az,S1,hD1,dg,hc⟩;have w:=wk (Nn (Bc ix B O H0 D (kps++acc.zip am)) (Oc ix O)) H1 λp hp=>S1.kep p (Bw _ hp);by_cases hlt:i<ds.length
   ·obtain ⟨go,yl⟩ := w.1 i ds[i] (by simp [hlt])
    rw[Ep hlt] at hc;simp only[ZZ] at hc;cases g1:gg ds[i] (δc++NC nl) with
    |none=>rw[g1] at hc;cases hc
    |some δ3=>
     rw[g1] at hc;simp only[Af] at hc;cases g2:tb δ3 with
     |none=>rw[g2] at hc;cases hc
     |some z=>
      obtain⟨kk,δ4⟩:=z;rw[g2] at hc;simp only[Af] at hc;refine .inr ⟨go,λbh H'=>∃(am:List cO) (δc:Ev),δc.length=ix.length/\bh.length=am.length∧
       aN K (Bb ix.length) (Bc ix B O H0 D (kps++bh.zip am)) (Oc ix O) H' (Y0 ix σ++At nl none) (δc++NC nl)/\H' D=some (.lst bh)/\((pt&&pe)=true->aL H0 H')∧
       ZZ ix.length nl gg tb fe (ds.drop (i+1)) am δc=some (res,δf),λbh H' w'=>⟨ds.length - (i+1),by lia,rfl,hlt,w'⟩,λx H2 hy=>?_⟩
      obtain⟨sm,rx⟩:=yl x H2 hy;refine⟨_,_,_,ds[i],δ3,S1.same sm,rx,g1,λσ3 O3 S3 m3=>?_⟩;have ln3:ix.length<=σ3.length:=by
       by_cases hz:ix.length=0
       ·lia
       ·have hj : ix.length - 1 < ix.length := by lia
        have:=m3 (ix.length - 1) (Cn.mpr hj);have hs:(Y0 ix σ++At nl none)[ix.length - 1]? ≠none:=by rw[Ao (by rw[XV];exact hj)];simp[Y0,hj]
        rw[<-this] at hs;have og:ix.length - 1<σ3.length:=Qr λz=>hs (Kx.mpr z);lia
      have hσ3:=MS ln3 m3;refine⟨hσ3,_,_,δ3,kk,δ4,S3,g2,λH4 R4=>?_⟩;have hD4:H4 D=some (.lst acc):=R4.frm _ _ (sm _ _ hD1) λz=>by obtain⟨j,e⟩:=z;have:=(R4.sta.old j D e).1;exact absurd (.inl (.inr rfl)) this
      have ln4:ix.length<=δ4.length:=by rw[<-R4.sta.len];exact ln3
      cases kk with
      |false=>
       rw[if_neg Dr] at hc;refine M9 ⟨am,δ4.take ix.length,by rw[By];lia,az,R4.sta.turn (i4 _) (XV ix σ) hσ3 ln4,hD4,λz=>?_,hc⟩;exact((dg z).trans sm).trans (R4.pur ((Ae _ _).mp z).1)
      |true=>
       rw[if_pos rfl] at hc;cases g3:fe δ4 with
       |none=>rw[g3] at hc;cases hc
       |some z=>
        obtain⟨dv,δ5⟩:=z;rw[g3] at hc;simp only[Af] at hc;split at hc
        ·rename_i hz
         refine NA ⟨_,_,δ4,dv,δ5,R4.sta,g3,λv H5 R5=>?_⟩;have hD5:H5 D=some (.lst acc):=R5.frm _ _ hD4 λz=>by obtain⟨j,e⟩:=z;have:=(R5.sta.old j D e).1;exact absurd (.inl (.inr rfl)) this
         have ln5:ix.length<=δ5.length:=by rw[<-R5.sta.len];exact ln3
         have S6:=R5.sta.turn (nl:=nl) (i4 _) (XV ix σ) hσ3 ln5;have hv:bB K (Nn (Bc ix B O H0 D (kps++acc.zip am)) (Oc ix O)) H5 (Nn (Bc ix B O H0 D (kps++acc.zip am)) (Oc ix O)) v dv:=by
          have hN:∀a,Nn (Bc ix B O H0 D (kps++acc.zip am)) (Oc ix O) a->av (Bc ix B O H0 D (kps++acc.zip am)) O3 true a:=λa h=>by
           rcases h with h|⟨j,h⟩
           ·exact .inl h
           ·refine .inr ⟨j,?_⟩
            have hj:j∈Bb ix.length:=R5.sta.par.1 j a h;rw[R5.sta.par.2 j hj];exact h
          exact R5.rep.mono hN hN
         have S7:=S6.withKp (kp:=kps++(acc++[v]).zip (am++[dv])) λp hp=>by
          rw[Rr az,<-Ax] at hp;rcases Cq.mp hp with z|z
          ·exact S6.kep p z
          ·rw[Az.mp (show p∈[(v,dv)] from z)]
           exact hv
         refine⟨hD5,by rw[az,Bu];exact hz,am++[dv],δ5.take ix.length,by rw[By];lia,by simp[az],?_,b5,λz=>?_,hc⟩
         ·exact S7.writeZ (.inl (.inr rfl)) hD5 hD
         ·intro b o e
          have hb:b≠D:=λz=>by rw[z,hD] at e;cases e
          rw[bM hb];obtain⟨z1,z2⟩:=(Ae _ _).mp z;exact(((dg z).trans sm).trans ((R4.pur z1).trans (R5.pur z2))) b o e
        ·cases hc
   ·have e : i = ds.length := by lia
    subst e;rw[Gi] at hc;cases hc;refine .inl ⟨w.2,k D H1 ?_⟩;have fP:Fr (OA (Oc ix O)) H0 H1:=S1.frm;have hPO:∀a,OA (Oc ix O) a->OA O a:=λa q0=>by
     obtain⟨j,e⟩:=q0;unfold Oc at e;cases hi:ix[j]? with
     |none=>rw[hi] at e;cases e
     |some i=>rw[hi] at e;exact⟨i,e⟩
    have SL:=S0.unkeep.laid (o:=.lst acc) hD;have fL:Fr (OA (Oc ix O)) (upd H0 D (.lst acc)) H1:=λb o e n=>by
     by_cases hb:b=D
     ·subst hb
      rw[b5] at e;cases e;exact hD1
     ·rw[bM hb] at e
      exact fP b o e n
    refine⟨SL.call (VW) (λi=>?_) fL hPO,f0.trans (fP.mono hPO),λz=>?_,.lst hD1 (T8 az λp hp=>(S1.kep p (Bp _ hp)).mono QS QS),S0.unkeep.new hD,S0.fresh hD⟩
    ·by_cases i5:i<δ1.length
     ·rcases VV (ix:=ix) (ss:=δf) (δ:=δ1) i i5 hlc.symm with⟨j,x,e1,e2,e3⟩|⟨e1,e2⟩
      ·have e4:(δf++NC nl)[j]? =some (.ow x):=by rw[Ao (Ag.mp e2).1];exact e2
       obtain⟨a,e5,_,w⟩:=S1.ow j x e4;refine .inr ⟨a,x,?_,e3,w.mono QS⟩;unfold Oc at e5;rw[e1] at e5;exact e5
      ·refine .inl ⟨e2,λa ea ⟨j,ej⟩ => ?_⟩
       obtain⟨x,ex⟩:=S1.dom j a ej;unfold Oc at ej;cases hi:ix[j]? with
       |none=>rw[hi] at ej;cases ej
       |some i'=>
        rw[hi] at ej;have:i=i':=S0.inj i i' a ea ej;subst this;have hj:j<δf.length:=by rw[hlc];exact(Ag.mp hi).1
        rw[Ao hj] at ex;exact e1 j x hi ex
     ·refine .inl ⟨?_,λa ea => ?_⟩
      ·rw[Cg (by rw[VW];lia),Cg (by lia)]
      ·obtain⟨x,ex⟩:=S0.dom i a ea
       exact absurd (Ag.mp ex).1 i5
    ·simp only[Ae] at z
     exact(p0 z.1.1).trans (dg (by simp[z.1.2,z.2]))
theorem cT{Q:Bool->Hp->Prop}(h:TB K ml true R7 σ H Q):tYes σ H Q:=by obtain⟨B,O,δ,k,δ',S,q,w⟩:=h;cases q;exact w H (BQ.refl S)
theorem K2{Y:Cx}{t:VB}(h:PT Y c (TB K ml pt t)):PTs Y [c] (TB K ml pt t):=Zm h
theorem US{Y:Cx}:PTs Y [] (TB K ml true R7):=λaa s σ H Q I hw=>dQ aa s σ H Q I (cT hw)
theorem Wc{Q:VK}{o:Bool}(h:TX K ml (if o then xO f else xV f) σ H Q):TN K ml pu f σ H Q:=by
 obtain⟨B,O,δ,s,δ',S,q,k⟩:=h;have e:∃d,f δ=some (d,δ')/\s=if o then .ow d else .va d:=by
  cases o with
  |true=>
   have q:(f δ).map (λp=>(Sl.ow p.1,p.2))=some (s,δ'):=q;cases h1:f δ with
   |none=>rw[h1] at q;cases q
   |some p=>rw[h1] at q;cases q;exact⟨p.1,rfl,rfl⟩
  |false=>
   have q:(f δ).map (λp=>(Sl.va p.1,p.2))=some (s,δ'):=q;cases h1:f δ with
   |none=>rw[h1] at q;cases q
   |some p=>rw[h1] at q;cases q;exact⟨p.1,rfl,rfl⟩
 obtain⟨d,h1,hs⟩:=e;refine⟨B,O,δ,d,δ',S,h1,λp H' R=>?_⟩;cases o with
 |true=>
  cases hs;have w:=R.own;cases w with
  |lst q1 r=>exact k _ H' _ (R.sta.keepV (UB r)) (.ol q1 r.length R.nz R.h0) R.frm
  |dct q1 r=>exact k _ H' _ (R.sta.keepV (UB r)) (.od q1 (by simpa using r.length) R.nz R.h0) R.frm
 |false=>
  cases hs;exact k _ H' _ (R.sta.unadd.keepV (ps:=[(.ref p,d)]) λz hz=>by rw[Az.mp hz];exact(R.own.mono SQ).rep R.nz) .va R.frm
theorem AK{i:Nat}{x:VX}{te:TE}(hte:∀σ H Q,TX K ml x σ H Q->te σ H Q)(hm:i∉ml){D:M3}(h:V6 K ml (aD i x) D σ H):tAsg te (D1 i) D σ H:=by
 obtain⟨B,O,δ,o,S,q,k⟩:=h;unfold aD at q;cases h1:x δ with
 |none=>rw[h1] at q;cases q
 |some p=>
  obtain⟨s,δ1⟩:=p;rw[h1] at q;have q:(if i<δ1.length then some (Ou.nx (δ1.set i s)) else none)=some o:=q;split at q
  ·rename_i hl
   cases q;refine hte _ _ _ ⟨B,O,δ,s,δ1,S,h1,λv H' B' S' h' f'=>?_⟩;obtain⟨O'',S''⟩:=h'.bind S' hm hl;exact k _ _ _ S''
  ·cases q
end
abbrev bI(P:As)(w:Uu)(K:Ai)(mg:Us->Option Ul)(base:Uw)(x:Us)(k:Nat)(ps:List Us)(mF:List Nat)(F:aS)(f:Um):Prop:=Def P w K mg base x k ps (spV K mF ps.length F) f
section
variable{X:Cx}{K:Ai}{ml:List Nat}{e a b c:Ut}{es:List Ut}{pa ta ia pb tb ib pc tc ic pu bt bi ps bs:Bool}{fa fb fc f:VF}{B B':Bs}{O:Nat->Option Um}{H H0 H1 H':Hp}{σ:St}{δ δ':Ev}{v:V}{d:cO}{p:Um}{pos:Pos}
theorem bH{x:Us}(hg:Gl X x)(h:∃u v,X.mg x=some u/\bS v u/\∀N H M,bB K N H M v d)(hd:(x==("__debug__":Us))=false:=by decide):PE X (.Name x pos) (TV K ml true true true (fC d)):=by obtain⟨u,v,h1,h2,h3⟩:=h;exact DI (eL hg h1 h2 hd) h3
def Yj(K:Ai):R2:=λx y H Q=>∃a b xs ys,x=.ref a/\y=.ref b/\WF K H a xs/\WF K H b ys/\xs.length+ys.length<=sizeLine∧
 (xs=[]->Q (.ref b) H)/\(xs≠[]->ys=[]->Q (.ref a) H)/\(xs≠[]->ys≠[]->∀p,H p=none->Q (.ref p) (upd H p (.tup (xs++ys))))
theorem iI:W9 X (Fn .Add) (Yj X.K):=by
 intro aa s σ H x y v u Q I rx ry h;obtain⟨a,b,xs,ys,rfl,rfl,ha,hb,hz,q0,q1,q2⟩:=h;cases rx;cases ry;obtain⟨its,r1,p1,_⟩:=I.tuple ha;obtain⟨dh,r2,p2,_⟩:=I.tuple hb;by_cases hx:xs=[]
 ·subst hx
  have e0:its=[]:=r1.nil_iff.mpr rfl;subst e0;obtain⟨⟨cls,dd,data,sl⟩,ho,hc,n,hd⟩:=id p1;obtain⟨⟨ma,dd2,data2,sl2⟩,ho2,hc2,n2,hd2⟩:=id p2;simp only at hc hd hc2 hd2;subst hc hd hc2 hd2;exact Mq ⟨_,ho,rfl⟩ ⟨_,ho2,rfl⟩ Md Oq Im Ib (Hm _ _)
   (tuple_addW0 a b _ dh.toArray n n2 dd dd2 sl sl2 (by simp)) ⟨ho,ho2,⟨.ref b,H,I,rfl,q0 rfl⟩⟩
 ·refine HT.zES p1 p2 (λz => hx (r1.nil_iff.mp z)) (λz => ⟨.ref a,H,I,rfl,q1 hx (r2.nil_iff.mp z)⟩) (λz => ?_) (by rw [<- r1.length,<- r2.length];exact hz)
  refine⟨.ref s.heap.objs.size,_,I.laid (t':=s.toks) (o:=.tup (xs++ys)) (λb ob q=>Ac _ q) (Ap _) ?_,rfl,q2 hx (λw=>z (r2.nil_iff.mpr w)) _ (I.hok.fresh (Ap _))⟩;exact⟨by rw[Cf];exact hz,_,r1.append r2,Ka _ _⟩
def Wo(K:Ai):R2:=λx y H Q=>∃l b xs zs,x=.ref l/\y=.ref b/\X6 K H l xs/\X6 K H b zs/\xs.length+zs.length<=sizeLine/\∀p,H p=none->Q (.ref p) (upd H p (.lst (xs++zs)))
theorem gV:W9 X (Fn .Add) (Wo X.K):=by
 intro aa s σ H x y v u Q I rx ry h;obtain⟨l,b,xs,zs,rfl,rfl,hH,hB,hz,q⟩:=h;cases rx;cases ry;obtain⟨its,r,p1,_⟩:=I.list hH;obtain⟨dh,r2,p2,_⟩:=I.list hB;obtain⟨⟨cls,dd,data,sl⟩,n,ho,hc,_,hd⟩:=id p1;obtain⟨⟨ma,dd2,data2,sl2⟩,n2,ho2,hc2,_,hd2⟩:=id p2;simp only at hc hd hc2 hd2;subst hc hd hc2 hd2;have ea:its.toArray++dh.toArray=(its++dh).toArray:=by simp
 have hl:=r.length;have hl2:=r2.length;refine Mq ⟨_,ho,rfl⟩ ⟨_,ho2,rfl⟩ noFill_list_add seq_list_add PySem.F.slot_list_add PySem.F.entry_list_add (PySem.F.args_list_add_2 _ _) (list_addW l b its.toArray dh.toArray n n2 dd dd2 sl sl2 (by rw[Am,Am,<-hl,<-hl2];exact hz)) ⟨ho,ho2,?_⟩;rw[ea];exact⟨.ref _,_,I.lnew (t':=s.toks) (r.append r2) (by rw[Cf];lia),rfl,q _ I.fresh⟩
def Xl(K:Ai):R2:=λx y H Q=>((GH (λi j=>.int (i+j)) x y H Q∨Yj K x y H Q)∨Wo K x y H Q)∨∃i j,x=.str i/\y=.str j/\i.length+j.length<=sizeLine/\Q (.str (i++j)) H
theorem YE(h:X.K=K):W9 X (Fn .Add) (Xl K):=by subst h;exact((zHL.or iI).or gV).or F8
noncomputable def Z6:cO->cO->Option cO
 |.int i,.int j=>some (.int (i+j))
 |.tup ds,.tup es=>if ds.length+es.length<=16777216 then some (.tup (ds++es)) else none
 |.lst ds,.lst es=>if ds.length+es.length<=16777216 then some (.lst (ds++es)) else none
 |.str x,.str y=>if x.length+y.length<=16777216 then some (.str (x++y)) else none
 |_,_=>none
theorem bB.tupE{N M:Um->Prop}{ds:List cO}(h:bB K N H M v (.tup ds)):∃a xs,v=.ref a/\WF K H a xs/\bY K N H xs ds:=by
 cases h with
 |tup q r=>exact⟨_,_,rfl,q,r⟩
theorem bB.lstE{N M:Um->Prop}{ds:List cO}(h:bB K N H M v (.lst ds)):∃a xs,v=.ref a/\X6 K H a xs/\bY K N H xs ds:=by
 cases h with
 |lst q n r=>exact⟨_,_,rfl,X6.of q,r⟩
 |fzl q r=>exact⟨_,_,rfl,q.sq,r⟩
theorem ZK:OpC K (Xl K) Z6:=by
 intro H N M M' x y d e c Q hx hy h k;cases d with
 |int i=>
  cases e with
  |int j=>
   cases h;cases hx;cases hy;exact .inl (.inl (.inl ⟨_,_,rfl,rfl,k _ _ (aL.refl _) λ_ _=>.int _⟩))
  |_=>cases h
 |str i=>
  cases e with
  |str j=>
   simp only[Z6] at h;split at h
   ·cases h
    cases hx;cases hy;exact .inr ⟨_,_,rfl,rfl,by rw[Bu];assumption,k _ _ (aL.refl _) λ_ _=>.str _⟩
   ·cases h
  |_=>cases h
 |tup ds=>
  cases e with
  |tup es=>
   simp only[Z6] at h;split at h
   ·rename_i hz
    cases h;obtain⟨a,xs,rfl,q1,r1⟩:=hx.tupE;obtain⟨b,ys,rfl,q2,r2⟩:=hy.tupE;refine .inl (.inl (.inr ⟨a,b,xs,ys,rfl,rfl,q1,q2,by rw[r1.length,r2.length,Bu];exact hz,λz=>?_,λz1 z2=>?_,λz1 z2 p hp=>?_⟩))
    ·subst z
     have:ds=[]:=Gh.mp r1.length.symm;subst this;exact k _ _ (aL.refl _) λM hM=>.tup q2 r2
    ·subst z2
     have:es=[]:=Gh.mp r2.length.symm;subst this;rw[Cw] at k;exact k _ _ (aL.refl _) λM hM=>.tup q1 r1
    ·exact k _ _ (cJ hp) λM hM=>.tup (WF.of b5) ((r1.append r2).same (cJ hp))
   ·cases h
  |_=>cases h
 |lst ds=>
  cases e with
  |lst es=>
   simp only[Z6] at h;split at h
   ·rename_i hz
    cases h;obtain⟨a,xs,rfl,q1,r1⟩:=hx.lstE;obtain⟨b,ys,rfl,q2,r2⟩:=hy.lstE;exact .inl (.inr ⟨a,b,xs,ys,rfl,rfl,q1,q2,by rw[r1.length,r2.length,Bu];exact hz,λp hp=>k _ _ (cJ hp) λM hM=>.lst b5 (λz=>by obtain⟨o,q⟩:=hM _ z;rw[hp] at q;cases q) ((r1.append r2).same (cJ hp))⟩)
   ·cases h
  |_=>cases h
 |_=>cases h
def Xk:Ai->R2:=λ_=>rI BK λi j=>.int (i*j)
theorem J7(h:X.K=K):W9 X (Fn .Mult) (Xk K):=Zz
noncomputable abbrev OC:=oMul
theorem PC:OpC K (Xk K) OC:=by intro H N M M' x y d e c Q hx hy h k;exact kP H N N M M' x y d e c Q hx hy h λv hv=>k v H (aL.refl _) λM _=>hv _ _ _
noncomputable def V9:cO->Option aG
 |.int i=>some (.inl i)
 |.str x=>some (.inr x)
 |_=>none
theorem bB.key{N M:Um->Prop}{k:aG}(h:bB K N H M v d)(e:V9 d=some k):v=kV k:=by
 cases h<;>first
  |(cases e;rfl)
  |cases e
noncomputable def aU(ks:List aG)(ds:List cO)(k:aG):Option cO:=match ks,ds with
 |k'::ks,d::ds=>if k'=k then some d else aU ks ds k
 |_,_=>none
theorem RL{N:Um->Prop}{k:aG}:∀{kvs:List (aG×V)} {ds:List cO},bY K N H (kvs.map Er) ds->(∃v d,TM kvs k=some v/\aU (kvs.map Dj) ds k=some d/\bB K N H N v d)∨(TM kvs k=none/\aU (kvs.map Dj) ds k=none)
 |[],_,.nil=>.inr ⟨rfl,rfl⟩
 | (k',v) :: kvs,_,.cons h t => by
  by_cases hk:k'=k
  ·refine .inl ⟨v,_,RZ (p:=(k',v)) hk,?_,h⟩
   simp[aU,hk]
  ·rcases RL (k:=k) t with⟨v',d',h1,h2,h3⟩|⟨h1,h2⟩
   ·exact .inl ⟨v',d',(UR (p:=(k',v)) hk).trans h1,by simpa[aU,hk] using h2,h3⟩
   ·exact .inr ⟨(UR (p:=(k',v)) hk).trans h1,by simpa[aU,hk] using h2⟩
theorem Zd(hu:X.A.units+1<cLine):BN X (λx y H Q=>∃a v,x=.ref a/\QD H a y (some v)/\Q v H):=by intro value slice aa s σ H x y v u Q I rx ry h hs;obtain⟨a,w,rfl,g,q⟩:=h;cases rx;exact Tc (HC I g) PySem.F.slot_dict_getitem.lookup (B0 hu I g ry λw' s3 I3 rw'=>⟨w,H,I3,rw',q⟩) hs
def rIxA(K:Ai):R2:=λx y H Q=>(rIx K x y H Q∨∃a v,x=.ref a/\QD H a y (some v)/\Q v H)∨∃a k D v,x=.ref a/\y=.str k/\KTab K a D/\Ft k D=some v/\Q v H
theorem kIxA(h:X.K=K)(hu:X.A.units+1<cLine):BN X (rIxA K):=by subst h;exact(zIR.or (Zd hu)).or kZ
noncomputable def bJ:cO->cO->Option cO
 |.tup ds,.int i=>U3 ds i
 |.lst ds,.int i=>U3 ds i
 |.dct ks ds,e=>(V9 e).bind (aU ks ds)
 |.str z,.int i=>if z.length<=16777216 then(U3 z.cps.toList i).map λc=>.str ⟨#[c]⟩ else none
 |_,_=>none
theorem QH{N:Um->Prop}{k:Us}:∀{D:List (Us×V)} {ds:List cO},bY K N H (D.map Er) ds->(∃v d,Ft k D=some v/\aU (D.map λp=>.inr p.1) ds (.inr k)=some d/\bB K N H N v d)∨(Ft k D=none/\aU (D.map λp=>.inr p.1) ds (.inr k)=none)
 |[],_,.nil=>.inr ⟨rfl,rfl⟩
 | (k',v) :: D,_,.cons h t => by
  by_cases hk:k'=k
  ·subst hk
   exact .inl ⟨v,_,by simp[Ft],by simp[aU],h⟩
  ·have hk2 : ¬ k = k' := λz => hk z.symm
   rcases QH (k:=k) t with⟨v',d',h1,h2,h3⟩|⟨h1,h2⟩
   ·exact .inl ⟨v',d',by simpa[Ft,hk,hk2] using h1,by simpa[aU,hk] using h2,h3⟩
   ·exact .inr ⟨by simpa[Ft,hk,hk2] using h1,by simpa[aU,hk] using h2⟩
theorem HU{i:Int}:∀{D:List (Us×V)} {ds:List cO},aU (D.map λp=>.inr p.1) ds (.inl i)=none
 |[],_=>by simp[aU]
 |_::_,[]=>by simp[aU]
 |p::D,d::ds=>by simpa[aU] using HU (D:=D) (ds:=ds)
theorem lK:OpI K (rIxA K) bJ:=by
 intro H N N' M M' x y d e c Q hx hy h k;have seq:∀ds i,YH d=some ds->e=.int i->U3 ds i=some c->rIxA K x y H Q:=λds i h1 h2 h3=>by
  subst h2;cases hy;obtain⟨a,xs,rfl,sq,r⟩:=hx.seq h1;obtain⟨v,hv,rv⟩:=gZ r h3;rcases sq with sq|sq
  ·exact .inl (.inl (.inl ⟨a,xs,i,v,rfl,rfl,sq,hv,k v rv⟩))
  ·exact .inl (.inl (.inr (.inl ⟨a,xs,i,v,rfl,rfl,sq,hv,k v rv⟩)))
 cases d with
 |tup ds=>
  cases e with
  |int i=>exact seq ds i rfl rfl h
  |_=>cases h
 |lst ds=>
  cases e with
  |int i=>exact seq ds i rfl rfl h
  |_=>cases h
 |str z=>
  cases e with
  |int i=>
   simp only[bJ] at h;split at h
   ·cases hc:U3 z.cps.toList i with
    |none=>rw[hc] at h;cases h
    |some ch=>
     rw[hc] at h;cases h;cases hx;cases hy;exact .inl (.inl (.inr (.inr ⟨z,i,ch,rfl,rfl,by rw[Bu];assumption,hc,k _ (.str _)⟩)))
   ·cases h
  |_=>cases h
 |dct ks ds=>
  simp only[bJ] at h;cases hk:V9 e with
  |none=>rw[hk] at h;cases h
  |some kk=>
   rw[hk] at h;have h:aU ks ds kk=some c:=h;have ey:=hy.key hk;subst ey;cases hx with
   |dct q n r=>
    rcases RL (k:=kk) r with⟨v,d',h1,h2,h3⟩|⟨h1,h2⟩
    ·rw[h] at h2
     cases h2;exact .inl (.inr ⟨_,v,rfl,h1▸QD.k q,k v h3⟩)
    ·rw[h] at h2;cases h2
   |ktb T r=>
    cases kk with
    |inl i=>rw[HU] at h;cases h
    |inr x=>
     rcases QH (k:=x) r with⟨v,d',h1,h2,h3⟩|⟨h1,h2⟩
     ·rw[h] at h2
      cases h2;exact .inr ⟨_,x,_,v,rfl,rfl,T,h1,k v h3⟩
     ·rw[h] at h2;cases h2
 |_=>cases h
noncomputable def XN(δ:Ev)(i:Nat):Option (List aG×List cO):=match δ[i]? with
 |some (.ow (.dct ks ds))=>some (ks,ds)
 |_=>none
theorem T6{i:Nat}{ks:List aG}{ds:List cO}(h:XN δ i=some (ks,ds)):δ[i]?=some (.ow (.dct ks ds)):=by
 unfold XN at h;split at h
 ·cases h;assumption
 ·cases h
noncomputable def J1(i:Nat)(fk fx:VF):VF:=λδ=>(XN δ i).bind λ_=>(fk δ).bind λp=>(fx p.2).bind λq=>(V9 p.1).bind λk=>(XN q.2 i).map λz=>((aU z.1 z.2 k).getD q.1,q.2)
theorem AR{i:Nat}{fk fx:VF}{ao af:Pos}(hu:X.A.units+1<cLine)(ho:PE X a (KZ i))(hk:PE X b (TV K ml pa ta ia fk))(hx:PE X c (TV K ml pb true true fx))(m:M2 X a "get" ao b c af):
  PE X (.Call (.Attribute a "get" ao) [b,c] [] af) (TV K ml (pa&&pb) true true (J1 i fk fx)):=(nE hu ho hk hx m).imp λσ H Q ⟨B,O,δ,d,δ3,S,q,k⟩=>by
 unfold J1 at q;cases h0:XN δ i with
 |none=>rw[h0] at q;cases q
 |some z0=>
  obtain⟨ks0,ds0⟩:=z0;rw[h0] at q;cases h1:fk δ with
  |none=>simp[h1] at q
  |some p1=>
   obtain⟨y,δ1⟩:=p1;simp only[Af,h1] at q;cases h2:fx δ1 with
   |none=>simp[h2] at q
   |some p2=>
    obtain⟨z,δ2⟩:=p2;simp only[Af,h2] at q;cases h3:V9 y with
    |none=>simp[h3] at q
    |some kk=>
     simp only[Af,h3] at q;cases h4:XN δ2 i with
     |none=>simp[h4] at q
     |some zz=>
      obtain⟨ks,ds⟩:=zz;simp only[h4] at q;cases q;obtain⟨l,e1,e2,w⟩:=S.ow i _ (T6 h0);refine⟨.ref l,e2,l,rfl,?_,B,O,δ,y,δ1,S,h1,λv1 H1 R1=>⟨B,O,δ1,z,_,R1.sta,h2,λv2 H2 R2=>?_⟩⟩
      ·generalize hw:cO.dct ks0 ds0=dd at w
       cases w with
       |lst _ _=>cases hw
       |dct q _=>exact .inl ⟨_,.inl q⟩
      ·have ey:=R1.rep.key h3
       subst ey;obtain⟨l',e3,_,w2⟩:=R2.sta.ow i _ (T6 h4);rw[e1] at e3;cases e3;have fin:∀o,bB K (Nn B O) H2 (Nn B O) (o:V) ((aU ks ds kk).getD z)->Q o H2:=λo ho=>k o H2 ⟨R2.sta,R1.frm.trans R2.frm,λz=>by obtain⟨z1,z2⟩:=(Ae _ _).mp z;exact(R1.pur z1).trans (R2.pur z2),ho⟩
       generalize hw:cO.dct ks ds=dd at w2;cases w2 with
       |lst _ _=>cases hw
       |dct q r=>
        cases hw;refine⟨_,QD.k q,fin _ ?_⟩;rcases RL (k:=kk) r with⟨v,d',g1,g2,g3⟩|⟨g1,g2⟩
        ·rw[g1,g2];exact g3
        ·rw[g1,g2];exact R2.rep
noncomputable def YF:List aG->List cO->aG->cO->List aG×List cO
 |k'::ks,d::ds,k,v=>if k'=k then(k'::ks,v::ds) else let r:=YF ks ds k v;(k'::r.1,d::r.2)
 |_,_,k,v=>([k],[v])
noncomputable def IP(i:Nat)(fk fv:VF):VS:=λδ=>(fv δ).bind λp=>(XN p.2 i).bind λ_=>(fk p.2).bind λq=>(V9 q.1).bind λk=>(XN q.2 i).bind λz=>if z.1.length<16777216/\z.1.Nodup then some (.nx (q.2.set i (.ow (let r:=YF z.1 z.2 k p.1;.dct r.1 r.2)))) else none
theorem MH{N:Um->Prop}{k:aG}{v:V}(h:bB K N H N v d):∀{kvs:List (aG×V)} {ds:List cO},(kvs.map Dj).Nodup->bY K N H (kvs.map Er) ds->(XO kvs k v).map Dj=(YF (kvs.map Dj) ds k d).1/\bY K N H ((XO kvs k v).map Er) (YF (kvs.map Dj) ds k d).2
 |[],_,_,.nil=>⟨rfl,.cons h .nil⟩
 | (k',u) :: kvs,_,nd,.cons hu t => by
  obtain⟨n1,n2⟩:=Cs.mp nd;by_cases hk:k'=k
  ·subst hk
   have e:XO ((k',u)::kvs) k' v=(k',v)::kvs:=by unfold XO;rw[if_pos (by simp)];simp only[Ay,if_true];congr 1;refine(Kf λp hp=>?_).trans (List.map_id _);have:p.1≠k':=λz=>n1 (Cz.mpr ⟨p,hp,z⟩);simp[this]
   rw[e];exact⟨by simp[YF],by simpa[YF] using bY.cons h t⟩
  ·obtain⟨h1,h2⟩:=MH (k:=k) h n2 t
   have e:XO ((k',u)::kvs) k v=(k',u)::XO kvs k v:=by
    unfold XO;simp only[Jr,hk,decide_false,Tf];split
    ·simp[hk]
    ·rfl
   rw[e];exact⟨by simpa[YF,hk] using h1,by simpa[YF,hk] using bY.cons hu h2⟩
theorem KP{N:Um->Prop}{l:Um}{o:HO}{xs:List V}{ds:List cO}{kvs:List (aG×V)}(ho:H l=some (.dK kvs))(hN:N l)(h:bY K N H xs ds):bY K N (upd H l o) xs ds:=
 h.fr (P:=λb=>b=l) (λb u q n=>by
  by_cases hb:b=l
  ·subst hb
   rw[ho] at q;cases q;exact absurd (n rfl) λz=>z
  ·rw[bM hb]
   exact q) λa z=>z▸hN
theorem FF{i:Nat}{fk fv:VF}{ci:Pos}(hu:X.A.units+1<cLine)(ho:PE X a (KZ i))(hk:PE X b (TV K ml pa ta ia fk))(hv:PE X c (TV K ml pb true true fv))(hs:Vb c (some (.Subscript a b ci)) pos.line X.env=pure false):
  PS X (.Assign [.Subscript a b ci] c pos) (V6 K ml (IP i fk fv)):=(kQ hu ho hk hv hs).imp λD σ H ⟨B,O,δ,o,S,q,k⟩=>by
 unfold IP at q;cases h1:fv δ with
 |none=>rw[h1] at q;cases q
 |some p1=>
  obtain⟨z,δ1⟩:=p1;rw[h1] at q;have q:((XN δ1 i).bind λ_=>(fk δ1).bind λq=>(V9 q.1).bind λk=>(XN q.2 i).bind λz_1=>if z_1.1.length<16777216/\z_1.1.Nodup then some (Ou.nx (q.2.set i (.ow (let r:=YF z_1.1 z_1.2 k z;.dct r.1 r.2)))) else none)=some o:=q;cases h0:XN δ1 i with
  |none=>rw[h0] at q;cases q
  |some z0=>
  obtain⟨ks0,ds0⟩:=z0;rw[h0] at q;cases h2:fk δ1 with
  |none=>simp[h2] at q
  |some p2=>
   obtain⟨y,δ2⟩:=p2;simp only[Af,h2] at q;cases h3:V9 y with
   |none=>simp[h3] at q
   |some kk=>
    simp only[Af,h3] at q;cases h4:XN δ2 i with
    |none=>simp[h4] at q
    |some zz=>
     obtain⟨ks,ds⟩:=zz;simp only[h4,Af] at q;split at q
     ·rename_i hz
      cases q;refine⟨B,O,δ,z,δ1,S,h1,λv1 H1 R1=>?_⟩;obtain⟨l,e1,e2,_⟩:=R1.sta.ow i _ (T6 h0);refine⟨.ref l,e2,B,O,δ1,y,δ2,R1.sta,h2,λv2 H2 R2=>?_⟩;have ey:=R2.rep.key h3;subst ey;obtain⟨l',e3,_,w2⟩:=R2.sta.ow i _ (T6 h4);rw[e1] at e3;cases e3;generalize hw:cO.dct ks ds=dd at w2;cases w2 with
      |lst _ _=>cases hw
      |dct qd r=>
       cases hw;have rv:=R1.rep.fr R2.frm (λa z=>.inr z) λa z=>.inr z;obtain⟨g1,g2⟩:=MH (k:=kk) rv hz.2 r;refine⟨l,_,rfl,DPut.k qd (by rw[Bu];simpa using hz.1),k σ _ O (R2.sta.wrote e1 (λz=>z) ?_)⟩;have w:O8 K (Nn B O) (upd H2 l (.dK (XO _ kk v1))) l (.dct ((XO _ kk v1).map Dj) _):=.dct b5 (KP qd (.inr ⟨i,e1⟩) g2);rw[g1] at w;exact w
     ·cases q
end
section
variable{X:Cx}{K:Ai}{ml:List Nat}{e a b c:Ut}{es:List Ut}{pa ta ia pb tb ib pc tc ic pu bt bi ps bs:Bool}{fa fb fc f:VF}{B B':Bs}{O:Nat->Option Um}{H H0 H1 H':Hp}{σ:St}{δ δ':Ev}{v:V}{d:cO}{p:Um}{pos:Pos}
def jH(i j k:Nat)(ta:TA):TS:=λD σ H=>ta σ H λvs H1=>∃v w u,vs=[v,w,u]/\D.nx (((σ.set i (some v)).set j (some w)).set k (some u)) H1
theorem jO{i j k:Nat}{x y z:Us}{a b c:Ut}{ta:TA}{px py pz pt:Pos}{kt k2 pt2}(hc:X.calm=true)(hN:X.N.Nodup)(hi:X.N[i]?=some x)(hj:X.N[j]?=some y)(hk:X.N[k]?=some z)(hij:i≠j)(hik:i≠k)(hjk:j≠k)(hx:X.env.scope.names.lookup x=some .local)(hy:X.env.scope.names.lookup y=some .local)(hz:X.env.scope.names.lookup z=some .local)(ha:PA X [a,b,c] ta)(hw:Gg [.Tuple [.Name x px,.Name y py,.Name z pz] kt pt] (.Tuple [a,b,c] k2 pt2) X.env=pure (some [x,y,z]))(hs:Gf [.Tuple [.Name x px,.Name y py,.Name z pz] kt pt] (.Tuple [a,b,c] k2 pt2) pos.line X.env=pure false:=by rfl):PS X (.Assign [.Tuple [.Name x px,.Name y py,.Name z pz] kt pt] (.Tuple [a,b,c] k2 pt2) pos) (jH i j k ta):=by
 intro aa s σ H D I h;rw[exec_Assign_arm];refine Aa (Fm ?_);rw[hs];refine Aa (Ah ?_);rw[if_neg (by decide)];refine Aa (Tuple_ (ZD (ha _ aa s σ H _ I h) λus s1 ⟨vs,H1,I1,r1,q1⟩=>?_));obtain⟨v,w,u,e1,q1⟩:=q1;subst e1;obtain⟨u1,u2,u3,rfl,rv,rw',ru⟩:∃u1 u2 u3,us=[u1,u2,u3]/\bS v u1/\bS w u2/\bS u u3:=by
  cases r1 with
  |cons p q=>
   cases q with
   |cons p' q'=>
    cases q' with
    |cons p'' q''=>
     cases q'';exact⟨_,_,_,rfl,p,p',p''⟩
 refine Df ?_ (by show 3<=sizeLine;decide);have I2:b9 X aa σ H1 {s1 with heap:=s1.heap.push {cls:=.type "tuple",data:=.seq [u1,u2,u3].toArray}}:=I1.kept (t':=s1.toks) λb o e=>Ac _ e;rw[hw];refine Aa (Ah ?_);show Uq (Ur X.prog X.w) X.A (do rule "assign.swapped-stores";let items<-Jz (.ref s1.heap.objs.size) 3 none;Ve [λv=>Je X.env z v,λv=>Je X.env y v,λv=>Je X.env x v] items.reverse;pure Flow.next) _ _ _;refine Aa (Ir (Aa (Pn (items:= #[u1,u2,u3]) (I.ok.hd hc) (Ka s1.heap _) λh' hx'=>?_)));have I3:=I2.kept (h':=h') (t':=s1.toks) λb o e=>hx' b o (Au (Aj e)) e;show Uq _ _ (Ve [λv=>Je X.env z v,λv=>Je X.env y v,λv=>Je X.env x v] [u3,u2,u1]>>=λ_=>pure Flow.next) _ _ _;refine Aa (Ed (Jf (YY I3 hN hk (.inl hz) ru (λs2 I4=>?_) (.inr hz))));refine Ed (Jf (YY I4 hN hj (.inl hy) rw' (λs3 I5=>?_) (.inr hy)));refine Ed (Jf (YY I5 hN hi (.inl hx) rv (λs4 I6=>Iq (Ah ?_)) (.inr hx)));rw[Eo _ _ (Dm hij),Eo _ _ (Dm hik),Eo _ _ (Dm hjk)] at I6;exact⟨_,H1,I6,q1⟩
noncomputable def OL(i j k:Nat)(x y z:VX):VS:=λδ=>(x δ).bind λp=>(y p.2).bind λq=>(z q.2).bind λr=>if i<r.2.length/\j<r.2.length/\k<r.2.length then some (.nx (((r.2.set k r.1).set j q.1).set i p.1)) else none
theorem MK{i j k:Nat}{x y z:VX}{o:Ou}(h:OL i j k x y z δ=some o):∃s1 δ1 s2 δ2 s3 δ3,x δ=some (s1,δ1)/\y δ1=some (s2,δ2)/\z δ2=some (s3,δ3)/\(i<δ3.length/\j<δ3.length/\k<δ3.length)/\o=.nx (((δ3.set k s3).set j s2).set i s1):=by
 unfold OL at h;cases h1:x δ with
 |none=>rw[h1] at h;cases h
 |some p=>
  rw[h1] at h;cases h2:y p.2 with
  |none=>simp[h2] at h
  |some q=>
   simp only[Af,h2] at h;cases h3:z q.2 with
   |none=>simp[h3] at h
   |some r=>
    simp only[Af,h3] at h;split at h
    ·cases h
     exact⟨p.1,p.2,q.1,q.2,r.1,r.2,rfl,h2,h3,by assumption,rfl⟩
    ·cases h
theorem Zo{i j k:Nat}{x y z:Us}{fx fy fz:VX}{px py pz pt:Pos}{kt k2 pt2}(hc:X.calm=true)(hN:X.N.Nodup)(hi:X.N[i]?=some x)(hj:X.N[j]?=some y)(hk:X.N[k]?=some z)(hij:i≠j)(hik:i≠k)(hjk:j≠k)(hx:X.env.scope.names.lookup x=some .local)(hy:X.env.scope.names.lookup y=some .local)(hz:X.env.scope.names.lookup z=some .local)(ha:PE X a (TX K ml fx))(hb:PE X b (TX K ml fy))(hcc:PE X c (TX K ml fz))(hw:Gg [.Tuple [.Name x px,.Name y py,.Name z pz] kt pt] (.Tuple [a,b,c] k2 pt2) X.env=pure (some [x,y,z]))(hmi:i∉ml:=by decide)(hmj:j∉ml:=by decide)(hmk:k∉ml:=by decide)(hs:Gf [.Tuple [.Name x px,.Name y py,.Name z pz] kt pt] (.Tuple [a,b,c] k2 pt2) pos.line X.env=pure false:=by rfl)(he:Uo (a::[b,c]) X.env=(false,eval a X.env)::Uo [b,c] X.env:=by rfl)(he2:Uo (b::[c]) X.env=(false,eval b X.env)::Uo [c] X.env:=by rfl)(he3:Uo (c::[]) X.env=(false,eval c X.env)::Uo [] X.env:=by rfl):
  PS X (.Assign [.Tuple [.Name x px,.Name y py,.Name z pz] kt pt] (.Tuple [a,b,c] k2 pt2) pos) (V6 K ml (OL i j k fx fy fz)):=(jO hc hN hi hj hk hij hik hjk hx hy hz (bD ha (bD hb (bD hcc ZO he3) he2) he) hw hs).imp λD σ H ⟨B,O,δ,o,S,q,k⟩=>by
 obtain⟨s1,δ1,s2,δ2,s3,δ3,h1,h2,h3,hl,rfl⟩:=MK q;refine⟨B,O,δ,s1,δ1,S,h1,λv H1 B1 S1 w1 f1=>⟨B1,O,δ1,s2,δ2,S1,h2,λv2 H2 B2 S2 w2 f2=>⟨B2,O,δ2,s3,δ3,S2,h3,λv3 H3 B3 S3 w3 f3=>⟨v,v2,v3,rfl,?_⟩⟩⟩⟩;obtain⟨O4,S4⟩:=w3.bind S3 hmk hl.2.2;obtain⟨O5,S5⟩:=(w2.fr f3).bind S4 hmj (by rw[Bz];exact hl.2.1);obtain⟨O6,S6⟩:=((w1.fr f2).fr f3).bind S5 hmi (by rw[Bz,Bz];exact hl.1);rw[Eo _ _ (Dm hij),Eo _ _ (Dm hik),Eo _ _ (Dm hjk)] at S6;exact k _ _ _ S6
theorem eY{i j k:Nat}{x y z:Us}{fx fy fz:VX}{px py pz pt:Pos}{kt k2 pt2}(hK:X.K=K)(hc:X.calm=true)(hN:X.N.Nodup)(hi:X.N[i]?=some x)(hj:X.N[j]?=some y)(hk:X.N[k]?=some z)(hij:i≠j)(hik:i≠k)(hjk:j≠k)(hx:BO X.env.scope x)(hy:BO X.env.scope y)(hz:BO X.env.scope z)(ha:PE X a (TX K ml fx))(hb:PE X b (TX K ml fy))(hcc:PE X c (TX K ml fz))(hmi:i∉ml:=by decide)(hmj:j∉ml:=by decide)(hmk:k∉ml:=by decide)(hs:Gf [.Tuple [.Name x px,.Name y py,.Name z pz] kt pt] (.Tuple [a,b,c] k2 pt2) pos.line X.env=pure false:=by rfl)(hw:Gg [.Tuple [.Name x px,.Name y py,.Name z pz] kt pt] (.Tuple [a,b,c] k2 pt2) X.env=pure none:=by rfl)(hn:(Uv [.Name x px,.Name y py,.Name z pz] X.env).length=3:=by rfl)(hst:(Uv [.Name x px,.Name y py,.Name z pz] X.env).findIdx? (·.1)=none:=by rfl)(g1:(Uv [.Name x px,.Name y py,.Name z pz] X.env).map (·.2)=Hv (.Name x px) X.env::(Uv [.Name y py,.Name z pz] X.env).map (·.2):=by rfl)(g2:(Uv [.Name y py,.Name z pz] X.env).map (·.2)=Hv (.Name y py) X.env::(Uv [.Name z pz] X.env).map (·.2):=by rfl)(g3:(Uv [.Name z pz] X.env).map (·.2)=Hv (.Name z pz) X.env::(Uv [] X.env).map (·.2):=by rfl)(fx':X.fn x=true∨X.env.scope.names.lookup x=some .local:=by first|exact .inl rfl|exact .inr rfl|assumption)(fy':X.fn y=true∨X.env.scope.names.lookup y=some .local:=by first|exact .inl rfl|exact .inr rfl|assumption)(fz':X.fn z=true∨X.env.scope.names.lookup z=some .local:=by first|exact .inl rfl|exact .inr rfl|assumption)(h1:(Uv [.Tuple [.Name x px,.Name y py,.Name z pz] kt pt] X.env).map (·.2)=[Hv (.Tuple [.Name x px,.Name y py,.Name z pz] kt pt) X.env]:=by rfl)(he:Uo (a::[b,c]) X.env=(false,eval a X.env)::Uo [b,c] X.env:=by rfl)(he2:Uo (b::[c]) X.env=(false,eval b X.env)::Uo [c] X.env:=by rfl)(he3:Uo (c::[]) X.env=(false,eval c X.env)::Uo [] X.env:=by rfl):PS X (.Assign [.Tuple [.Name x px,.Name y py,.Name z pz] kt pt] (.Tuple [a,b,c] k2 pt2) pos) (V6 K ml (OL i j k fx fy fz)):=
 (GF (Ym (bD ha (bD hb (bD hcc ZO he3) he2) he)) (Yt (K:=K) hK hc (RS (PQ hN hi hx fx') (RS (PQ hN hj hy fy') (RS (PQ hN hk hz fz') EK g3) g2) g1) hn hst) hs hw h1).imp λD σ H q0=>by obtain⟨B,O,δ,o,S,q,k⟩:=q0;obtain⟨s1,δ1,s2,δ2,s3,δ3,h1,h2,h3,hl,rfl⟩:=MK q;refine⟨B,O,δ,s1,δ1,S,h1,λv H1 B1 S1 w1 f1=>⟨B1,O,δ1,s2,δ2,S1,h2,λv2 H2 B2 S2 w2 f2=>⟨B2,O,δ2,s3,δ3,S2,h3,λv3 H3 B3 S3 w3 f3=>⟨(by show 3<=sizeLine;decide),λp hp=>⟨p,_,rfl,WF.of b5,rfl,v,_,rfl,v2,_,rfl,v3,_,rfl,rfl,?_⟩⟩⟩⟩⟩;have f4:Fr (OA O) H3 (upd H3 p (.tup [v,v2,v3])):=(cJ hp).fr;obtain⟨O4,S4⟩:=(w3.fr f4).bind (S3.same (cJ hp)) hmk hl.2.2;obtain⟨O5,S5⟩:=((w2.fr f3).fr f4).bind S4 hmj (by rw[Bz];exact hl.2.1);obtain⟨O6,S6⟩:=(((w1.fr f2).fr f3).fr f4).bind S5 hmi (by rw[Bz,Bz];exact hl.1);rw[Eo _ _ (Dm hij),Eo _ _ (Dm hik),Eo _ _ (Dm hjk)] at S6;exact k _ _ _ S6
def rIsB(neg:Bool):R2:=λx y H Q=>∃k,y=.bl k/\Q (.bl (if neg then !decide (x=.bl k) else decide (x=.bl k))) H
theorem kK:W9 X (Cr .Is) (rIsB false):=by
 intro aa s σ H x y v u Q I rx ry h;obtain⟨k,rfl,q⟩:=h;cases ry;have e:(v==Gj k)=decide (x=V.bl k):=by
  cases x<;>first
   |(cases rx;first|rfl|(rename_i z;cases z<;>cases k<;>rfl))
   |(obtain⟨t,rfl⟩:=rx;rfl)
 exact wpAny_is_plain (by cases x<;>first|(cases rx;cases k<;>rfl)|(obtain⟨t,rfl⟩:=rx;cases k<;>rfl)) (by rw[e];exact⟨.bl _,H,I,rfl,q⟩)
theorem KJ:W9 X (Cr .IsNot) (rIsB true):=by
 intro aa s σ H x y v u Q I rx ry h;obtain⟨k,rfl,q⟩:=h;cases ry;have e:(v==Gj k)=decide (x=V.bl k):=by
  cases x<;>first
   |(cases rx;first|rfl|(rename_i z;cases z<;>cases k<;>rfl))
   |(obtain⟨t,rfl⟩:=rx;rfl)
 exact wpAny_isNot_plain (by cases x<;>first|(cases rx;cases k<;>rfl)|(obtain⟨t,rfl⟩:=rx;cases k<;>rfl)) (by rw[e];exact⟨.bl _,H,I,rfl,q⟩)
noncomputable def isBl(k:Bool):cO->Bool
 |.bl x=>x==k
 |_=>false
noncomputable def oIsB:cO->cO->Option cO
 |d,.bl k=>some (.bl (isBl k d))
 |_,_=>none
noncomputable def S9:cO->cO->Option cO
 |d,.bl k=>some (.bl (!isBl k d))
 |_,_=>none
theorem EY{N M:Um->Prop}{k:Bool}(h:bB K N H M v d):decide (v=V.bl k)=isBl k d:=by
 cases h<;>simp[isBl];rename_i b;cases b<;>cases k<;>rfl
theorem eP:QF K (rIsB false) oIsB:=by
  intro H N N' M M' x y d e c Q hx hy h k;cases hy<;>first
    | (cases h
       refine⟨_,rfl,?_⟩;simp only[Eu,if_false];rw[EY hx];exact k _ λ_ _ _=>.bl _)
    |(simp[oIsB] at h)
theorem GO:QF K (rIsB true) S9:=by
  intro H N N' M M' x y d e c Q hx hy h k;cases hy<;>first
    | (cases h
       refine⟨_,rfl,?_⟩;simp only[if_true];rw[EY hx];exact k _ λ_ _ _=>.bl _)
    |(simp[S9] at h)
end
section
variable{prog:As}{w:Uu}{A:Bt}{E:Ul->Ad->Prop}{s:Ad}
theorem SY{it t:Um}{i:Nat}{items:Array Ul}{x:Ul}{Q:Ul->Ad->Prop}(hit:s.heap.IsTupleIter it t i)(ht:s.heap.IsTuple t items)(hx:items[i]?=some x)(hQ:∀h',h'.IsTupleIter it t (i+1)->Fl it s.heap h'->Q x {s with heap:=h'}):Uq (Ur prog w) A (Br (.ref it)) Q E s:=by obtain⟨oi,g1,c1,d1⟩:=id hit;obtain⟨ot,g2,_,nt,d2⟩:=ht;unfold Br;refine Aa (Di (name:=Bf "__next__") hit.typeIs Fi (El Fi hit.typeIs Kg ?_ (Js _)));show Uq _ _ (field (Ba it) 0>>=_) _ _ s;refine Aa (Eh g1 d1 (x:=.ref t) rfl ?_);show Uq _ _ (if(Ba t== .none)=true then _ else _) _ _ s;rw[if_neg (show¬(Ba t==Value.none)=true from Dr)];show Uq _ _ (field (Ba it) 1>>=_) _ _ s;refine Aa (Eh g1 d1 (x:=.int i 0) rfl ?_);show Uq _ _ (seqItems? (Ba t)>>=_) _ _ s;refine Aa (Ez g2 d2 ?_);simp only[hx,Iu];refine Aa (wpAny_setField g1 d1 (by simp) (Ah ⟨x,rfl,Ah (hQ _ ⟨_,Jl _ g1 (Obj.isFreed_of_fields (Ow d1 _)),(Obj.cls_mapFields ..).trans c1,?_⟩ (Nz ..))⟩));rw[Ow d1];simp[rawInt]
theorem RM{it t:Um}{i:Nat}{items:Array Ul}{Q:Ul->Ad->Prop}(hh:A.handled=none)(hit:s.heap.IsTupleIter it t i)(ht:s.heap.IsTuple t items)(hx:items[i]?=none)(hE:∀h' e,Ke it s.heap h'->(∃o,h'.get? e=some o/\o.cls=.type "StopIteration")->E (.ref e) {s with heap:=h'}):Uq (Ur prog w) A (Br (.ref it)) Q E s:=by
 obtain⟨oi,g1,c1,d1⟩:=id hit;obtain⟨ot,g2,_,nt,d2⟩:=ht;unfold Br;refine Aa (Di (name:=Bf "__next__") hit.typeIs Fi (El Fi hit.typeIs Kg ?_ (Js _)));show Uq _ _ (field (Ba it) 0>>=_) _ _ s;refine Aa (Eh g1 d1 (x:=.ref t) rfl ?_);show Uq _ _ (if(Ba t== .none)=true then _ else _) _ _ s;rw[if_neg (show¬(Ba t==Value.none)=true from Dr)];show Uq _ _ (field (Ba it) 1>>=_) _ _ s;refine Aa (Eh g1 d1 (x:=.int i 0) rfl ?_);show Uq _ _ (seqItems? (Ba t)>>=_) _ _ s;refine Aa (Ez g2 d2 ?_);simp only[hx,Iu];refine Aa (Ir (Aa (wpAny_setField g1 d1 (by simp) ?_)));show Uq _ _ (newExc (Kz "StopIteration") []>>=_) _ _ _;refine Aa ?_;unfold newExc newTuple;refine Aa (Df ?_ (by size_fits));refine Aa (m:=firstArgMember _ _) (wpAny_of_eq (a:=Value.none) (by first|rfl|(unfold firstArgMember;rfl)) (Df ?_ (by size_fits)));unfold raiseNew;refine Aa (wpAny_handled ?_);first|rw[hh]|rw[show A.in1.handled=none from hh]
 refine Aa (Ah (wpAny_throw (hE _ _ (((Nz ..).extBut.push _).push _) ⟨_,Aq _ rfl,rfl⟩)))
end
theorem B5{prog:As}{w:Uu}{A:Bt}(hh:A.handled=none)(it t:Um)(hne:t≠it)(items:Array Ul):
  Draws prog w A it [it,t] items.size (λi v=>items[i]?=some v) (λi h=>h.IsTupleIter it t i/\h.IsTuple t items) where
 live:=λ_ _ st=>let ⟨o,ho,_⟩:=st.1;⟨o,ho⟩
 frame:=λ_ _ _ st hk=>⟨st.1.at λo e=>hk it (by simp) o e,by obtain⟨o,ho,r⟩:=st.2;exact⟨o,hk t (by simp) o ho,r⟩⟩
 item:=λi s Q E hi st hQ=>SY st.1 st.2 (x:=items[i]) (by simp[hi]) λh' a b=>hQ _ h' s.toks (by simp[hi]) ⟨a,st.2.extBut b.extBut hne⟩ b
 done:=λs Q E st hE=>RM hh st.1 st.2 (by simp) hE
section
variable{X:Cx}{aa:List (Um×Uy)}{σ:St}{H:Hp}{s:Ad}{h':Uw}
theorem b9.turnedL{t':Nat}{fp:List Um}(I:b9 X aa σ H s)(k:∀b o,b∉fp->s.heap.get? b=some o->h'.get? b=some o)(there:∀b∈fp,∃o,h'.get? b=some o)(hf:∀b∈fp,M4 X aa H b):b9 X aa σ H {s with heap:=h',toks:=t'}:=by
 have nit:∀b u,H b=some u->b∉fp:=λb u e z=>by rw[(hf b z).1] at e;cases e
 have hL:X.env.locals∉fp:=λz=>(hf _ z).2.1 rfl;refine I.step (g':=s.gens) (d':=s.drawn) (ch:=fp) (λb hb=>?_) (λb o _ _ hc e _=>k b o hc e) (λb o _ _ hc e _=>⟨o.slots,k b o hc e⟩) (λ_ _ _ _ n=>n)
  (λb o hc e=>⟨o,k b o hc e⟩) (λ_ _ e=>e) (λ_ _ _ e=>e) (λb ps e=>⟨#[],by rw[e];simp⟩) (λm hm=>?_) (λb u e=>?_) I.bare
 ·obtain⟨_,f1,f2,f3,f4,f5⟩:=hf b hb
  exact⟨f3,f1,f4,f5⟩
 ·obtain⟨o,es,ep,ho,r⟩:=hm
  exact⟨o,es,ep,k _ o hL ho,r⟩
 ·refine (I.hok b u e).stay (λc v hc q => k c v ?_ q) (λ_ q => q) λ_ _ q => q
  rcases hc with z|z
  ·rw[z];exact nit b u e
  ·exact nit c _ z
end
section
variable{X:Cx}{aa:List (Um×Uy)}{σ:St}{H:Hp}{s:Ad}{h':Uw}
theorem b9.turnedL'{t':Nat}{fp:List Um}(I:b9 X aa σ H s)(k:∀b o,b∉fp->s.heap.get? b=some o->h'.get? b=some o)(hf:∀b∈fp,M4 X aa H b):b9 X aa σ H {s with heap:=h',toks:=t'}:=by
 have nit:∀b u,H b=some u->b∉fp:=λb u e z=>by rw[(hf b z).1] at e;cases e
 have hL:X.env.locals∉fp:=λz=>(hf _ z).2.1 rfl;refine I.step (g':=s.gens) (d':=s.drawn) (ch:=fp) (λb hb=>?_) (λb o _ _ hc e _=>k b o hc e) (λb o _ _ hc e _=>⟨o.slots,k b o hc e⟩) (λ_ _ _ _ n=>n)
  (λb o hc e=>⟨o,k b o hc e⟩) (λ_ _ e=>e) (λ_ _ _ e=>e) (λb ps e=>⟨#[],by rw[e];simp⟩) (λm hm=>?_) (λb u e=>?_) I.bare
 ·obtain⟨_,f1,f2,f3,f4,f5⟩:=hf b hb
  exact⟨f3,f1,f4,f5⟩
 ·obtain⟨o,es,ep,ho,r⟩:=hm
  exact⟨o,es,ep,k _ o hL ho,r⟩
 ·refine (I.hok b u e).stay (λc v hc q => k c v ?_ q) (λ_ q => q) λ_ _ q => q
  rcases hc with z|z
  ·rw[z];exact nit b u e
  ·exact nit c _ z
end
def LA(K:Ai)(tup:Bool)(H:Hp)(a:Um)(xs:List V):Prop:=if tup=true then WF K H a xs else X6 K H a xs
def Q6(tup:Bool)(h:Uw)(a:Um)(items:Array Ul):Prop:=if tup=true then h.IsTuple a items else h.IsList a items
def UZ(tup:Bool)(h:Uw)(it a:Um)(i:Nat):Prop:=if tup=true then h.IsTupleIter it a i else h.IsListIter it a i
theorem Xu{prog:As}{w:Uu}{A:Bt}(hh:A.handled=none)(tup:Bool)(it t:Um)(hne:t≠it)(items:Array Ul):Draws prog w A it [it,t] items.size (λi v=>items[i]?=some v) (λi h=>UZ tup h it t i/\Q6 tup h t items):=by
 cases tup with
 |true=>exact B5 hh it t hne items
 |false=>exact Draws.list hh it t hne items
theorem Q6.lt{tup:Bool}{h:Uw}{a:Um}{items:Array Ul}(s:Q6 tup h a items):a<h.objs.size:=by
 cases tup with
 |true=>obtain⟨o,e,_⟩:=s;exact Aj e
 |false=>obtain⟨o,e,_⟩:=s;exact Aj e
theorem b9.srcA{X:Cx}{aa:List (Um×Uy)}{σ:St}{H:Hp}{s:Ad}{a:Um}{xs:List V}{tup:Bool}(I:b9 X aa σ H s)(h:LA X.K tup H a xs):∃its:List Ul,bE xs its/\Q6 tup s.heap a its.toArray/\xs.length<=sizeLine:=by
 cases tup with
 |true=>
  obtain⟨its,r,p,z⟩:=I.tuple h;exact⟨its,r,p,z⟩
 |false=>
  obtain⟨its,r,p,z⟩:=I.list h;exact⟨its,r,p.isList,z⟩
theorem b9.sq_inj{X:Cx}{aa:List (Um×Uy)}{σ:St}{H:Hp}{s:Ad}{a:Um}{xs ys:List V}{tup:Bool}(I:b9 X aa σ H s)(h:LA X.K tup H a xs)(h':LA X.K tup H a ys):xs=ys:=by
 cases tup with
 |true=>exact I.tuple_inj h h'
 |false=>exact I.list_inj h h'
theorem UZ.at{tup:Bool}{h h':Uw}{it a:Um}{i:Nat}(st:UZ tup h it a i)(k:∀o,h.get? it=some o->h'.get? it=some o):UZ tup h' it a i:=by
 cases tup with
 |true=>exact Heap.IsTupleIter.at st k
 |false=>exact Heap.IsListIter.at st k
theorem UZ.obj{tup:Bool}{h:Uw}{it a:Um}{i:Nat}(st:UZ tup h it a i):∃o,h.get? it=some o/\∀v,o.data≠ .cell v:=by
 cases tup with
 |true=>
  obtain⟨o,e,c,d⟩:=st;exact⟨o,e,λv z=>by rw[d] at z;cases z⟩
 |false=>
  obtain⟨o,e,c,d⟩:=st;exact⟨o,e,λv z=>by rw[d] at z;cases z⟩
def Ite(K:Ai)(tup:Bool)(a:Um):It:=
 ⟨λi H=>∃xs x,LA K tup H a xs/\xs[i]?=some x,λi H v H'=>∃p x,(∀xs,LA K tup H a xs->xs[i]?=some x)/\H p=none/\H'=upd H p (.tup [.int i,x])/\v=.ref p,λi H=>∃xs,LA K tup H a xs/\xs.length=i⟩
theorem DD{P:As}{w:Uu}{K:Ai}{es:List Ut}{k:Nat}{pos:Pos}(tup:Bool)(a e it:Um)(hei:e≠it)(hae:a≠e)(hai:a≠it):
  FL P w K (.Tuple es k pos) (Ite K tup a) [e,it] e (λi h=>(∃old,IsEnum h e it i old)/\UZ tup h it a i) where
 mem:=by simp
 obj:=λi h st b hb=>by
  obtain⟨⟨old,he⟩,hi⟩:=st;rcases Ak.mp hb with z|z
  ·subst z
   exact⟨_,he,λv z=>by cases z⟩
  ·have:=Az.mp z
   subst this;exact hi.obj
 keep:=λi h h' st kk=>by obtain⟨⟨old,he⟩,hi⟩:=st;exact⟨⟨old,kk e (by simp) _ he⟩,hi.at λo q=>kk it (by simp) o q⟩
 item:=by
  intro X hP hw hK hc i aa s σ H E I hf st hg;subst hP hw hK;obtain⟨⟨old,he⟩,hi⟩:=st;obtain⟨xs,x,hq,hx⟩:=hg;obtain⟨its,rv,src,hz⟩:=I.srcA hq;have hlt:i<its.toArray.size:=by have:=(Ag.mp hx).1;have:=rv.length;simp only[Am];lia
  have hh:X.A.in1.handled=none:=I.ok.hd hc;refine wpAny_pyNext_enum_itemD (Xu hh tup it a hai its.toArray) he ⟨hi,src⟩ hlt hei (by simp[hei,Dm hae]) λu h1 tk hu ho st1 ht hsz hk=>⟨_,rfl,?_⟩;refine wpAny_letOwnedTupleGo_enum (s:={s with heap:=h1,toks:=tk+1}) ho λh2 he2 sb2=>?_;have sb2:Fl e h1 h2:=sb2;obtain⟨u',hu',ru⟩:=rv.get hx;have hu:its.toArray[i]?=some u:=hu;rw[List.getElem?_toArray,hu'] at hu;have hu:=Bv hu;subst hu;have kk:∀b o,b∉[e,it]->s.heap.get? b=some o->h2.get? b=some o:=λb o hb q=>by have h1b:b≠e:=λz=>hb (by simp[z]);have h2b:b≠it:=λz=>hb (by simp[z]);exact(sb2.2 b h1b).trans (hk b o h1b h2b q)
  have fo:h2.get? s.heap.objs.size=some {cls:=.type "tuple",data:=.seq #[.int i tk,u']}:=(sb2.2 _ (Hk (Aj he))).trans ht;have c7:H s.heap.objs.size=none:=I.hok.fresh (Ap _);have j8:∀b∈[e,it],b<s.heap.objs.size:=λb hb=>by
   rcases Ak.mp hb with z|z
   ·rw[z];exact Aj he
   ·rw[Az.mp z]
    obtain⟨o,q,_⟩:=hi.obj;exact Aj q
  have I0:b9 X aa σ (upd H s.heap.objs.size (.tup [.int i,x])) {s with heap:=s.heap.push {cls:=.type "tuple",data:=.seq #[.int i tk,u']},toks:=tk}:=
   I.laid (λb o q=>Ac _ q) (Ap _) ⟨by show 2<=sizeLine;decide,[.int i tk,u'],.cons ⟨tk,rfl⟩ (.cons ru .nil),Ka _ _⟩
  have I1:b9 X aa σ (upd H s.heap.objs.size (.tup [.int i,x])) {s with heap:=h2,toks:=tk+1}:=by
   refine b9.turnedL (s:={s with heap:=s.heap.push {cls:=.type "tuple",data:=.seq #[.int i tk,u']},toks:=tk}) (h':=h2) (t':=tk+1) (fp:=[e,it]) I0 (λb o hb q=>?_) (λb hb=>?_) λb hb=>⟨by rw[bM (Au (j8 b hb))];exact(hf b hb).1,(hf b hb).2⟩
   ·by_cases hbn:b=s.heap.objs.size
    ·subst hbn
     have q:(s.heap.push {cls:=.type "tuple",data:=.seq #[.int i tk,u']}).get? s.heap.objs.size=some o:=q;rw[Aq _ rfl] at q;cases q;exact fo
    ·exact kk b o hb ((Ja _ _ _ hbn).symm.trans q)
   ·rcases Ak.mp hb with z|z
    ·rw[z];exact⟨_,he2⟩
    ·rw[Az.mp z]
     obtain⟨o,q,_⟩:=st1.1.obj;exact⟨o,(sb2.2 it (Dm hei)).trans q⟩
  refine⟨.ref s.heap.objs.size,upd H s.heap.objs.size (.tup [.int i,x]),?_,rfl,⟨_,x,λys hy=>by rw[I.sq_inj hy hq];exact hx,c7,rfl,rfl⟩,⟨⟨_,by simpa using he2⟩,st1.1.at λo q=>(sb2.2 it (Dm hei)).trans q⟩,λb hb=>?_⟩
  ·exact I1
  ·rw[bM (Au (j8 b hb))]
   exact(hf b hb).1
 done:=by
  intro X hP hw hK hc i aa s σ H E I hf st hg;subst hP hw hK;obtain⟨⟨old,he⟩,hi⟩:=st;obtain⟨xs,hq,hx⟩:=hg;obtain⟨its,rv,src,hz⟩:=I.srcA hq;have hh:X.A.in1.handled=none:=I.ok.hd hc;have hn:its.toArray.size=i:=by rw[Am,<-rv.length];exact hx
  refine wpAny_pyNext_enum_endD (Xu hh tup it a hai its.toArray) he ⟨by rw[hn];exact hi,src⟩ λh1 xb=>⟨rfl,?_⟩;obtain⟨f0,f1,f2,f3,f4,f5⟩:=hf it (by simp);exact I.turned (t':=s.toks) (λb o hb q=>xb b o hb q) f0 f1 f3 f4 f5
 self:=λ_ i _ _ _ st h=>Pw st.1.choose_spec h
theorem B6(a:Um)(items:Array Ul)(n:Nat)(dd:Option Um)(sl:Array (Option Ul)):Meets (Du.«enumerate.__new__» ⟨[.type "enumerate",.ref a],[]⟩) (λ_ R s=>s.heap.get? a=some {cls:=.type "tuple",dict:=dd,data:=.seq items n,slots:=sl}∧R (.ok (.ret (.ref (s.heap.push {cls:=.type "tuple_iterator",data:=.fields #[.ref a,.int 0 0]}).objs.size))) {s with heap:=(s.heap.push {cls:=.type "tuple_iterator",data:=.fields #[.ref a,.int 0 0]}).push {cls:=.type "enumerate",data:=.fields #[.none,.bool false,.ref s.heap.objs.size,rawInt 0,.none,.none]}}):=by
 refine .of_wp λprog w A R s h=>?_;obtain⟨hp,g,d,tk,os⟩:=s;obtain⟨ha,h⟩:=h;have hs:=sub_enumerate;have hT:Heap.IsTuple (Rs ⟨hp,g,d,tk,os⟩) a items:=⟨_,ha,rfl,n,rfl⟩;wp_walk using Cm ha
 refine wpAny_stack_any λst=>Ah ?_;split
 ·rename_i c _ _ _ _ _
  cases (c==Kz "enumerate")<;>(wp_walk using Cm ha,Hw hT;exact⟨_,rfl,h⟩)
 ·wp_walk using Cm ha,Hw hT
  exact⟨_,rfl,h⟩
theorem FP{prog:As}{w:Uu}{A:Bt}{E:Ul->Ad->Prop}{s:Ad}{a:Um}{items:Array Ul}{tup:Bool}{Q:Ul->Ad->Prop}(hs:Q6 tup s.heap a items)(h:∀h',IsEnum h' (s.heap.objs.size+1) s.heap.objs.size 0 .none->UZ tup h' s.heap.objs.size a 0->(∀b o,s.heap.get? b=some o->h'.get? b=some o)->Q (.ref (s.heap.objs.size+1)) {s with heap:=h'}):Uq (Ur prog w) A (call (.type "enumerate") [.ref a]) Q E s:=by
 cases tup with
 |false=>exact call_enumerate_list hs λh' a1 a2 _ a4=>h h' a1 a2 a4
 |true=>
  obtain⟨⟨cc,dd,dt,sl⟩,g1,hc,n,hd⟩:=hs;replace hc:cc=.type "tuple":=hc
  replace hd:dt=.seq items n:=hd
  subst hc hd;have hz:(s.heap.push {cls:=.type "tuple_iterator",data:=.fields #[.ref a,.int 0 0]}).objs.size=s.heap.objs.size+1:=Ct ..;refine callType_new F.called_enumerate (by decide) (F.typeCall_enumerate_1 _) (F.newCall_enumerate_1 _) (λobj=>F.args_object_init_2 obj _) F.entry_enumerate_new (B6 a items n dd sl) ⟨g1,?_⟩;show _/\_;rw[hz];have he:=Aq (s.heap.push {cls:=.type "tuple_iterator",data:=.fields #[.ref a,.int 0 0]}) (o:={cls:=.type "enumerate",data:=.fields #[.none,.bool false,.ref s.heap.objs.size,rawInt 0,.none,.none]}) rfl;rw[hz] at he;exact⟨⟨_,he,rfl⟩,h _ he ⟨_,Ac _ (Aq _ rfl),rfl,rfl⟩ λb o x=>Ac _ (Ac _ x)⟩
theorem JT:Be "enumerate"=some (.type "enumerate"):=by decide+kernel
theorem nH:Be "zip"=some (.type "zip"):=by decide+kernel
section
variable{X:Cx}{K:Ai}{ml:List Nat}{l:Ut}{pu:Bool}{f:VF}{p pos dq:Pos}{es:List Ut}{tk:Nat}{δ:Ev}
def iEnu(K:Ai)(tl:TE):TI:=λσ H R=>tl σ H λx H1=>∃a tup,x=.ref a/\(∃xs,LA K tup H1 a xs)/\R (Ite K tup a) H1
theorem oV{tl:TE}(hg:Gl X "enumerate")(hm:X.mg "enumerate"=none)(hl:PE X l tl)(he:Uo (l::[]) X.env=(false,eval l X.env)::Uo [] X.env:=by rfl):PI X (.Tuple es tk dq) (.Call (.Name "enumerate" p) [l] [] pos) (iEnu X.K tl):=by
 intro aa s σ H R I h;refine Eg (SM I hg hm JT ?_ (by decide) (by decide));refine Ee (ZD (bD hl ZO he pos aa s σ H (λvs H1=>match vs with
  |[x]=>∃a tup,x=.ref a/\(∃xs,LA X.K tup H1 a xs)/\R (Ite X.K tup a) H1
  |_=>False) I h) λus s1 ⟨vs,H1,I1,r1,q1⟩=>?_) he (by rfl)
 match vs,r1,q1 with
 |[x],r1,q1=>
  obtain⟨a,tup,rfl,⟨xs,hq⟩,hR⟩:=q1;obtain⟨u,rfl,ru⟩:=TC r1;cases ru;obtain⟨its,rv,src,_⟩:=I1.srcA hq;refine FP src λh' he' hi' kp=>?_;have I2:b9 X aa σ H1 {s1 with heap:=h'}:=I1.kept (t':=s1.toks) kp;have hn:∀b,s1.heap.objs.size<=b->H1 b=none:=λb hb=>I1.hok.fresh hb;refine Pw he' ⟨s1.heap.objs.size+1,[s1.heap.objs.size+1,s1.heap.objs.size],_,Ite X.K tup a,H1,rfl,I2,DD tup a (s1.heap.objs.size+1) s1.heap.objs.size (Nat.succ_ne_self _) (λz=>?_) (λz=>?_),⟨⟨_,he'⟩,hi'⟩,λb hb=>?_,hR⟩
  ·have:=src.lt
   rw[z] at this;exact absurd this (Nat.not_lt_of_le (Fu _))
  ·have:=src.lt
   rw[z] at this;exact absurd this (Cb _)
  ·have hb':s1.heap.objs.size<=b:=by
    rcases Ak.mp hb with z|z
    ·rw[z];exact Fu _
    ·rw[Az.mp z];exact Ap _
   exact I1.fpOk hb' (hn b hb')
theorem Zu(h:X.K=K){tl:TE}(hg:Gl X "enumerate")(hm:X.mg "enumerate"=none)(hl:PE X l tl)(he:Uo (l::[]) X.env=(false,eval l X.env)::Uo [] X.env:=by rfl):PI X (.Tuple es tk dq) (.Call (.Name "enumerate" p) [l] [] pos) (iEnu K tl):=by subst h;exact oV hg hm hl he
noncomputable def YC:Nat->List cO->List cO
 |_,[]=>[]
 |i,d::ds=>.tup [.int i,d]::YC (i+1) ds
noncomputable def NX(f:VF):VI:=λδ=>(f δ).bind λp=>(YH p.1).map λds=>(YC 0 ds,p.2)
theorem NQ:∀{ds:List cO} {n i:Nat} {d:cO},(YC n ds)[i]?=some d->∃x,ds[i]?=some x/\d=.tup [.int (n+i:Nat),x]
 |[],_,_,_,h=>by simp[YC] at h
 |x::ds,n,0,d,h=>by simp[YC] at h;exact⟨x,rfl,h.symm⟩
 |x::ds,n,i+1,d,h=>by
  have h:(YC (n+1) ds)[i]?=some d:=by simpa[YC] using h
  obtain⟨y,h1,h2⟩:=NQ h;exact⟨y,by simpa using h1,by rw[h2,show n+1+i=n+(i+1) by lia]⟩
theorem NR:∀(ds:List cO) (n:Nat),(YC n ds).length=ds.length
 |[],_=>rfl
 |_::ds,n=>congrArg (· +1) (NR ds (n+1))
theorem MY{a:Um}{tup:Bool}{ds:List cO}:Walk K (Ite K tup a) [(.ref a,if tup=true then .tup ds else .lst ds)] (YC 0 ds):=by
 intro N H h;have r:=h _ (Az.mpr rfl);have fin:∀xs,LA K tup H a xs->bY K N H xs ds->(∀(i:Nat) (d:cO),(YC 0 ds)[i]?=some d->(Ite K tup a).go i H/\∀x H',(Ite K tup a).yld i H x H'->aL H H'/\bB K N H' N x d)/\(Ite K tup a).stop (YC 0 ds).length H:=λxs sq r=>by refine⟨λi d e=>?_,xs,sq,by rw[r.length,NR]⟩;obtain⟨z,e1,rfl⟩:=NQ e;obtain⟨x,e2,r1⟩:=r.get e1;refine⟨⟨xs,x,sq,e2⟩,λy H' hy=>?_⟩;obtain⟨p,x',e3,hp,rfl,rfl⟩:=hy;have:=e3 xs sq;rw[e2] at this;cases this;refine⟨cJ hp,.tup (WF.of b5) (.cons ?_ (.cons (r1.same (cJ hp)) .nil))⟩;rw[Ks];exact .int _
 cases tup with
 |true=>
  have r:bB K N H N (.ref a) (.tup ds):=r;cases r with
  |tup sq r=>exact fin _ sq r
 |false=>
  have r:bB K N H N (.ref a) (.lst ds):=r;cases r with
  |lst q n r=>exact fin _ (X6.of q) r
  |fzl q r=>exact fin _ q.sq r
theorem K3(hK:X.K=K)(hg:Gl X "enumerate")(hm:X.mg "enumerate"=none)(h:PE X l (TV K ml pu true true f))(he:Uo (l::[]) X.env=(false,eval l X.env)::Uo [] X.env:=by rfl):
  PI X (.Tuple es tk dq) (.Call (.Name "enumerate" p) [l] [] pos) (TIV K ml pu (NX f)):=(Zu (K:=K) hK hg hm h he).imp λσ H R ⟨B,O,δ,ds,δ',S,q,k⟩=>by
 unfold NX at q;cases h1:f δ with
 |none=>rw[h1] at q;cases q
 |some p=>
  obtain⟨x,δ1⟩:=p;rw[h1] at q;refine⟨B,O,δ,x,δ1,S,h1,λv H1 R1=>?_⟩;cases x with
  |lst ds'=>
   cases q;obtain⟨a,xs,rfl,sq,r⟩:=R1.rep.lstE;exact⟨a,false,rfl,⟨xs,sq⟩,k _ [(.ref a,.lst ds')] H1 (R1.sta.keepV λp hp=>by rw[Az.mp hp];exact R1.rep) R1.frm R1.pur (MY (tup:=false))⟩
  |tup ds'=>
   cases q;obtain⟨a,xs,rfl,sq,r⟩:=R1.rep.tupE;exact⟨a,true,rfl,⟨xs,sq⟩,k _ [(.ref a,.tup ds')] H1 (R1.sta.keepV λp hp=>by rw[Az.mp hp];exact R1.rep) R1.frm R1.pur (MY (tup:=true))⟩
  |_=>cases q
end
section
variable{prog:As}{w:Uu}{A:Bt}{E:Ul->Ad->Prop}{s:Ad}
theorem UZ.ext{tup:Bool}{h h':Uw}{it a b:Um}{i:Nat}(x:UZ tup h it a i)(hs:Ke b h h')(hne:it≠b):UZ tup h' it a i:=x.at λo e=>hs _ _ hne e
theorem Q6.ext{tup:Bool}{h h':Uw}{a b:Um}{xs:Array Ul}(x:Q6 tup h a xs)(hs:Ke b h h')(hne:a≠b):Q6 tup h' a xs:=by
 cases tup with
 |true=>obtain⟨o,e,r⟩:=x;exact⟨o,hs _ _ hne e,r⟩
 |false=>obtain⟨o,e,r⟩:=x;exact⟨o,hs _ _ hne e,r⟩
theorem SN{tup:Bool}{it a:Um}{i:Nat}{xs:Array Ul}{x:Ul}{Q:Ul->Ad->Prop}(hi:UZ tup s.heap it a i)(hs:Q6 tup s.heap a xs)(hx:xs[i]?=some x)(hQ:∀h',UZ tup h' it a (i+1)->Fl it s.heap h'->Q x {s with heap:=h'}):Uq (Ur prog w) A (Br (.ref it)) Q E s:=by
 cases tup with
 |true=>exact SY hi hs hx hQ
 |false=>exact wpAny_nextOf_list_item hi hs hx hQ
theorem L9{tup:Bool}{it a:Um}{i:Nat}{xs:Array Ul}{Q:Ul->Ad->Prop}(hh:A.handled=none)(hi:UZ tup s.heap it a i)(hs:Q6 tup s.heap a xs)(hx:xs[i]?=none)(hE:∀h' e,Ke it s.heap h'->(∃o,h'.get? e=some o/\o.cls=.type "StopIteration")->E (.ref e) {s with heap:=h'}):Uq (Ur prog w) A (Br (.ref it)) Q E s:=by
 cases tup with
 |true=>exact RM hh hi hs hx hE
 |false=>exact wpAny_nextOf_list_end hh hi hs hx hE
structure ZSt(t1 t2:Bool)(h:Uw)(z p q i1 i2 a b:Um)(k:Nat)(f0:Ul):Prop where
 zip:IsZip h z p q f0
 its:IsPair h p (.ref i1) (.ref i2)
 res:∃u v,IsPair h q u v
 one:UZ t1 h i1 a k
 two:UZ t2 h i2 b k
theorem DO{t1 t2:Bool}{z p q i1 i2 a b:Um}{k:Nat}{xs ys:Array Ul}{x y:Ul}{Q:Ul->Ad->Prop}(D:Nc z p q i1 i2 a b)(S:ZSt t1 t2 s.heap z p q i1 i2 a b k .none)(s1:Q6 t1 s.heap a xs)(s2:Q6 t2 s.heap b ys)(hx:xs[k]?=some x)(hy:ys[k]?=some y)(hQ:∀h',ZSt t1 t2 h' z p q i1 i2 a b (k+1) (rawInt s.heap.objs.size)->IsPair h' s.heap.objs.size x y->h'.objs.size=s.heap.objs.size+1->(∀c o,c≠z->c≠q->c≠i1->c≠i2->s.heap.get? c=some o->h'.get? c=some o)->Q (.ref s.heap.objs.size) {s with heap:=h'}):Uq (Ur prog w) A (Du.«zip.__next__» ⟨[.ref z],[]⟩) (λfin s'=>∃v,fin=.done (.ret v)/\Q v s') E s:=by
 obtain⟨gz,gi,⟨u,v,gr⟩,g1,g2⟩:=S;show Uq _ _ (field (Ba z) 2>>=_) _ _ _;refine Aa (Eh gz rfl (x:=.bool false) rfl ?_);show Uq _ _ (field (Ba z) 3>>=_) _ _ _;refine Aa (Eh gz rfl (x:=.ref p) rfl (Aa (Ez gi rfl ?_)));show Uq _ _ (Dw (Ba z)>>=_) _ _ _;refine Aa ?_
 (unfold Dw)
 refine Aa (Eh gz rfl (x:=.none) rfl (Ah ?_));simp only[if_true];refine Aa (Ir (Aa (Eh gz rfl (x:=.ref q) rfl (Aa (Fp gz (by simp) λha za ba=>Aa ?_)))));have za:IsZip ha z p q .ellipsis:=za;simp only[Rt,Qs,Nq,Kc];refine Aa (Aa (Lu ?_));show Uq _ _ (Br (Ba i1)>>=_) _ _ _;refine Aa (SN (g1.ext ba.extBut D.i1z) (s1.ext ba.extBut D.l1z) hx λhb n1 bb=>Ah ?_);have rb:IsPair hb q u v:=bb.extBut _ _ D.TOi1 (ba.extBut _ _ D.TOz gr);refine Aa (Ez rb rfl (Aa (Jq rb λhc rc bc=>Aa (Ru (Ah ?_)))));have rc:IsPair hc q x v:=rc;refine Aa (Aa (Lu ?_));show Uq _ _ (Br (Ba i2)>>=_) _ _ _;refine Aa (SN (((g2.ext ba.extBut D.i2z).ext bb.extBut D.i12.symm).ext bc.extBut D.TOi2.symm) (((s2.ext ba.extBut D.l2z).ext bb.extBut D.l2i1).ext bc.extBut D.l2TO) hy λhd n2 bd=>Ah ?_);have rd:IsPair hd q x v:=bd.extBut _ _ D.TOi2 rc;refine Aa (Ez rd rfl (Aa (Jq rd λhe re be=>Aa (Ru (Ah (Ah ?_))))));have re:IsPair he q x y:=re;refine Aa (Ez re rfl (Aa (wpAny_newTuple ?_)));have size:he.objs.size=s.heap.objs.size:=by rw[be.1,bd.1,bc.1,bb.1,ba.1]
 have ze:IsZip he z p q .ellipsis:=be.extBut _ _ D.TOz.symm (bd.extBut _ _ D.i2z.symm (bc.extBut _ _ D.TOz.symm (bb.extBut _ _ D.i1z.symm za)));have ke:∀c o,c≠z->c≠q->c≠i1->c≠i2->s.heap.get? c=some o->he.get? c=some o:=λc o c1 c2 c3 c4 g=>be.extBut _ _ c2 (bd.extBut _ _ c4 (bc.extBut _ _ c2 (bb.extBut _ _ c3 (ba.extBut _ _ c1 g))));have e1:UZ t1 he i1 a (k+1):=((n1.ext bc.extBut D.TOi1.symm).ext bd.extBut D.i12).ext be.extBut D.TOi1.symm;have e2:UZ t2 he i2 b (k+1):=n2.ext be.extBut D.TOi2.symm;have ie:IsPair he p (.ref i1) (.ref i2):=ke _ _ D.TIz D.TITO D.TIi1 D.TIi2 gi;have zlt:z<he.objs.size:=Aj ze;show Uq _ _ (Hf (Ba z) (.ref he.objs.size)>>=_) _ _ _;refine Aa ?_
 (unfold Hf)
 have zf:IsZip (he.push {cls:=.type "tuple",data:=.seq #[x,y]}) z p q .ellipsis:=Ac _ ze;refine Aa (Fp zf (by simp) λhg zg bg=>?_);have zg:IsZip hg z p q (rawInt he.objs.size):=zg;refine Fp zg (by simp) λhk zk bk=>?_;have zk:IsZip hk z p q (rawInt he.objs.size):=zk;have up:∀c o,c≠z->he.get? c=some o->hk.get? c=some o:=λc o c1 g=>bk.extBut _ _ c1 (bg.extBut _ _ c1 (Ac _ g));have tk:IsPair hk he.objs.size x y:=bk.extBut _ _ (Hk zlt) (bg.extBut _ _ (Hk zlt) (Aq _ rfl));have szk:hk.objs.size=he.objs.size+1:=by rw[bk.1,bg.1,Ct]
 rw[size] at zk tk szk;refine Ah ⟨_,rfl,?_⟩;show Q (.ref he.objs.size) _;rw[size];exact hQ hk ⟨zk,up _ _ D.TIz ie,⟨x,y,up _ _ D.TOz re⟩,e1.at λo g=>up _ o D.i1z g,e2.at λo g=>up _ o D.i2z g⟩ tk szk λc o c1 c2 c3 c4 g=>up c o c1 (ke c o c1 c2 c3 c4 g)
theorem BB{t1 t2:Bool}{z p q i1 i2 a b:Um}{k:Nat}{xs ys:Array Ul}{Q:Fin->Ad->Prop}(hh:A.handled=none)(D:Nc z p q i1 i2 a b)(S:ZSt t1 t2 s.heap z p q i1 i2 a b k .none)(s1:Q6 t1 s.heap a xs)(s2:Q6 t2 s.heap b ys)(i7:xs[k]?=none∨ys[k]?=none)(hE:∀h' e,(∀c o,c≠z->c≠q->c≠i1->c≠i2->s.heap.get? c=some o->h'.get? c=some o)->(∃o,h'.get? e=some o/\o.cls=.type "StopIteration")->E (.ref e) {s with heap:=h'}):Uq (Ur prog w) A (Du.«zip.__next__» ⟨[.ref z],[]⟩) Q E s:=by
 obtain⟨gz,gi,⟨u,v,gr⟩,g1,g2⟩:=S;show Uq _ _ (field (Ba z) 2>>=_) _ _ _;refine Aa (Eh gz rfl (x:=.bool false) rfl ?_);show Uq _ _ (field (Ba z) 3>>=_) _ _ _;refine Aa (Eh gz rfl (x:=.ref p) rfl (Aa (Ez gi rfl ?_)));show Uq _ _ (Dw (Ba z)>>=_) _ _ _;refine Aa ?_
 (unfold Dw)
 refine Aa (Eh gz rfl (x:=.none) rfl (Ah ?_));simp only[if_true];refine Aa (Ir (Aa (Eh gz rfl (x:=.ref q) rfl (Aa (Fp gz (by simp) λha za ba=>Aa ?_)))));have za:IsZip ha z p q .ellipsis:=za;simp only[Rt,Qs,Nq,Kc];refine Aa (Aa (Lu ?_));show Uq _ _ (Br (Ba i1)>>=_) _ _ _;cases hx:xs[k]? with
 |none=>
  refine Aa (L9 hh (g1.ext ba.extBut D.i1z) (s1.ext ba.extBut D.l1z) hx λhb e bb ⟨oe,ge,ce⟩=>?_);have zb:IsZip hb z p q .ellipsis:=bb _ _ D.i1z.symm za;have ne:e≠z:=λw=>by subst w;rw[zb] at ge;cases ge;simp at ce
  exact Fp zb (by simp) λhc _ bc=>hE hc e (λc o c1 _ c3 _ g=>bc.extBut _ _ c1 (bb _ _ c3 (ba.extBut _ _ c1 g))) ⟨oe,bc.extBut _ _ ne ge,ce⟩
 |some x=>
  have hy:ys[k]?=none:=i7.resolve_left λw=>by rw[hx] at w;cases w
  refine Aa (SN (g1.ext ba.extBut D.i1z) (s1.ext ba.extBut D.l1z) hx λhb n1 bb=>Ah ?_);have rb:IsPair hb q u v:=bb.extBut _ _ D.TOi1 (ba.extBut _ _ D.TOz gr);refine Aa (Ez rb rfl (Aa (Jq rb λhc rc bc=>Aa (Ru (Ah (Aa (Aa (Lu ?_))))))));show Uq _ _ (Br (Ba i2)>>=_) _ _ _;refine Aa (L9 hh (((g2.ext ba.extBut D.i2z).ext bb.extBut D.i12.symm).ext bc.extBut D.TOi2.symm) (((s2.ext ba.extBut D.l2z).ext bb.extBut D.l2i1).ext bc.extBut D.l2TO) hy λhd e bd ⟨oe,ge,ce⟩=>?_);have zd:IsZip hd z p q .ellipsis:=bd _ _ D.i2z.symm (bc.extBut _ _ D.TOz.symm (bb.extBut _ _ D.i1z.symm za));have ne:e≠z:=λw=>by subst w;rw[zd] at ge;cases ge;simp at ce
  exact Fp zd (by simp) λhf _ bf=>hE hf e (λc o c1 c2 c3 c4 g=>bf.extBut _ _ c1 (bd _ _ c4 (bc.extBut _ _ c2 (bb.extBut _ _ c3 (ba.extBut _ _ c1 g))))) ⟨oe,bf.extBut _ _ ne ge,ce⟩
theorem F0{t1 t2:Bool}{z p q i1 i2 a b:Um}{k:Nat}{xs ys:Array Ul}{x y:Ul}{Q:Option Ul->Ad->Prop}(D:Nc z p q i1 i2 a b)(S:ZSt t1 t2 s.heap z p q i1 i2 a b k .none)(s1:Q6 t1 s.heap a xs)(s2:Q6 t2 s.heap b ys)(hx:xs[k]?=some x)(hy:ys[k]?=some y)(hQ:∀h',ZSt t1 t2 h' z p q i1 i2 a b (k+1) (rawInt s.heap.objs.size)->IsPair h' s.heap.objs.size x y->h'.objs.size=s.heap.objs.size+1->(∀c o,c≠z->c≠q->c≠i1->c≠i2->s.heap.get? c=some o->h'.get? c=some o)->Q (some (.ref s.heap.objs.size)) {s with heap:=h'}):Uq (Ur prog w) A (pyNext (.ref z)) Q E s:=by
 have ty:s.TypeIs (.ref z) "zip":=⟨_,S.zip,rfl⟩
 (unfold pyNext)
 exact Aa (Lv (Di (name:=Bf "__next__") ty Kh (El Kh ty Qt (DO D S s1 s2 hx hy λh' a1 a2 a3 a4=>Ah (hQ h' a1 a2 a3 a4)) (Px _))))
theorem CU{t1 t2:Bool}{z p q i1 i2 a b:Um}{k:Nat}{xs ys:Array Ul}{Q:Option Ul->Ad->Prop}(hh:A.handled=none)(D:Nc z p q i1 i2 a b)(S:ZSt t1 t2 s.heap z p q i1 i2 a b k .none)(s1:Q6 t1 s.heap a xs)(s2:Q6 t2 s.heap b ys)(i7:xs[k]?=none∨ys[k]?=none)(hQ:∀h',(∀c o,c≠z->c≠q->c≠i1->c≠i2->s.heap.get? c=some o->h'.get? c=some o)->Q none {s with heap:=h'}):Uq (Ur prog w) A (pyNext (.ref z)) Q E s:=by
 have ty:s.TypeIs (.ref z) "zip":=⟨_,S.zip,rfl⟩
 (unfold pyNext)
 refine Aa (Lv (Di (name:=Bf "__next__") ty Kh (El Kh ty Qt (BB hh D S s1 s2 i7 λh' e kk ⟨o,ge,ce⟩=>?_) (Px _))));exact Aa (wpAny_isInstance (T:= "StopIteration") (b:=true) ⟨o,ge,ce⟩ isSubtype_stop (Ah (hQ _ kk)))
end
noncomputable def kY(tup:Bool):String:=if tup=true then "tuple_iterator" else "list_iterator"
noncomputable abbrev zO(tup:Bool)(a:Um):Uy:={cls:=.type (kY tup),data:=.fields #[.ref a,.int 0 0]}
theorem Xd{prog:As}{w:Uu}{A:Bt}{E:Ul->Ad->Prop}{s:Ad}{tup:Bool}{a:Um}{xs:Array Ul}{Q:Ul->Ad->Prop}(h:Q6 tup s.heap a xs)(hQ:Q (.ref s.heap.objs.size) {s with heap:=s.heap.push (zO tup a)}):Uq (Ur prog w) A (pyIter (.ref a)) Q E s:=by
 cases tup with
 |true=>exact Hw h hQ
 |false=>exact Gv h hQ
theorem Q6.push{tup:Bool}{h:Uw}{a:Um}{xs:Array Ul}(x:Q6 tup h a xs)(o:Uy):Q6 tup (h.push o) a xs:=by
 cases tup with
 |true=>obtain⟨o,e,r⟩:=x;exact⟨o,Ac _ e,r⟩
 |false=>obtain⟨o,e,r⟩:=x;exact⟨o,Ac _ e,r⟩
theorem BC(t1 t2:Bool)(a b:Um)(xs ys:Array Ul):Meets (Du.«zip.__new__» ⟨[.type "zip",.ref a,.ref b],[]⟩) (λ_ R s=>Q6 t1 s.heap a xs/\Q6 t2 s.heap b ys/\∀h1 h2 h3 h4 h5,h1=s.heap.push (zO t1 a)->h2=h1.push (zO t2 b)->h3=h2.push {cls:=.type "tuple",data:=.seq #[.ref s.heap.objs.size,.ref h1.objs.size]}->h4=h3.push {cls:=.type "tuple",data:=.seq #[.none,.none]}->h5=h4.push {cls:=.type "zip",data:=.fields #[.none,.bool false,.bool false,.ref h2.objs.size,.ref h3.objs.size]}->R (.ok (.ret (.ref h4.objs.size))) {s with heap:=h5}):=by
 refine .of_wp λprog w A R s h=>?_;obtain⟨hp,g,d,tk,os⟩:=s;obtain⟨g1,g2,h⟩:=h;have hs:=sub_zip;have k1:Q6 t1 (Rs ⟨hp,g,d,tk,os⟩) a xs:=g1;have k2:Q6 t2 (Rs ⟨hp.push (zO t1 a),g,d,tk,os⟩) b ys:=Q6.push g2 _;wp_walk using Xd k1,Xd k2
 exact⟨_,rfl,h _ _ _ _ _ rfl rfl rfl rfl rfl⟩
theorem BY{prog:As}{w:Uu}{A:Bt}{E:Ul->Ad->Prop}{s:Ad}{t1 t2:Bool}{a b:Um}{xs ys:Array Ul}{Q:Ul->Ad->Prop}(g1:Q6 t1 s.heap a xs)(g2:Q6 t2 s.heap b ys)(h:∀h',ZSt t1 t2 h' (s.heap.objs.size+4) (s.heap.objs.size+2) (s.heap.objs.size+3) s.heap.objs.size (s.heap.objs.size+1) a b 0 .none->(∀c o,s.heap.get? c=some o->h'.get? c=some o)->Q (.ref (s.heap.objs.size+4)) {s with heap:=h'}):Uq (Ur prog w) A (call (.type "zip") [.ref a,.ref b]) Q E s:=by
 refine callType_new F.called_zip (by decide) (F.typeCall_zip_2 _ _) (F.newCall_zip_2 _ _) (λobj=>F.args_object_init_3 obj _ _) F.entry_zip_new (BC t1 t2 a b xs ys) ⟨g1,g2,?_⟩;rintro h1 h2 h3 h4 h5 e1 e2 e3 e4 e5;have z1:h1.objs.size=s.heap.objs.size+1:=by rw[e1,Ct]
 have z2:h2.objs.size=s.heap.objs.size+2:=by rw[e2,Ct,z1]
 have z3:h3.objs.size=s.heap.objs.size+3:=by rw[e3,Ct,z2]
 have z4:h4.objs.size=s.heap.objs.size+4:=by rw[e4,Ct,z3]
 have u4:∀c o,h4.get? c=some o->h5.get? c=some o:=λc o q=>by rw[e5];exact Ac _ q
 have u3:∀c o,h3.get? c=some o->h5.get? c=some o:=λc o q=>u4 c o (by rw[e4];exact Ac _ q);have u2:∀c o,h2.get? c=some o->h5.get? c=some o:=λc o q=>u3 c o (by rw[e3];exact Ac _ q);have u1:∀c o,h1.get? c=some o->h5.get? c=some o:=λc o q=>u2 c o (by rw[e2];exact Ac _ q);have u0:∀c o,s.heap.get? c=some o->h5.get? c=some o:=λc o q=>u1 c o (by rw[e1];exact Ac _ q);have o5:h5.get? h4.objs.size=some {cls:=.type "zip",data:=.fields #[.none,.bool false,.bool false,.ref h2.objs.size,.ref h3.objs.size]}:=by rw[e5];exact Aq _ rfl
 have o4:h5.get? h3.objs.size=some {cls:=.type "tuple",data:=.seq #[.none,.none]}:=u4 _ _ (by rw[e4];exact Aq _ rfl);have o3:h5.get? h2.objs.size=some {cls:=.type "tuple",data:=.seq #[.ref s.heap.objs.size,.ref h1.objs.size]}:=u3 _ _ (by rw[e3];exact Aq _ rfl);have o2:h5.get? h1.objs.size=some (zO t2 b):=u2 _ _ (by rw[e2];exact Aq _ rfl);have o1:h5.get? s.heap.objs.size=some (zO t1 a):=u1 _ _ (by rw[e1];exact Aq _ rfl);show _/\_;rw[z2,z3,z4] at o5;rw[z3] at o4;rw[z1,z2] at o3;rw[z1] at o2;rw[z4];refine⟨⟨_,o5,rfl⟩,h _ ⟨o5,o3,⟨_,_,o4⟩,?_,?_⟩ u0⟩
 ·cases t1 with
  |true=>exact⟨_,o1,rfl,rfl⟩
  |false=>exact⟨_,o1,rfl,rfl⟩
 ·cases t2 with
  |true=>exact⟨_,o2,rfl,rfl⟩
  |false=>exact⟨_,o2,rfl,rfl⟩
theorem eX(n a b:Nat)(ha:a<n)(hb:b<n):Nc (n+4) (n+2) (n+3) n (n+1) a b:=by
 have f:∀x y:Nat,x<y∨y<x->x≠y:=λx y h=>by lia
 exact⟨f _ _ (by lia),f _ _ (by lia),f _ _ (by lia),f _ _ (by lia),f _ _ (by lia),f _ _ (by lia),f _ _ (by lia),f _ _ (by lia),f _ _ (by lia),f _ _ (by lia),f _ _ (by lia),f _ _ (by lia),f _ _ (by lia),f _ _ (by lia),f _ _ (by lia),f _ _ (by lia),f _ _ (by lia),f _ _ (by lia)⟩
noncomputable def Itz(K:Ai)(t1 t2:Bool)(a b:Um):It:=
  ⟨λi H=>∃xs ys x y,LA K t1 H a xs/\LA K t2 H b ys/\xs[i]?=some x/\ys[i]?=some y,λi H v H'=>∃p x y,(∀xs,LA K t1 H a xs->xs[i]?=some x)/\(∀ys,LA K t2 H b ys->ys[i]?=some y)/\H p=none/\H'=upd H p (.tup [x,y])/\v=.ref p,λi H=>∃xs ys,LA K t1 H a xs/\LA K t2 H b ys/\(xs.length<=i∨ys.length<=i)⟩
theorem AL{P:As}{w:Uu}{K:Ai}{es:List Ut}{k:Nat}{pos:Pos}(t1 t2:Bool)(z p q i1 i2 a b:Um)(D:Nc z p q i1 i2 a b):
  FL P w K (.Tuple es k pos) (Itz K t1 t2 a b) [z,p,q,i1,i2] z (λi h=>ZSt t1 t2 h z p q i1 i2 a b i .none) where
 mem:=by simp
 obj:=λi h st c hc=>by
  simp only[Ak,Aw,or_false] at hc;rcases hc with rfl|rfl|rfl|rfl|rfl
  ·exact⟨_,st.zip,λv e=>by cases e⟩
  ·exact⟨_,st.its,λv e=>by cases e⟩
  ·obtain⟨u,v,g⟩:=st.res
   exact⟨_,g,λv e=>by cases e⟩
  ·exact st.one.obj
  ·exact st.two.obj
 keep:=λi h h' st kk=>by obtain⟨u,v,g⟩:=st.res;exact⟨kk z (by simp) _ st.zip,kk p (by simp) _ st.its,⟨u,v,kk q (by simp) _ g⟩,st.one.at λo e=>kk i1 (by simp) o e,st.two.at λo e=>kk i2 (by simp) o e⟩
 item:=by
  intro X hP hw hK hc i aa s σ H E I hf st hg;subst hP hw hK;obtain⟨xs,ys,x,y,hq1,hq2,hx,hy⟩:=hg;obtain⟨us,r1,g1,_⟩:=I.srcA hq1;obtain⟨vs,r2,g2,_⟩:=I.srcA hq2;obtain⟨u,hu,ru⟩:=r1.get hx;obtain⟨v,hv,rv⟩:=r2.get hy;refine F0 D st g1 g2 (by simpa using hu) (by simpa using hv) λh1 st1 hp hsz hk=>⟨_,rfl,?_⟩;refine wpAny_letOwnedTupleGo_zip (s:={s with heap:=h1}) st1.zip λh2 z2 sb=>?_;have sb:Fl z h1 h2:=sb;have lt:∀c∈[z,p,q,i1,i2],c<s.heap.objs.size:=λc hc=>by
   simp only[Ak,Aw,or_false] at hc;rcases hc with rfl|rfl|rfl|rfl|rfl
   ·exact Aj st.zip
   ·exact Aj st.its
   ·obtain⟨u,v,g⟩:=st.res
    exact Aj g
   ·obtain⟨o,e,_⟩:=st.one.obj
    exact Aj e
   ·obtain⟨o,e,_⟩:=st.two.obj
    exact Aj e
  have up:∀c o,c≠z->h1.get? c=some o->h2.get? c=some o:=λc o hcz e=>(sb.2 c hcz).trans e;have st2:ZSt t1 t2 h2 z p q i1 i2 a b (i+1) .none:=by obtain⟨u',v',g⟩:=st1.res;exact⟨z2,up _ _ D.TIz st1.its,⟨u',v',up _ _ D.TOz g⟩,st1.one.at λo e=>up _ o D.i1z e,st1.two.at λo e=>up _ o D.i2z e⟩
  have fo:h2.get? s.heap.objs.size=some {cls:=.type "tuple",data:=.seq #[u,v]}:=up _ _ (Hk (lt z (by simp))) hp;have c7:H s.heap.objs.size=none:=I.hok.fresh (Ap _);have I0:b9 X aa σ (upd H s.heap.objs.size (.tup [x,y])) {s with heap:=s.heap.push {cls:=.type "tuple",data:=.seq #[u,v]},toks:=s.toks}:=
   I.laid (λc o e=>Ac _ e) (Ap _) ⟨by show 2<=sizeLine;decide,[u,v],.cons ru (.cons rv .nil),Ka _ _⟩
  have I1:b9 X aa σ (upd H s.heap.objs.size (.tup [x,y])) {s with heap:=h2,toks:=s.toks}:=by
   refine b9.turnedL (s:={s with heap:=s.heap.push {cls:=.type "tuple",data:=.seq #[u,v]},toks:=s.toks}) (h':=h2) (t':=s.toks) (fp:=[z,p,q,i1,i2]) I0 (λc o hc e=>?_) (λc hc=>?_) λc hc=>⟨by rw[bM (Au (lt c hc))];exact(hf c hc).1,(hf c hc).2⟩
   ·by_cases hcn:c=s.heap.objs.size
    ·subst hcn
     have e:(s.heap.push {cls:=.type "tuple",data:=.seq #[u,v]}).get? s.heap.objs.size=some o:=e;rw[Aq _ rfl] at e;cases e;exact fo
    ·have e':=(Ja _ _ _ hcn).symm.trans e
     exact up c o (λw=>hc (by simp[w])) (hk c o (λw=>hc (by simp[w])) (λw=>hc (by simp[w])) (λw=>hc (by simp[w])) (λw=>hc (by simp[w])) e')
   ·simp only[Ak,Aw,or_false] at hc
    rcases hc with rfl|rfl|rfl|rfl|rfl
    ·exact⟨_,st2.zip⟩
    ·exact⟨_,st2.its⟩
    ·obtain⟨u,v,g⟩:=st2.res
     exact⟨_,g⟩
    ·obtain⟨o,e,_⟩:=st2.one.obj
     exact⟨o,e⟩
    ·obtain⟨o,e,_⟩:=st2.two.obj
     exact⟨o,e⟩
  exact⟨.ref s.heap.objs.size,_,I1,rfl,⟨_,x,y,λzs hz=>by rw[I.sq_inj hz hq1];exact hx,λzs hz=>by rw[I.sq_inj hz hq2];exact hy,c7,rfl,rfl⟩,st2,λc hc=>by rw[bM (Au (lt c hc))];exact(hf c hc).1⟩
 done:=by
  intro X hP hw hK hc i aa s σ H E I hf st hg;subst hP hw hK;obtain⟨xs,ys,hq1,hq2,i7⟩:=hg;obtain⟨us,r1,g1,_⟩:=I.srcA hq1;obtain⟨vs,r2,g2,_⟩:=I.srcA hq2;have l1:=r1.length;have l2:=r2.length;have he:us.toArray[i]?=none∨vs.toArray[i]?=none:=by
   rcases i7 with z|z
   ·exact .inl (by simp;lia)
   ·exact .inr (by simp;lia)
  refine CU (I.ok.hd hc) D st g1 g2 he λh1 hk=>⟨rfl,?_⟩;have fq:∀c∈[z,q,i1,i2],c∈[z,p,q,i1,i2]:=λc hc=>by simp only[Ak,Aw,or_false] at hc⊢;rcases hc with w|w|w|w<;>simp[w]
  have I':=b9.turnedL' (s:=s) (h':=h1) (t':=s.toks) (fp:=[z,q,i1,i2]) I (λc o hc e=>hk c o (λw=>hc (by simp[w])) (λw=>hc (by simp[w])) (λw=>hc (by simp[w])) (λw=>hc (by simp[w])) e) λc hc=>hf c (fq c hc);exact I'
 self:=λ_ i _ _ _ st h=>wpAny_pyIter_zip st.zip h
section
variable{X:Cx}{K:Ai}{ml:List Nat}{l m:Ut}{pa ta ia pb tb ib:Bool}{f g:VF}{p pos dq:Pos}{es:List Ut}{tk:Nat}{δ:Ev}
def iZp(K:Ai)(tl tm:TE):TI:=λσ H R=>tl σ H λx H1=>tm σ H1 λy H2=>∃a b t1 t2,x=.ref a/\y=.ref b/\(∃xs,LA K t1 H2 a xs)/\(∃ys,LA K t2 H2 b ys)/\R (Itz K t1 t2 a b) H2
theorem fH{tl tm:TE}(hg:Gl X "zip")(hm:X.mg "zip"=none)(hl:PE X l tl)(hr:PE X m tm)(he:Uo (l::[m]) X.env=(false,eval l X.env)::Uo [m] X.env:=by rfl)(he2:Uo (m::[]) X.env=(false,eval m X.env)::Uo [] X.env:=by rfl)(hpl:(Dq pos (Uo [m] X.env)).any (·.1)=false:=by rfl):PI X (.Tuple es tk dq) (.Call (.Name "zip" p) [l,m] [] pos) (iZp X.K tl tm):=by
 intro aa s σ H R I h;refine Eg (SM I hg hm nH ?_ (by decide) (by decide));refine Ee (ZD (bD hl (bD hr ZO he2) he pos aa s σ H (λvs H1=>match vs with
  |[x,y]=>∃a b t1 t2,x=.ref a/\y=.ref b/\(∃xs,LA X.K t1 H1 a xs)/\(∃ys,LA X.K t2 H1 b ys)/\R (Itz X.K t1 t2 a b) H1
  |_=>False) I h) λus s1 ⟨vs,H1,I1,r1,q1⟩=>?_) he hpl
 match vs,r1,q1 with
 |[x,y],r1,q1=>
  obtain⟨a,b,t1,t2,rfl,rfl,⟨xs,hq1⟩,⟨ys,hq2⟩,hR⟩:=q1;obtain⟨u,v,rfl,ru,rv⟩:=JE r1;cases ru;cases rv;obtain⟨us,w1,g1,_⟩:=I1.srcA hq1;obtain⟨vs,w2,g2,_⟩:=I1.srcA hq2;refine BY g1 g2 λh' st kp=>?_;have I2:b9 X aa σ H1 {s1 with heap:=h'}:=I1.kept (t':=s1.toks) kp;have ha:=g1.lt;have hb:=g2.lt;have D:Nc (s1.heap.objs.size+4) (s1.heap.objs.size+2) (s1.heap.objs.size+3) s1.heap.objs.size (s1.heap.objs.size+1) a b:=by exact eX _ a b ha hb
  refine wpAny_pyIter_zip st.zip ⟨s1.heap.objs.size+4,[s1.heap.objs.size+4,s1.heap.objs.size+2,s1.heap.objs.size+3,s1.heap.objs.size,s1.heap.objs.size+1],_,Itz X.K t1 t2 a b,H1,rfl,I2,AL t1 t2 _ _ _ _ _ a b D,st,λc hc=>?_,hR⟩;have hc':s1.heap.objs.size<=c:=by simp only[Ak,Aw,or_false] at hc;rcases hc with w|w|w|w|w<;>rw[w]<;>first|exact Nat.le_add_right _ _|exact Ap _
  exact I1.fpOk hc' (I1.hok.fresh hc')
theorem dP(h:X.K=K){tl tm:TE}(hg:Gl X "zip")(hm:X.mg "zip"=none)(hl:PE X l tl)(hr:PE X m tm)(he:Uo (l::[m]) X.env=(false,eval l X.env)::Uo [m] X.env:=by rfl)(he2:Uo (m::[]) X.env=(false,eval m X.env)::Uo [] X.env:=by rfl)(hpl:(Dq pos (Uo [m] X.env)).any (·.1)=false:=by rfl):PI X (.Tuple es tk dq) (.Call (.Name "zip" p) [l,m] [] pos) (iZp K tl tm):=by subst h;exact fH hg hm hl hr he he2 hpl
noncomputable def TQ:List cO->List cO->List cO
 |d::ds,e::es=>.tup [d,e]::TQ ds es
 |_,_=>[]
noncomputable def iZip(f g:VF):VI:=λδ=>(f δ).bind λp=>(g p.2).bind λq=>(YH p.1).bind λds=>(YH q.1).map λes=>(TQ ds es,q.2)
theorem JM:∀{ds es:List cO} {i:Nat} {d:cO},(TQ ds es)[i]?=some d->∃x y,ds[i]?=some x/\es[i]?=some y/\d=.tup [x,y]
 |[],_,_,_,h=>by simp[TQ] at h
 |_::_,[],_,_,h=>by simp[TQ] at h
 |x::ds,y::es,0,d,h=>by simp[TQ] at h;exact⟨x,y,rfl,rfl,h.symm⟩
 |x::ds,y::es,i+1,d,h=>by obtain⟨x',y',h1,h2,h3⟩:=JM (ds:=ds) (es:=es) (i:=i) (d:=d) (by simpa[TQ] using h);exact⟨x',y',by simpa using h1,by simpa using h2,h3⟩
theorem JN:∀{ds es:List cO},ds.length<=(TQ ds es).length∨es.length<=(TQ ds es).length
 |[],_=>.inl (Dv _)
 |_::_,[]=>.inr (Dv _)
 |x::ds,y::es=>by
  rcases JN (ds:=ds) (es:=es) with h|h
  ·exact .inl (Qu h)
  ·exact .inr (Qu h)
def gW:cO->Bool
 |.tup _=>true
 |_=>false
theorem bB.sqA{N M:Um->Prop}{H:Hp}{v:V}{d:cO}{ds:List cO}(h:bB K N H M v d)(e:YH d=some ds):∃a tup xs,v=.ref a/\LA K tup H a xs/\bY K N H xs ds/\tup=gW d:=by
  cases d<;>first
    | (cases e
       obtain⟨a,xs,h1,h2,h3⟩:=h.tupE;exact⟨a,true,xs,h1,h2,h3,rfl⟩)
    | (cases e
       obtain⟨a,xs,h1,h2,h3⟩:=h.lstE;exact⟨a,false,xs,h1,h2,h3,rfl⟩)
    |cases e
theorem AU(hK:X.K=K)(hg:Gl X "zip")(hm:X.mg "zip"=none)(h:PE X l (TV K ml pa true true f))(h':PE X m (TV K ml pb true true g))(he:Uo (l::[m]) X.env=(false,eval l X.env)::Uo [m] X.env:=by rfl)(he2:Uo (m::[]) X.env=(false,eval m X.env)::Uo [] X.env:=by rfl)
  (hpl:(Dq pos (Uo [m] X.env)).any (·.1)=false:=by rfl):PI X (.Tuple es tk dq) (.Call (.Name "zip" p) [l,m] [] pos) (TIV K ml (pa&&pb) (iZip f g)):=(dP (K:=K) hK hg hm h h' he he2 hpl).imp λσ H R ⟨B,O,δ,ds,δ2,S,q,k⟩=>by
 unfold iZip at q;cases h1:f δ with
 |none=>rw[h1] at q;cases q
 |some p1=>
  obtain⟨x,δ1⟩:=p1;rw[h1] at q;cases h2:g δ1 with
  |none=>simp[h2] at q
  |some p2=>
   obtain⟨y,δ3⟩:=p2;simp only[Af,h2] at q;cases h3:YH x with
   |none=>rw[h3] at q;cases q
   |some xs=>
    rw[h3] at q;have q:(YH y).map (λes=>(TQ xs es,δ3))=some (ds,δ2):=q;cases h4:YH y with
    |none=>rw[h4] at q;cases q
    |some ys=>
     rw[h4] at q;cases q;refine⟨B,O,δ,x,δ1,S,h1,λv1 H1 R1=>⟨B,O,δ1,y,_,R1.sta,h2,λv2 H2 R2=>?_⟩⟩;have r1:=R1.rep.fr R2.frm (λa z=>.inr z) λa z=>.inr z;obtain⟨a,t1,us,e1,q1,w1,et1⟩:=r1.sqA h3;obtain⟨b,t2,vs,e2,q2,w2,et2⟩:=R2.rep.sqA h4;refine⟨a,b,t1,t2,e1,e2,⟨us,q1⟩,⟨vs,q2⟩,k _ [(v1,x),(v2,y)] H2 (R2.sta.keepV λz hz=>?_) (R1.frm.trans R2.frm) (λz=>?_) ?_⟩
     ·simp only[Ak,Aw,or_false] at hz
      rcases hz with rfl|rfl
      ·exact r1
      ·exact R2.rep
     ·obtain⟨z1,z2⟩:=(Ae _ _).mp z
      exact(R1.pur z1).trans (R2.pur z2)
     ·intro N H h
      obtain⟨a',t1',us',f1,f2,f3,f4⟩:=(h (v1,x) (by simp)).sqA h3;obtain⟨b',t2',vs',g1,g2,g3,g4⟩:=(h (v2,y) (by simp)).sqA h4;have f1:v1=.ref a':=f1;have g1:v2=.ref b':=g1;rw[e1] at f1;rw[e2] at g1;cases f1;cases g1;have:t1'=t1:=f4.trans et1.symm;subst this;have:t2'=t2:=g4.trans et2.symm;subst this;refine⟨λi d e=>?_,us',vs',f2,g2,?_⟩
      ·obtain⟨dx,dy,hx,hy,rfl⟩:=JM e
       obtain⟨ux,ex,rx⟩:=f3.get hx;obtain⟨uy,ey,ry⟩:=g3.get hy;refine⟨⟨us',vs',ux,uy,f2,g2,ex,ey⟩,λz H' hz=>?_⟩;obtain⟨pp,x',y',c1,c2,hp,rfl,rfl⟩:=hz;have d1:=c1 us' f2;have d2:=c2 vs' g2;rw[ex] at d1;rw[ey] at d2;cases d1;cases d2;exact⟨cJ hp,.tup (WF.of b5) (.cons (rx.same (cJ hp)) (.cons (ry.same (cJ hp)) .nil))⟩
      ·rcases JN (ds:=xs) (es:=ys) with w|w
       ·exact .inl (by rw[f3.length];exact w)
       ·exact .inr (by rw[g3.length];exact w)
end
end L2
namespace L2
open PySem PySem.Spec PyProof.Rows PySem.W
section
variable{prog:As}{w:Uu}{A:Bt}{E:Ul->Ad->Prop}{s:Ad}
theorem GS{t:Um}{items:Array Ul}{Q:List Ul->Ad->Prop}(hh:A.handled=none)(ht:IsTup s.heap t items)(h1:1<=items.size)(hz:items.size<=16777216)(hQ:∀(x:Ul) (hb:Uw) (tk:Nat),items[0]?=some x->(∀b o,s.heap.get? b=some o->hb.get? b=some o)->Q [x,.ref hb.objs.size] {s with heap:=hb.push {cls:=.type "list",data:=.seq (items.toList.drop 1).toArray},toks:=tk}):Uq (Ur prog w) A (Jz (.ref t) 2 (some 1)) Q E s:=by
 have hne:t≠s.heap.objs.size:=by obtain⟨o,e,_⟩:=ht;exact Au (Aj e)
 (unfold Jz)
 refine Aa ?_
 (unfold notIterableAtAll)
 refine Aa (wpAny_specialOf ht.typeIs slot_tuple_iter.lookup (Ah ?_));simp only[Eu,if_false];refine Aa (Bq (iter_tuple ht (Aa (Bq (draw_tuple hne 1 0 _ _ ⟨_,Aq _ rfl,rfl,rfl⟩ (ht.push _) (by lia) λha ia ba=>?_)))));have ta:IsTup ha t items:=(ht.push _).extBut ba.extBut hne;have ia:ha.IsTupleIter s.heap.objs.size t 1:=ia;obtain⟨oi,gi,_⟩:=id ia;obtain⟨ot,gt,_⟩:=id ta;have hsz:ha.objs.size=s.heap.objs.size+1:=by rw[ba.1,Ct]
 have nk:((items.toList.drop 0).take 1).length=1:=by simp;lia
 rw[if_neg (show¬((items.toList.drop 0).take 1).length<1 by rw[nk];exact Cb _)];refine Aa (Bq (kun_collect (s:={s with heap:=ha}) (T:= "tuple_iterator") (.inr (.inr (.inr rfl))) (Walks.tuple (A:=A.in1) hh s.heap.objs.size t hne items) (λj u st=>st.1.typeIs) (k:=1) h1 ⟨ia,ta⟩ (Aj gi) (Aj gt) (λhb tk kb=>?_) (by rw[Bu];exact hz)));have q9:(items.toList.drop 1).length=items.size - 1:=by simp
 show Uq _ _ (if(items.toList.drop 1).length<2 - 1 - 1 then _ else _) _ _ _;rw[if_neg (Mw _)];show Uq _ _ (newList ((items.toList.drop 1).take ((items.toList.drop 1).length - (2 - 1 - 1)))>>=λd=>pure ((items.toList.drop 0).take 1++[d]++(items.toList.drop 1).drop ((items.toList.drop 1).length - (2 - 1 - 1)))) _ _ _;have e1:(items.toList.drop 1).take ((items.toList.drop 1).length - (2 - 1 - 1))=items.toList.drop 1:=Ck (Ap _);have e2:(items.toList.drop 1).drop ((items.toList.drop 1).length - (2 - 1 - 1))=[]:=Gi;rw[e1,e2];refine Aa (Df (Ah ?_) (by show _<=sizeLine;rw[Bu];simp;lia));obtain⟨x,hx⟩:∃x,items[0]?=some x:=⟨items[0],by simp[show 0<items.size by lia]⟩;have e3:(items.toList.drop 0).take 1=[x]:=by
  rw[Np];have:items.toList[0]?=some x:=by simpa using hx
  cases hl:items.toList with
  |nil=>rw[hl] at this;cases this
  |cons y r=>rw[hl] at this;cases this;rfl
 rw[e3];have keep:∀b o,s.heap.get? b=some o->hb.get? b=some o:=λb o e=>kb b o (Au (Aj e)) (ba.extBut b o (Au (Aj e)) (Ac _ e));exact hQ x hb tk hx keep
end
section
variable{X:Cx}{K:Ai}{ml:List Nat}{e a b c:Ut}{es:List Ut}{pa ta ia pb tb ib pc tc ic pu bt bi ps bs:Bool}{fa fb fc f:VF}{B B':Bs}{O:Nat->Option Um}{H H0 H1 H':Hp}{σ:St}{δ δ':Ev}{v:V}{d:cO}{p:Um}{pos:Pos}
def Ze(K:Ai)(i j:Nat):TG:=λv σ H Q=>∃a x xs,v=.ref a/\WF K H a (x::xs)/\∀p,H p=none->Q ((σ.set i (some x)).set j (some (.ref p))) (upd H p (.lst xs))
theorem oA{i j:Nat}{x y:Us}{px py ps tp:Pos}{k:Nat}(hc:X.calm=true)(hN:X.N.Nodup)(hi:X.N[i]?=some x)(hj:X.N[j]?=some y)(hx:BO X.env.scope x)(hy:BO X.env.scope y)(fx:X.fn x=true∨X.env.scope.names.lookup x=some .local)(fy:X.fn y=true∨X.env.scope.names.lookup y=some .local)(hl:(Uv [.Name x px,.Starred (.Name y py) ps] X.env).map (·.2)=[Hv (.Name x px) X.env,Hv (.Name y py) X.env])(hn:(Uv [.Name x px,.Starred (.Name y py) ps] X.env).length=2)(hst:(Uv [.Name x px,.Starred (.Name y py) ps] X.env).findIdx? (·.1)=some 1):PG X (.Tuple [.Name x px,.Starred (.Name y py) ps] k tp) (Ze X.K i j):=by
 intro aa s σ H v u Q I r hw;obtain⟨a,z,zs,e1,hq,q⟩:=hw;subst e1;cases r;obtain⟨its,rv,ht,hz⟩:=I.tuple hq;rw[assign_Tuple];refine Aa (Fm ?_)
 (unfold unpack)
 rw[hn,hst];have ag:=rv.length;rw[Bm] at ag;have hz':its.length<=16777216:=by rw[<-Bu,<-ag];exact hz
 refine Aa (Bq (GS (I.ok.hd hc) ht (by rw[Am];lia) (by rw[Am];exact hz') λu hb tk hu kp=>?_));rw[hl];cases rv with
 | @cons _ w _ ws rz rzs=>
  have hu:some w=some u:=by simpa using hu
  cases hu;have I1:b9 X aa σ H {s with heap:=hb,toks:=tk}:=I.kept kp;have I2:=b9.lnew (s:={s with heap:=hb,toks:=tk}) (t':=tk) I1 rzs (by rw[Bu];simp only[Bm] at hz' ag;have:=rzs.length;lia);refine Ed (Ip (YY I2 hN hi hx rz (λs3 I3=>?_) fx));refine Ed (Ip (YY I3 hN hj hy (v:=.ref hb.objs.size) rfl (λs4 I4=>Iq ⟨_,_,I4,q _ (I1.hok.fresh (Ap _))⟩) fy))
noncomputable def ML(i j:Nat)(f:VF):VS:=λδ=>(f δ).bind λp=>match p.1 with
 |.tup (d::ds)=>some (.nx ((p.2.set i (.va d)).set j (.va (.lst ds))))
 |_=>none
theorem FG{i j:Nat}{x y:Us}{px py sp tp:Pos}{k:Nat}(hK:X.K=K)(hc:X.calm=true)(hN:X.N.Nodup)(hi:X.N[i]?=some x)(hj:X.N[j]?=some y)(hij:i≠j)(hx:BO X.env.scope x)(hy:BO X.env.scope y)(he:PE X e (TV K ml pu true true f))(hmi:i∉ml:=by decide)(hmj:j∉ml:=by decide)(fx:X.fn x=true∨X.env.scope.names.lookup x=some .local:=by first|exact .inl rfl|exact .inr rfl|assumption)(fy:X.fn y=true∨X.env.scope.names.lookup y=some .local:=by first|exact .inl rfl|exact .inr rfl|assumption)(hl:(Uv [.Name x px,.Starred (.Name y py) sp] X.env).map (·.2)=[Hv (.Name x px) X.env,Hv (.Name y py) X.env]:=by rfl)(hn:(Uv [.Name x px,.Starred (.Name y py) sp] X.env).length=2:=by rfl)(hst:(Uv [.Name x px,.Starred (.Name y py) sp] X.env).findIdx? (·.1)=some 1:=by rfl)(hs:Gf [.Tuple [.Name x px,.Starred (.Name y py) sp] k tp] e pos.line X.env=pure false:=by rfl)(hw:Gg [.Tuple [.Name x px,.Starred (.Name y py) sp] k tp] e X.env=pure none:=by rfl)(h1:(Uv [.Tuple [.Name x px,.Starred (.Name y py) sp] k tp] X.env).map (·.2)=[Hv (.Tuple [.Name x px,.Starred (.Name y py) sp] k tp) X.env]:=by rfl):PS X (.Assign [.Tuple [.Name x px,.Starred (.Name y py) sp] k tp] e pos) (V6 K ml (ML i j f)):=by
 subst hK;refine(GF he (oA hc hN hi hj hx hy fx fy hl hn hst) hs hw h1).imp λD σ H ⟨B,O,δ,o,S,q,k⟩=>?_;unfold ML at q;cases h1:f δ with
 |none=>rw[h1] at q;cases q
 |some p1=>
  obtain⟨z,δ1⟩:=p1;rw[h1] at q;refine⟨B,O,δ,z,δ1,S,h1,λv H1 R=>?_⟩;cases z with
  |tup ds=>
   cases ds with
   |nil=>cases q
   |cons d ds=>
    cases q;obtain⟨a,xs,rfl,sq,r⟩:=R.rep.tupE;cases r with
    | @cons v0 vs _ _ r1 r2=>
     refine⟨a,v0,vs,rfl,sq,λp hp=>?_⟩;have S1:=(R.sta.same (cJ (o:=.lst vs) hp)).setVa hmi (r1.same (cJ (o:=.lst vs) hp));have N1:∀c,Nn B (λj=>if j=i then none else O j) c->Nn B O c:=RN (o:=none);refine k _ _ _ (S1.setVa hmj (.lst b5 (λz=>R.sta.new hp (N1 _ z)) ((r2.same (cJ hp)).mono N1)))
  |_=>cases q
end
end L2
namespace L2
open PySem PySem.Spec PyProof.Rows
section
variable{X:Cx}{K:Ai}{ml:List Nat}{e a b c:Ut}{es:List Ut}{pa ta ia pb tb ib pc tc ic pu bt bi ps bs:Bool}{fa fb fc f:VF}{B B':Bs}{O:Nat->Option Um}{H H0 H1 H':Hp}{σ:St}{δ δ':Ev}{v:V}{d:cO}{p:Um}{pos:Pos}
def rInD(K:Ai)(neg:Bool):R2:=λx y H Q=>∃d e ds,Dp K H x d/\Dp K H y e/\(e=.list ds∨e=.tuple ds)/\Es d=true/\Es e=true/\Q (.bl (if neg then !ds.any (λz=>Ju z d) else ds.any λz=>Ju z d)) H
theorem RY{d:No}(h:Es d=true):d.canLay0=true/\d.depth<=64:=by unfold Es at h;simp only[Ae,decide_eq_true_eq] at h;exact h
theorem Xj(neg:Bool)(hu:X.A.units+64<cLine):W9 X (Cr (if neg then .NotIn else .In)) (rInD X.K neg):=by
 intro aa s σ H x y v u Q I rx ry h;obtain⟨d,e,ds,hd,he,hk,sd,se,q⟩:=h;obtain⟨as,h1⟩:=I.reads hd rx;obtain⟨bs,h2⟩:=I.reads he ry;obtain⟨c1,d1⟩:=RY sd;obtain⟨c2,d2⟩:=RY se;have fin:∀k,(k=if neg then !ds.any (λz=>Ju z d) else ds.any λz=>Ju z d)->EP X aa σ Q (.bool k) s:=λk hk=>by subst hk;exact⟨.bl _,H,I,rfl,q⟩
 rcases hk with rfl|rfl
 ·have hc : Jb ds = true := by simpa [Gk] using c2
  have i8:Fe ds<=63:=by simp only[Jk] at d2;lia
  have hm:X.A.units+1+min (Fe ds) d.depth<cLine:=by have:=Rv (Fe ds) d.depth;lia
  cases neg with
  |false=>exact SeqAt.in_list_reads h2 h1 hc c1 hm (fin _ rfl)
  |true=>exact SeqAt.notIn_list_reads h2 h1 hc c1 hm (fin _ rfl)
 ·have hc : Jb ds = true := by simpa [Gk] using c2
  have i8:Fe ds<=63:=by simp only[Jk] at d2;lia
  have hm:X.A.units+1+min (Fe ds) d.depth<cLine:=by have:=Rv (Fe ds) d.depth;lia
  cases neg with
  |false=>exact SeqAt.in_tuple_reads h2 h1 hc c1 hm (fin _ rfl)
  |true=>exact SeqAt.notIn_tuple_reads h2 h1 hc c1 hm (fin _ rfl)
theorem TL(h:X.K=K)(hu:X.A.units+64<cLine):W9 X (Cr .In) (rInD K false):=by subst h;exact Xj false hu
theorem RJ(h:X.K=K)(hu:X.A.units+64<cLine):W9 X (Cr .NotIn) (rInD K true):=by subst h;exact Xj true hu
def LV(d:cO)(ds:List cO):Bool:=(BJ ds).any λz=>Ju z d.pd
noncomputable def Z0(neg:Bool)(d e:cO):Option cO:=(YH e).bind λds=>if(MB d&&MB e)=true then some (.bl (if neg then !LV d ds else LV d ds)) else none
theorem YX{neg:Bool}:QF K (rInD K neg) (Z0 neg):=by
 intro H N N' M M' x y d e c Q hx hy h k;unfold Z0 at h;cases hs:YH e with
 |none=>rw[hs] at h;cases h
 |some ds=>
  rw[hs] at h;have h:(if(MB d&&MB e)=true then some (cO.bl (if neg then !LV d ds else LV d ds)) else none)=some c:=h;split at h
  ·rename_i hh
   cases h;simp only[MB,Ae] at hh;refine⟨d.pd,e.pd,BJ ds,hx.dp hh.1.1,hy.dp hh.2.1,?_,hh.1.2,hh.2.2,k _ λ_ _ _=>.bl _⟩;cases e<;>first
    |(cases hs;exact .inr rfl)
    |(cases hs;exact .inl rfl)
    |cases hs
  ·cases h
def kS(K:Ai)(td ty:TE):TE:=λσ H Q=>td σ H λx H1=>∃a,x=.ref a/\((IsD H1 a/\ty σ H1 λy H2=>∃o,QD H2 a y o/\Q (o.getD .non) H2)∨∃D,KTab K a D/\ty σ H1 λy H2=>∃k,y=.str k/\Q ((Ft k D).getD .non) H2)
theorem jX{ao af:Pos}{td ty:TE}(hu:X.A.units+1<cLine)(ho:PE X a td)(he:PE X e ty)(m:M1 X a "get" ao e af):PE X (.Call (.Attribute a "get" ao) [e] [] af) (kS X.K td ty):=by
 intro aa s σ H Q I h;refine Pq m.base m.few m.line Ls Eb Mt (ZD (ho aa s σ H _ I h) λu s1 ⟨x,H1,I1,rx,l,ex,q1⟩=>?_);subst ex;obtain rfl:u=Ba l:=rx;rcases q1 with⟨hd,q1⟩|⟨D,T,q1⟩
 ·obtain⟨t1,t2,_⟩:=Xn I1 hd
  refine⟨t1,t2,?_⟩;rw[m.trees];refine Fg rfl (Ek (Ef (ZD (he aa s1 σ H1 _ I1 q1) λiv s2 ⟨y,H2,I2,ry,ov,g,q2⟩=>Gw ?_)));exact kT hu I2 g ry λw' s3 I3 rw'=>⟨_,H2,I3,rw',q2⟩
 ·obtain⟨nu,o,qf,ep,hk,hex,aw,_⟩:=id T
  refine⟨⟨o,I1.kIn _ _ hk,hex.1⟩,λb q=>?_,?_⟩
  ·cases q
   exact⟨o,I1.kIn _ _ hk,hex.2.1⟩
  rw[m.trees];refine Fg rfl (Ek (Ef (ZD (he aa s1 σ H1 _ I1 q1) λiv s2 ⟨y,H2,I2,ry,k,ey,q2⟩=>Gw ?_)));subst ey;obtain⟨t,rfl⟩:=ry;have hT:s2.TypeIs (.ref l) "dict":=⟨o,I2.kIn _ _ hk,hex.1⟩;refine El Eb hT Fh ?_ (Ig _ _);show Uq _ _ (dictGet l (.str k t)>>=_) _ _ s2;refine Aa (HP I2.kIn T (λd' v' ha hv=>Ah ⟨v',rfl,?_⟩) λhn=>?_)
  ·rw[ha] at q2
   exact⟨d',H2,I2.tok _,hv,q2⟩
  ·rw[hn] at q2
   show Uq _ _ (Oa l (.str k t)>>=_) _ _ _;unfold Oa;rw[if_neg (by rw[nu];exact Dr)];exact Aa (Ah (Ah ⟨.none,rfl,.non,H2,I2.tok _,rfl,q2⟩))
noncomputable def Wj:cO->cO->Option cO
 |.dct ks ds,.str x=>some ((aU ks ds (.inr x)).getD .non)
 |_,_=>none
theorem gD{ao af:Pos}(hK:X.K=K)(hu:X.A.units+1<cLine)(ha:PE X a (TV K ml pa ta ia fa))(hb:PE X b (TV K ml pb tb ib fb))(m:M1 X a "get" ao b af)(hs:(pb || (ta&&ia))=true:=by rfl):PE X (.Call (.Attribute a "get" ao) [b] [] af) (TV K ml (pa&&pb) ia ia (f2 Wj fa fb)):=by
 subst hK;refine(jX hu ha hb m).imp λσ H Q ⟨B,O,δ,d,δ2,S,q,k⟩=>?_;obtain⟨x,δ1,y,h1,h2,h3⟩:=R9 q;refine⟨B,O,δ,x,δ1,S,h1,λv1 H1 R1=>?_⟩;have fin:∀v2 H2 (R2:BD X.K ml B O H1 σ pb tb ib H2 δ2 v2 y) o,bB X.K (av B O ia) H2 (av B O ia) o d->Q o H2:=λv2 H2 R2 o ho=>k o H2 ⟨R2.sta,R1.frm.trans R2.frm,λz=>by obtain⟨z1,z2⟩:=(Ae _ _).mp z;exact(R1.pur z1).trans (R2.pur z2),ho.mono (λ_ z=>z) Vs⟩
 cases x with
 |dct ks ds=>
  cases y with
  |str z=>
   cases h3;generalize hx:cO.dct ks ds=dd at R1;have r1:=R1.rep;cases r1 with
   | @dct _ l kvs ds' qd n r=>
    cases hx;refine⟨l,rfl,.inl ⟨.inl ⟨_,.inl qd⟩,B,O,δ1,_,δ2,R1.sta,h2,λv2 H2 R2=>?_⟩⟩;have r2:=R2.rep;cases r2;have h4:H2 l=some (.dK kvs)/\bY X.K (av B O ia) H2 (kvs.map Er) ds:=by
     cases pb with
     |true=>exact⟨R2.pur rfl _ _ qd,r.same (R2.pur rfl)⟩
     |false=>
      have hs:(ta&&ia)=true:=by simpa using hs
      obtain⟨z1,z2⟩:=(Ae _ _).mp hs;subst z1 z2;exact⟨R2.frm _ _ qd λw=>absurd (.inr w) n,r.fr R2.frm λa z=>.inr z⟩
    refine⟨_,QD.k (k:=.inr z) h4.1,fin _ _ R2 _ ?_⟩;rcases RL (k:=.inr z) h4.2 with⟨v,d',g1,g2,g3⟩|⟨g1,g2⟩
    ·rw[g1,g2];exact g3
    ·rw[g1,g2];exact .non
   | @ktb _ l D ds' T r=>
    cases hx;refine⟨l,rfl,.inr ⟨D,T,B,O,δ1,_,δ2,R1.sta,h2,λv2 H2 R2=>?_⟩⟩;have r2:=R2.rep;cases r2;refine⟨z,rfl,fin _ _ R2 _ ?_⟩;have r':bY X.K (av B O ia) H2 (D.map Er) ds:=by
     cases pb with
     |true=>exact r.same (R2.pur rfl)
     |false=>
      have hs:(ta&&ia)=true:=by simpa using hs
      obtain⟨z1,z2⟩:=(Ae _ _).mp hs;subst z1 z2;exact r.fr R2.frm λa z=>.inr z
    rcases QH (k:=z) r' with⟨v,d',g1,g2,g3⟩|⟨g1,g2⟩
    ·rw[g1,g2];exact g3
    ·rw[g1,g2];exact .non
   |_=>cases hx
  |_=>cases h3
 |_=>cases h3
end
theorem iH:Be "all"=some (.builtin "all"):=by decide+kernel
theorem fQ:Be "dict"=some (.type "dict"):=by decide+kernel
section
variable{X:Cx}{K:Ai}{ml:List Nat}{e a b c:Ut}{es:List Ut}{pa ta ia pb tb ib pc tc ic pu bt bi ps bs:Bool}{fa fb fc f:VF}{B B':Bs}{O:Nat->Option Um}{H H0 H1 H':Hp}{σ:St}{δ δ':Ev}{v:V}{d:cO}{p:Um}{pos:Pos}
theorem mM{ks:List Bool}{us:List Ul}(r:bE (ks.map V.bl) us){i:Nat}{u:Ul}(h:us[i]?=some u):∃k,ks[i]?=some k/\u=.bool k:=by
 have hl:=r.length;rw[Bx] at hl;have hi:i<us.length:=(Ag.mp h).1;have e:(ks.map V.bl)[i]?=some (.bl ks[i]):=by simp[hl▸hi]
 obtain⟨w,h1,h2⟩:=r.get e;rw[h] at h1;cases h1;exact⟨ks[i],by simp[hl▸hi],h2⟩
theorem C3{ks:List Bool}:(Bb ks.length).all (λi=>(ks[i]?).getD true)=ks.all id:=by
 induction ks with
 |nil=>rfl
 |cons k ks ih=>
  rw[Bm,Mi,Th,Tx,Th,<-ih];rfl
def ES(K:Ai)(g:List Bool->Bool):RC:=λxs H Q=>∃p ks,xs=[.ref p]/\X6 K H p (ks.map V.bl)/\Q (.bl (g ks)) H
theorem AJ{prog:As}{w:Uu}{A:Bt}{ks:List Bool}{us:List Ul}(r:bE (ks.map V.bl) us):TruthOf prog w A (λi v=>us.toArray[i]?=some v) λi=>(ks[i]?).getD true:=by intro i v s Q E hP hQ;obtain⟨k,h1,rfl⟩:=mM r (by simpa using hP);have hQ:Q ((ks[i]?).getD true) s:=hQ;rw[h1] at hQ;exact Fa hQ
theorem BU(hc:X.calm=true):Z1 X (.builtin "all") (ES X.K λks=>ks.all id):=by
 intro aa s σ H xs us Q I r h;obtain⟨l,ks,rfl,hq,q⟩:=h;obtain⟨u,rfl,rx⟩:=TC r;cases rx;obtain⟨its,rv,pl,hz⟩:=I.list hq;have hl:=pl.isList;have hne:l≠s.heap.objs.size:=by obtain⟨o,g,_⟩:=hl;exact Au (Aj g)
 have ag:=rv.length;rw[Bx] at ag;refine call_all_walk (Gv hl ⟨_,_,_,_,_,_,_,rfl,Walks.list (show X.A.in1.handled=none from I.ok.hd hc) s.heap.objs.size l hne its.toArray,⟨⟨_,Aq _ rfl,rfl,rfl⟩,?_⟩,AJ rv,λh' tk hk=>?_⟩)
 ·obtain⟨o,g,r⟩:=hl
  exact⟨o,Ac _ g,r⟩
 ·rw[Am,<- ag,C3]
  exact⟨.bl _,H,I.kept (t':=tk) λb o g=>hk b o (by simp;exact Au (Aj g)) (Ac _ g),rfl,q⟩
theorem kAll(h:X.K=K)(hc:X.calm=true):Z1 X (.builtin "all") (ES K λks=>ks.all id):=by subst h;exact BU hc
noncomputable def NJ:List cO->Option (List Bool)
 |[]=>some []
 |.bl k::ds=>(NJ ds).map λks=>k::ks
 |_=>none
theorem DU{N:Um->Prop}:∀{xs:List V} {ds:List cO} {ks:List Bool},bY K N H xs ds->NJ ds=some ks->xs=ks.map V.bl
 |_,_,_,.nil,h=>by cases h;rfl
 | _,_,_,@bY.cons _ _ _ v vs d ds h t,e => by
  cases d with
  |bl k=>
   cases h;have e:(NJ ds).map (λks=>k::ks)=some _:=e;cases h2:NJ ds with
   |none=>rw[h2] at e;cases e
   |some ks'=>
    rw[h2] at e;cases e;rw[DU t h2,Ay]
  |_=>cases e
noncomputable def Vx(g:List Bool->Bool):cO->Option cO
 |.lst ds=>(NJ ds).map λks=>.bl (g ks)
 |_=>none
noncomputable abbrev oAll:=Vx λks=>ks.all id
theorem gS{g:List Bool->Bool}:CalS K (ES K g) (Vx g):=by
 intro H N M x d c Q hx h k;cases d with
 |lst ds=>
  have h:(NJ ds).map (λks=>cO.bl (g ks))=some c:=h;cases h1:NJ ds with
  |none=>rw[h1] at h;cases h
  |some ks=>
   rw[h1] at h;cases h;obtain⟨a,xs,rfl,sq,r⟩:=hx.lstE;have:=DU r h1;subst this;exact⟨a,ks,rfl,sq,k _ λ_ _ _=>.bl _⟩
 |_=>cases h
theorem nW:CalS K (ES K λks=>ks.all id) oAll:=gS
noncomputable def WJ:List cO->Option (List Int)
 |[]=>some []
 |.int i::ds=>(WJ ds).map λns=>i::ns
 |_=>none
theorem NY{N:Um->Prop}:∀{xs:List V} {ds:List cO} {ns:List Int},bY K N H xs ds->WJ ds=some ns->xs=ns.map V.int
 |_,_,_,.nil,h=>by cases h;rfl
 | _,_,_,@bY.cons _ _ _ v vs d ds h t,e => by
  cases d with
  |int k=>
   cases h;have e:(WJ ds).map (λks=>k::ks)=some _:=e;cases h2:WJ ds with
   |none=>rw[h2] at e;cases e
   |some ks'=>
    rw[h2] at e;cases e;rw[NY t h2,Ay]
  |_=>cases e
theorem IL{N:Um->Prop}:∀ns:List Int,bY K N H (ns.map V.int) (ns.map cO.int)
 |[]=>.nil
 |i::ns=>.cons (.int i) (IL ns)
theorem rngI{a:Int}{n:Nat}{acc:Array Ul}(h:ItemsOf (λi v=>∃t,v=.int (a+i*1) t) acc n):bE ((Bb n).map λi:Nat=>V.int (a+i)) acc.toList:=by
 obtain⟨h1,h2⟩:=h;have go:∀(m:Nat) (us:List Ul),us.length=m->∀k:Nat,(∀(i:Nat) (v:Ul),us[i]?=some v->∃t,v=.int (a+((k+i:Nat):Int)*1) t)->bE ((Bb m).map λi:Nat=>V.int (a+((k+i:Nat):Int))) us:=by
  intro m;induction m with
  |zero=>intro us hl k _;rw[Gh.mp hl];exact .nil
  |succ m ih=>
   intro us hl k hu;cases us with
   |nil=>cases hl
   |cons u us=>
    rw[Mi,Ay,Ql];obtain⟨t,ht⟩:=hu 0 u rfl;refine .cons ⟨t,by rw[ht];simp⟩ ?_;have:=ih us (by simpa using hl) (k+1) λi v e=>by obtain⟨t,h⟩:=hu (i+1) v (by simpa using e);exact⟨t,by rw[h,show k+(i+1)=k+1+i by lia]⟩
    have e:((λi:Nat=>V.int (a+((k+i:Nat):Int)))∘Nat.succ)=λi:Nat=>V.int (a+((k+1+i:Nat):Int)):=by funext i;simp only[Ti,Nat.succ_eq_add_one];rw[show k+(i+1)=k+1+i by lia]
    rw[e];exact this
 have:=go n acc.toList (by simpa using h1) 0 λi v e=>by have:=h2 i v (by simpa using e);simpa using this
 simpa using this
theorem G8:Z1 X (.type "range") (λxs H Q=>∃j,xs=[.int j]/\∀p,H p=none->Q (.ref p) (upd H p (.ext (rngP p 0 j 1)))):=by intro aa s σ H xs us Q I r h;obtain⟨j,rfl,q⟩:=h;obtain⟨u,rfl,t,rfl⟩:=TC r;refine call_range_1 ?_;have hn:=I.hok.fresh (Ap s.heap.objs.size);refine⟨.ref s.heap.objs.size,_,I.laid (a:=s.heap.objs.size) (o:=.ext (rngP s.heap.objs.size 0 j 1)) (t':=s.toks+1+1) (λ_ _ z=>Ac _ z) (Ap _) ?_,rfl,q _ hn⟩;exact⟨⟨_,_,_,Uf ..⟩,⟨_,Aq _ rfl⟩,λh1 h2 ⟨t,u,v,z⟩ k=>⟨t,u,v,k _ z⟩⟩
theorem M7(hc:X.calm=true):Z1 X (.type "list") (λxs H Q=>∃(p:Um) (j:Int),xs=[.ref p]/\H p=some (.ext (rngP p 0 j 1))/\(0<=j/\j<=16777216)/\∀l,H l=none->Q (.ref l) (upd H l (.lst ((Bb j.toNat).map λi:Nat=>V.int (0+i))))):=by
 intro aa s σ H xs us Q I r h;obtain⟨p,j,rfl,hp,hj,q⟩:=h;obtain⟨u,rfl,rx⟩:=TC r;cases rx;obtain⟨⟨t,u,v,z⟩,_⟩:=I.hok p _ hp;have hn:Hx 0 j 1=(j.toNat:Int):=by
  unfold Hx;rw[if_pos (by decide)];split
  ·rw[Int.ediv_one]
   lia
  ·lia
 have p62:(2:Int) ^ 62=4611686018427387904:=by decide
 have p24:(2:Nat) ^ 24=16777216:=by decide
 have sm:Uh 0 j 1=true:=small_one (a:=0) (b:=j) (by rw[p62];decide) (by rw[p62];decide) (by rw[p62];lia) (by rw[p62];lia);refine call_list_range (I.ok.hd hc) z sm hn (by rw[p24];lia) λh' tk acc c kp hS hI=>?_;have rv:=rngI hI;refine⟨.ref s.heap.objs.size,_,I.laid (a:=s.heap.objs.size) (o:=.lst ((Bb j.toNat).map λi:Nat=>V.int (0+i))) (t':=tk) kp (Ap _) ⟨?_,acc.toList,c,rv,by simpa using hS⟩,rfl,q _ (I.hok.fresh (Ap _))⟩;rw[Bx,Iz,Bu];lia
noncomputable def T2(f:VF):VF:=λδ=>(f δ).bind λp=>match p.1 with
 |.int j=>if 0<=j/\j<=16777216 then some (.lst (Y8 0 j.toNat),p.2) else none
 |_=>none
theorem eS{N:Um->Prop}(lo:Int)(n:Nat):bY K N H ((Bb n).map λi:Nat=>V.int (lo+i)) (Y8 lo n):=by
 unfold Y8;induction (Bb n) with
 |nil=>exact .nil
 |cons x xs ih=>exact .cons (.int _) ih
theorem DM{p1 p2 jl:Pos}(hc:X.calm=true)(hg:Gl X "list")(hm:X.mg "list"=none)(hv:Be "list"=some (.type "list"))(hg2:Gl X "range")(hm2:X.mg "range"=none)(hv2:Be "range"=some (.type "range"))(ha:PE X a (TV K ml pa ta ia fa))(he:Uo (a::[]) X.env=(false,eval a X.env)::Uo [] X.env:=by rfl)(he2:Uo (.Call (.Name "range" p2) [a] [] jl::[]) X.env=(false,eval (.Call (.Name "range" p2) [a] [] jl) X.env)::Uo [] X.env:=by rfl):PE X (.Call (.Name "list" p1) [.Call (.Name "range" p2) [a] [] jl] [] pos) (TN K ml pa (T2 fa)):=
 (V3 (M7 hc) hg hm hv (bD (V3 G8 hg2 hm2 hv2 (bD ha ZO he) (by decide) (by decide) he) ZO he2) (by decide) (by decide) he2).imp λσ H Q q0 => by
  obtain⟨B,O,δ,d,δ',S,q,k⟩:=q0;unfold T2 at q;cases h1:fa δ with
  |none=>rw[h1] at q;cases q
  |some p1=>
   obtain⟨x,δ1⟩:=p1;rw[h1] at q;cases x with
   |int j=>
    have q:(if 0<=j/\j<=16777216 then some (cO.lst (Y8 0 j.toNat),δ1) else none)=some (d,δ'):=q;split at q
    ·rename_i hj
     cases q;refine⟨B,O,δ,_,_,S,h1,λv1 H1 R1=>?_⟩;have r1:=R1.rep;cases r1;refine⟨j,rfl,λp hp=>⟨p,j,rfl,b5,hj,λl hl=>?_⟩⟩;have sm:aL H1 (upd H1 p (.ext (rngP p 0 j 1))):=cJ hp;exact k l _ (mkN (R1.sta.same sm) (R1.frm.trans sm.fr) (λz=>(R1.pur z).trans sm) hl (eS 0 j.toNat))
    ·cases q
   |_=>cases q
end
section
variable{X:Cx}{K:Ai}{ml:List Nat}{e a b c:Ut}{es:List Ut}{pa ta ia pb tb ib pc tc ic pu bt bi ps bs:Bool}{fa fb fc f:VF}{B B':Bs}{O:Nat->Option Um}{H H0 H1 H':Hp}{σ:St}{δ δ':Ev}{v:V}{d:cO}{p:Um}{pos:Pos}
noncomputable def WA(n:Int):List Int->Option Nat
 |[]=>none
 |i::ns=>if i=n then some 0 else(WA n ns).map (· +1)
theorem MG{n:Int}:∀{ns:List Int} {j:Nat},WA n ns=some j->ns[j]?=some n/\∀m,m<j->ns[m]? ≠some n
 |[],_,h=>by cases h
 | i :: ns,j,h => by
  unfold WA at h;split at h
  ·rename_i hi
   cases h;exact⟨by rw[hi];rfl,λm hm=>absurd hm (Mw _)⟩
  ·rename_i hi
   cases h1:WA n ns with
   |none=>rw[h1] at h;cases h
   |some k=>
    rw[h1] at h;cases h;obtain⟨h2,h3⟩:=MG h1;refine⟨by simpa using h2,λm hm=>?_⟩;cases m with
    |zero=>simpa using hi
    |succ m=>simpa using h3 m (Mj hm)
theorem JF{ns:List Int}{us:List Ul}(r:bE (ns.map V.int) us){m:Nat}{u:Ul}(h:us[m]?=some u):∃i t,ns[m]?=some i/\u=.int i t:=by
 have hl:=r.length;rw[Bx] at hl;have hm:m<us.length:=(Ag.mp h).1;have e:(ns.map V.int)[m]?=some (.int ns[m]):=by simp[hl▸hm]
 obtain⟨u',e1,t,e2⟩:=r.get e;rw[h] at e1;cases e1;exact⟨ns[m],t,by simp[hl▸hm],e2⟩
noncomputable def NZ(n:Int):Ul->Bool
 |.int i _=>i==n
 |_=>false
theorem Wq{ns:List Int}{its:List Ul}{n:Int}{j:Nat}(r:bE (ns.map V.int) its)(h:WA n ns=some j):∃hj:j<its.toArray.size,NZ n its.toArray[j]=true/\(∀m (hm:m<its.toArray.size),m<j->NZ n its.toArray[m]=false):=by
 obtain⟨h1,h2⟩:=MG h;have hl:=r.length;rw[Bx] at hl;have hj:j<ns.length:=(Ag.mp h1).1;have at_:∀(m:Nat) (hm:m<its.toArray.size),∃i t,ns[m]?=some i/\its.toArray[m]=.int i t:=λm hm=>by
  have hm':m<its.length:=by simpa using hm
  exact JF r (u:=its.toArray[m]) (by simp[hm'])
 refine⟨by simpa[<-hl] using hj,?_,λm hm hmj=>?_⟩
 ·obtain ⟨i,t',e1,e2⟩ := at_ j (by simpa [<- hl] using hj)
  rw[h1] at e1;cases e1;rw[e2];simp[NZ]
 ·obtain⟨i,t',e1,e2⟩:=at_ m hm
  have:=h2 m hmj;rw[e1] at this;rw[e2];exact beq_eq_false_iff_ne.mpr λz=>this (by rw[z])
theorem Yc{ns:List Int}{its:List Ul}(r:bE (ns.map V.int) its){y:Ul}(hy:y∈its.toArray):∃i t,y=.int i t:=by
 obtain⟨m,hm,rfl⟩:=Array.mem_iff_getElem.mp hy;have hm':m<its.length:=by simpa using hm
 obtain⟨i,t,_,e⟩:=JF r (m:=m) (u:=its.toArray[m]) (by simp[hm']);exact⟨i,t,e⟩
def Yv(K:Ai):V->List V->Hp->VK->Prop:=λx vs H Q=>∃(l:Um) (ns:List Int) (n:Int) (j:Nat),x=.ref l/\vs=[.int n]/\X6 K H l (ns.map V.int)/\WA n ns=some j/\Q (.int j) H
theorem CQ:MtM X "list.index" (Yv X.K):=by
 intro aa s σ H x vs v us Q I rx rv h;obtain⟨l,ns,n,j,rfl,rfl,hq,hj,q⟩:=h;cases rx;obtain⟨u,rfl,t,rfl⟩:=rv.one;obtain⟨its,r,⟨o,c,e,hc,hd,aw⟩,hz⟩:=I.list hq;obtain⟨cls,dd,data,sl⟩:=o;simp only at hc hd aw;subst hc hd aw;obtain⟨hjs,h1,h2⟩:=Wq r hj;have hl:=r.length;refine Gc Py ⟨_,e,rfl⟩ Ox (Ob _ _) (Oy l its.toArray c none sl (.int n t) (NZ n) j hjs (by
  have h3:its.length<=16777216:=by rw[<-hl,<-Bu];exact hz
  have h4:j<its.length:=by simpa using hjs
  lia) h1 h2) ⟨e,?_,?_⟩
 ·intro y hy
  obtain⟨i,t',rfl⟩:=Yc r hy;exact SeqAt.EqAt.int_int i t' n t
 ·exact⟨.int j,H,I.tok _,⟨_,rfl⟩,q⟩
theorem jB(h:X.K=K):MtM X "list.index" (Yv K):=by subst h;exact CQ
noncomputable def F4:cO->cO->Option cO
 |.lst ds,.int n=>(WJ ds).bind λns=>(WA n ns).map λj=>.int j
 |_,_=>none
theorem AS{ao af:Pos}(hK:X.K=K)(ha:PE X a (TV K ml pa ta ia fa))(hb:PE X b (TV K ml pb tb ib fb))(c8:Fo a "index" X.env (eval a X.env)=eval a X.env:=by rfl)(di:((Dq af (Uo (b::[]) X.env)).all (λx=> !x.1)&&(Ic af (Fc [] X.env)).all (λx=>x.1.isSome)&&decide ((b::([]:List Ut)).length+([]:List Iy).length+(if([]:List Iy).isEmpty then 0 else 1)<30))=true:=by rfl)(bz:(ao.endLine==af.line)=true:=by rfl)(hs:Uo (b::[]) X.env=(false,eval b X.env)::Uo [] X.env:=by rfl)(ax:(Dq af (Uo [] X.env)).any (·.1)=false:=by rfl)(hl:(pb || (ta&&ia))=true:=by rfl):PE X (.Call (.Attribute a "index" ao) [b] [] af) (TV K ml (pa&&pb) true true (f2 F4 fa fb)):=
 (kBm (K := K) hK Ii Lw Lx (jB hK) ha (bD hb ZO hs) c8 di bz hs ax).imp λσ H Q q0 => by
  obtain⟨B,O,δ,d,δ2,S,q,k⟩:=q0;obtain⟨x,δ1,y,h1,h2,h3⟩:=R9 q;refine⟨B,O,δ,x,δ1,S,h1,λv1 H1 R1=>?_⟩;cases x with
  |lst ds=>
   cases y with
   |int n=>
    have h3:((WJ ds).bind λns=>(WA n ns).map λj=>cO.int j)=some d:=h3;cases h4:WJ ds with
    |none=>rw[h4] at h3;cases h3
    |some ns=>
     rw[h4] at h3;have h3:(WA n ns).map (λj=>cO.int j)=some d:=h3;cases h5:WA n ns with
     |none=>rw[h5] at h3;cases h3
     |some j=>
      rw[h5] at h3;cases h3;obtain⟨l,xs,rfl,sq,_⟩:=R1.rep.lstE;refine⟨.inl ⟨rfl,xs,sq⟩,B,O,δ1,_,δ2,R1.sta,h2,λv2 H2 R2=>?_⟩;have r2:=R2.rep;cases r2;obtain⟨l',xs',e1,sq',r'⟩:=(R2.live hl R1.rep).lstE;cases e1;have:=NY r' h4;subst this;exact⟨l,ns,n,j,rfl,rfl,sq',h5,k _ H2 ⟨R2.sta,R1.frm.trans R2.frm,λz=>by obtain⟨z1,z2⟩:=(Ae _ _).mp z;exact(R1.pur z1).trans (R2.pur z2),.int _⟩⟩
   |_=>cases h3
  |_=>cases h3
def EU:V->List V->Hp->VK->Prop:=λx vs H Q=>∃(l:Um) (ns:List Int) (n:Int) (j:Nat),x=.ref l/\vs=[.int n]/\H l=some (.lst (ns.map V.int))/\WA n ns=some j/\Q .non (upd H l (.lst ((ns.eraseIdx j).map V.int)))
theorem LR{α β:Type}(g:α->β):∀(l:List α) (j:Nat),(l.map g).eraseIdx j=(l.eraseIdx j).map g
 |[],_=>by simp
 |_::_,0=>by simp
 |x::l,j+1=>by simp[LR g l j]
theorem CT:MtM X "list.remove" EU:=by
 intro aa s σ H x vs v us Q I rx rv h;obtain⟨l,ns,n,j,rfl,rfl,hH,hj,q⟩:=h;cases rx;obtain⟨u,rfl,t,rfl⟩:=rv.one;obtain⟨z,its,c,r,hl,e⟩:=I.lstM hH;obtain⟨hjs,h1,h2⟩:=Wq r hj;refine Gc F.slot_list_remove ⟨_,e,rfl⟩ F.entry_list_remove (F.args_list_remove_2 _ _) (MeetsSeq.list_remove l its.toArray c (.int n t) (NZ n) (λy hy=>?_) j hjs h1 h2 (by rw[Am,<-hl];exact z)) ⟨e,?_⟩
 ·obtain⟨i,t',rfl⟩:=Yc r hy
  exact Uc i n t' t
 ·have hlj : j < its.length := by simpa using hjs
  refine⟨.non,_,I.lset (its':=its.eraseIdx j) hH e (by simp[Ld,hlj]) (ys:=(ns.eraseIdx j).map V.int) ?_ ?_,rfl,q⟩
  ·have:=bE.eraseIdx j r
   rwa[LR] at this
  ·rw[Bx]
   have h1:=List.length_eraseIdx_le ns j;rw[Bx] at z;lia
noncomputable def mRem:List cO->List cO->Option (List cO)
 |ds,[.int n]=>(WJ ds).bind λns=>(WA n ns).map λj=>(ns.eraseIdx j).map cO.int
 |_,_=>none
theorem iP:MuV K EU mRem:=by
 intro H N l xs vs ds es ds' Q hl hN rx re h k;cases re with
 |nil=>cases h
 | @cons v vs d es hd t=>
  cases t with
  |cons _ _=>cases d<;>cases h
  |nil=>
   cases d with
   |int n=>
    cases hd;have h:((WJ ds).bind λns=>(WA n ns).map λj=>(ns.eraseIdx j).map cO.int)=some ds':=h;cases h4:WJ ds with
    |none=>rw[h4] at h;cases h
    |some ns=>
     rw[h4] at h;have h:(WA n ns).map (λj=>(ns.eraseIdx j).map cO.int)=some ds':=h;cases h5:WA n ns with
     |none=>rw[h5] at h;cases h
     |some j=>
      rw[h5] at h;cases h;have:=NY rx h4;subst this;exact⟨l,ns,n,j,rfl,rfl,hl,h5,k _ _ (IL _)⟩
   |_=>cases h
end
section
variable{X:Cx}{K:Ai}{ml:List Nat}{e:Ut}{es:List Ut}{pu bt bi bs:Bool}{f:VF}{fs:O9}
theorem cD(h:PE X e (TV K ml pu bt bi f))(hb:(bt&&bi)=true:=by rfl):PE X e (TV K ml pu true true f):=by obtain⟨h1,h2⟩:=(Ae _ _).mp hb;subst h1 h2;exact h
theorem MX(h:PE X e (TV K ml pu bt bi f))(hb:bi=true:=by rfl):PE X e (TV K ml pu bt true f):=by subst hb;exact h
theorem b7(h:PA X es (TAV K ml pu bs fs))(hb:bs=true:=by rfl):PA X es (TAV K ml pu true fs):=by subst hb;exact h
theorem OU{st:Ux}:PS X st (V6 K ml λ_=>none):=λ_ _ _ _ _ _ ⟨_,_,_,_,_,q,_⟩=>nomatch q
variable{a b c:Ut}{pa ta ia pb tb ib pc tc ic:Bool}{fa fb fc:VF}{pos:Pos}{δ:Ev}
end
section
variable{X:Cx}{K:Ai}{ml:List Nat}{e a b c:Ut}{pa ta ia pb tb ib pu:Bool}{fa fb fc f:VF}{B:Bs}{O:Nat->Option Um}{H H':Hp}{σ:St}{δ δ':Ev}{v:V}{d:cO}{p:Um}{pos:Pos}{ks:List (Option Ut)}{vs:List Ut}
theorem L8:∀{more acc:List (aG×V)},((acc++more).map Dj).Nodup->N6 acc more=acc++more
 |[],acc,_=>by simp[N6]
 |(k,v)::more,acc,nd=>by
  have hk:∀q∈acc,q.1≠k:=λq hq z=>by rw[Ij,Ay] at nd;exact(List.nodup_append.mp nd).2.2 q.1 (Od hq) k (by simp) z
  have hn:TM acc k=none:=by unfold TM;rw[List.find?_eq_none.mpr λq hq=>by simpa using hk q hq];rfl
  show N6 (XO acc k v) more=_;rw[oZ v hn,L8 (by simpa using nd)];simp
end
theorem R8:∀(names:List (Us×Vc)) (n:Nat) (acc:List (Us×Um)),Va n names acc=Va n names []++acc
 |[],_,_=>rfl
 | (x,k) :: r,n,acc => by
  unfold Va;split
  ·rw[R8 r (n+1) ((x,n)::acc),R8 r (n+1) [(x,n)]]
   simp
  ·exact R8 r n acc
theorem FR:∀{names:List (Us×Vc)} {n:Nat} {x:Us} {c:Um},(x,c)∈Va n names []->(x,Cc)∈names
 |[],_,_,_,h=>nomatch h
 | (y,k) :: r,n,x,c,h => by
  unfold Va at h;split at h
  ·rename_i hk
   rw[R8] at h;rcases Cq.mp h with h|h
   ·exact An _ (FR h)
   ·cases Az.mp h
    rw[show k=Cc from beq_iff_eq.mp hk];exact Ar
  ·exact An _ (FR h)
theorem FQ:∀{names:List (Us×Vc)} {n:Nat} {x:Us},(x,Cc)∈names->∃c,(x,c)∈Va n names []
 | (y,k) :: r,n,x,h => by
  unfold Va;rcases Ak.mp h with e|h
  ·cases e
   rw[if_pos (by decide),R8];exact⟨n,Bp _ (Az.mpr rfl)⟩
  ·split
   ·rw[R8]
    obtain⟨c,hc⟩:=FQ (n:=n+1) h;exact⟨c,Bw _ hc⟩
   ·exact FQ h
theorem N5:∀{l:List (Us×Um)} {x:Us} {c:Um},(x,c)∈l->∃c',l.lookup x=some c'
 | (y,d) :: r,x,c,h => by
  rw[Ce];cases hb:x==y with
  |true=>exact⟨d,rfl⟩
  |false=>
   rcases Ak.mp h with e|h
   ·cases e
    simp at hb
   ·exact N5 h
theorem YO:∀{l m:List (Us×Um)} {x:Us} {c:Um},(l++m).lookup x=some c->l.lookup x=some c∨(l.lookup x=none/\m.lookup x=some c)
 |[],_,_,_,h=>.inr ⟨rfl,h⟩
 |(y,d)::r,m,x,c,h=>by
  rw[Hi,Ce] at h;rw[Ce];cases hb:x==y with
  |true=>rw[hb] at h;exact .inl h
  |false=>rw[hb] at h;exact YO h
theorem R0:∀{l m:List (Us×Um)} {x:Us},l.lookup x=none->(l++m).lookup x=m.lookup x
 |[],_,_,_=>rfl
 |(y,d)::r,m,x,h=>by
  rw[Ce] at h;rw[Hi,Ce];cases hb:x==y with
  |true=>rw[hb] at h;cases h
  |false=>rw[hb] at h;exact R0 h
theorem IA{M:Vi}{A:Bt}{E:Ul->Ad->Prop}{s:Ad}{scope:Vd}{globals:Um}{gj:List (Us×Um)}{qual:Us}{outer:Env}{Q:Env->Ad->Prop}(hQ:Q (newEnv scope s.heap.objs.size globals (Va (s.heap.objs.size+1) scope.names gj) qual none .none (some outer) builtinsNs) {s with heap:=Rw (s.heap.push {cls:=.type "dict",data:=.dict #[]}) scope.names}):Uq M A (Nr scope globals gj [] qual none .none (some outer)) Q E s:=by simp only[Nr,Ot,if_true];refine Aa (wpAny_alloc ?_);refine Aa (wpAny_layCells _ (λname kind cells=>by cases hkc:kind==Cc<;>simp[hkc]) _ _ _ _ ?_);rw[show({s with heap:=s.heap.push {cls:=.type "dict",data:=.dict #[]}}:Ad).heap.objs.size=s.heap.objs.size+1 from Ct ..];rw[Nq];exact Aa (Ah (Ah hQ))
theorem UI:∀{l m:List (Us×Um)} {x:Us} {c:Um},l.lookup x=some c->(l++m).lookup x=some c
 |(y,d)::r,m,x,c,h=>by
  rw[Ce] at h;rw[Hi,Ce];cases hb:x==y with
  |true=>rw[hb] at h;exact h
  |false=>rw[hb] at h;exact UI h
structure O7(X:Cx)(N':List Us)(ix:List Nat)(scope:Vd):Prop where
 kind:scope.kind=.function
 cel:∀y∈scope.names,y.2=.cell->scope.names.lookup y.1=some .cell
 names:∀y∈scope.names,y.2=.local->scope.names.lookup y.1=some .local
 free:∀y∈scope.names,y.2=.free->X.env.kindOf y.1=some .cell∨X.env.kindOf y.1=some .free
 nd:N'.Nodup
 cap:∀j,j<ix.length->N'[j]?=(ix[j]?).bind λi=>X.N[i]?
 capf:∀x∈N'.take ix.length,scope.names.lookup x=some .free
noncomputable def ZL(X:Cx)(N':List Us)(scope:Vd)(cl:List (Us×Um))(s1:Ad)(H1:Hp)(fp:List Um):Cx:=
 {X with N:=N',s₀:=s1,H₀:=H1,env:=compEnvC scope cl s1.heap.objs.size X.env,outer:=X.stack,stack:=X.stack,ex:=fp,fn:=λx=>scope.names.lookup x==some Cc,pn:=[],xe:=λ_ _=>False}
theorem VQ{env:Env}{x:Us}:∀{l:List (Us×Vc)},((l.map λ(n,k)=>if(k==Bk&&env.scope.kind== .function&&env.kindOf n==some .cell) then(n,Cc) else(n,k)).lookup x=some .cell∨(l.map λ(n,k)=>if(k==Bk&&env.scope.kind== .function&&env.kindOf n==some .cell) then(n,Cc) else(n,k)).lookup x=some .free)->(x,Bk)∈l∨(x,Cc)∈l
 |[],h=>by rcases h with z|z<;>cases z
 | (n,k) :: r,h => by
  have h:Hj x ((if(k==Bk&&env.scope.kind== .function&&env.kindOf n==some .cell)=true then(n,Cc) else(n,k))::r.map λ(n,k)=>if(k==Bk&&env.scope.kind== .function&&env.kindOf n==some .cell) then(n,Cc) else(n,k))=some .cell∨
   Hj x ((if(k==Bk&&env.scope.kind== .function&&env.kindOf n==some .cell)=true then(n,Cc) else(n,k))::r.map λ(n,k)=>if(k==Bk&&env.scope.kind== .function&&env.kindOf n==some .cell) then(n,Cc) else(n,k))=some .free:=h
  by_cases hc:(k==Bk&&env.scope.kind== .function&&env.kindOf n==some .cell)=true
  ·rw[if_pos hc] at h
   by_cases hx:x=n
   ·subst hx
    have hk:k=.free:=by simp only[Ae] at hc;exact beq_iff_eq.mp hc.1.1
    subst hk;exact .inl Ar
   ·have hb:(x==n)=false:=beq_eq_false_iff_ne.mpr hx
    simp only[Ce,hb] at h;rcases VQ (env:=env) h with z|z
    ·exact .inl (An _ z)
    ·exact .inr (An _ z)
  ·rw[if_neg hc] at h
   by_cases hx:x=n
   ·subst hx
    rw[Ec] at h;rcases h with z|z
    ·cases z;exact .inr Ar
    ·cases z;exact .inl Ar
   ·have hb:(x==n)=false:=beq_eq_false_iff_ne.mpr hx
    simp only[Ce,hb] at h;rcases VQ (env:=env) h with z|z
    ·exact .inl (An _ z)
    ·exact .inr (An _ z)
theorem NN{X:Cx}{aa:List (Um×Uy)}{σ:St}{H2:Hp}{s2:Ad}{E:Ul->Ad->Prop}{tg iter elt:Ut}{ifs:List Ut}{scope:Vd}{pos:Pos}{N':List Us}{ix:List Nat}{nl:Nat}{g:TG}{tt:TT}{te:TE}{cl:List (Us×Um)}{J:It}{fp:List Um}{it:Um}{tn:Nat->Uw->Prop}{Q:V->Hp->Prop}{RR:Ul->Um->Tu->Ad->Prop}(hc:X.calm=true)(S:O7 X N' ix scope)(hnl:N'.length=ix.length+nl)(fu:∀x c,cl.lookup x=some c->X.env.cells.lookup x=some c)(lz:∀x,(x,Bk)∈scope.names->∃c,cl.lookup x=some c)(blk:∀(cl:List (Us×Um)) (s1:Ad) (H1:Hp) (fp:List Um),Blk (ZL X N' scope cl s1 H1 fp) tg ifs elt g tt te)(I2:b9 X aa σ H2 s2)(T:FL X.prog X.w X.K tg J fp it tn)(st2:tn 0 s2.heap)(f2:∀b∈fp,M4 X aa H2 b)(h:∀D,H2 D=none->Wk D ix nl J g tt te σ H2 λH'=>Q (.ref D) H')(fin:∀(D C:Um) (s':Ad) (H':Hp),b9 X aa σ H' s'->(∃m,s'.heap.Ns C m)->C≠X.env.locals->(∀x c,X.env.cells.lookup x=some c->c≠C)->(∀(σ':St) (s'':Ad) (h'':Uw),b9 X aa σ' H' s''->Fl C s''.heap h''->b9 X aa σ' H' {s'' with heap:=h''})->Q (.ref D) H'->RR (.ref D) C (.ok .next) s'):Uq (Ur X.prog X.w) X.A (newList []) (λacc s₃=>Uq (Ur X.prog X.w) X.A (Nr scope X.env.globals cl [] X.env.qual none .none (some X.env)) (λmd s₄=>Jm (Ur X.prog X.w) X.A (.compStart (.ListComp elt [⟨tg,iter,ifs,0⟩] scope pos) 0 (.ref it) acc {md with scope:=relabel scope X.env}) (RR acc md.locals) s₄) E s₃) E s2:=by
 refine Df (IA ?_);dsimp only;have I1:b9 X aa σ (upd H2 s2.heap.objs.size (.lst [])) {s2 with heap:=s2.heap.push {cls:=.type "list",dict:=none,data:=.seq ([]:List Ul).toArray}}:=
  I2.lnew (t':=s2.toks) (ys:=[]) (its:=[]) .nil (Dv _)
 have hDn:H2 s2.heap.objs.size=none:=I2.hok.fresh (Ap _);obtain⟨W,⟨m0,w0⟩,turn⟩:=h _ hDn;generalize hs1:({s2 with heap:=s2.heap.push {cls:=.type "list",dict:=none,data:=.seq ([]:List Ul).toArray}}:Ad)=s1 at I1;have i6:s2.heap.push {cls:=.type "list",dict:=none,data:=.seq ([]:List Ul).toArray}=s1.heap:=by rw[<-hs1]
 rw[i6];have old:∀b o,s1.heap.get? b=some o->(Rw (s1.heap.push {cls:=.type "dict",data:=.dict #[]}) scope.names).get? b=some o:=λb o e=>pushCells_keeps _ _ _ _ (Ac _ e);have hns₁:(Rw (s1.heap.push {cls:=.type "dict",data:=.dict #[]}) scope.names).Ns s1.heap.objs.size (λ_=>none):=(Heap.Ns.new s1.heap (.type "dict")).keeps λb o e=>pushCells_keeps _ _ _ _ e;have okc:=cellsFrom_ok scope.names (s1.heap.push {cls:=.type "dict",data:=.dict #[]}) (s1.heap.objs.size+1) [] ⟨λ_ _ hm=>(nomatch hm),Pr⟩ (by rw[Ct];exact Ap _);rw[Ct] at okc;generalize hz1:Rw (s1.heap.push {cls:=.type "dict",data:=.dict #[]}) scope.names=h₁ at old hns₁ okc;rw[R8];generalize hnc:Va (s1.heap.objs.size+1) scope.names []=nc at okc;have ncm:∀x c,nc.lookup x=some c->(x,Cc)∈scope.names/\h₁.IsCell c none/\s1.heap.objs.size+1<=c:=λx c e=>by have hm:=Co e;exact⟨FR (n:=s1.heap.objs.size+1) (by rw[hnc];exact hm),okc.empty x c hm⟩
 have nch:∀x,(x,Cc)∈scope.names->∃c,nc.lookup x=some c:=λx h=>by obtain⟨c,hc⟩:=FQ (n:=s1.heap.objs.size+1) h;rw[hnc] at hc;exact N5 hc
 have jo:∀b∈fp,b<s2.heap.objs.size:=λb hb=>by obtain⟨o,e,_⟩:=T.obj _ _ st2 b hb;exact Aj e
 have lr:s1.heap.objs.size=s2.heap.objs.size+1:=by rw[<-i6,Ct]
 have mi:∀b o,s2.heap.get? b=some o->s1.heap.get? b=some o:=λb o e=>by rw[<-i6];exact Ac _ e
 have ii:∀x c,cl.lookup x=some c->c<s1.heap.objs.size:=λx c e=>by obtain⟨v,q⟩:=I1.cell x c (fu x c e);exact q.lt
 have qb:∀b∈U0 X.stack,b<s1.heap.objs.size:=λb hb=>by obtain⟨_,o,ho,_⟩:=(I1.stack).mem hb;exact Aj ho
 have okY:(ZL X N' scope (nc++cl) s1 (upd H2 s2.heap.objs.size (.lst [])) fp).Ok:=by
  refine⟨I1.ok.mod,S.kind,I1.ok.glob,I1.ok.blt,Ap _,λx y c e1 e2=>?_,λx hx=>?_,λx c hf e=>?_,I1.ok.hd,I1.ok.frames,.inl rfl,λb hb=>⟨?_,λx c e=>?_⟩,λb o e=>?_,Dz I1.ok.bsz I1.sz,λb o e hb=>?_,λb hb hb2=>?_,I1.stack,I1.stkFree⟩
  ·rcases YO e1 with n1|⟨_,o1⟩
   ·rcases YO e2 with n2|⟨_,o2⟩
    ·exact PySem.name_of_addr okc.apart (Co n1) (Co n2)
    ·exact absurd (Av (ii y c o2) (Jd (ncm x c n1).2.2)) (Cb _)
   ·rcases YO e2 with n2|⟨_,o2⟩
    ·exact absurd (Av (ii x c o1) (Jd (ncm y c n2).2.2)) (Cb _)
    ·exact I1.ok.inj x y c (fu x c o1) (fu y c o2)
  ·cases q:nc.lookup x with
   |some c=>exact⟨c,UI q⟩
   |none=>
    rcases VQ hx with h|h
    ·obtain⟨c,hc⟩:=lz x h
     exact⟨c,(R0 q).trans hc⟩
    ·obtain⟨c,hc⟩:=nch x h
     rw[q] at hc;cases hc
  ·have hx:(x,Cc)∈scope.names:=Co (beq_iff_eq.mp hf)
   obtain⟨c',hc'⟩:=nch x hx;have:=UI (m:=cl) hc';have e:(nc++cl).lookup x=some c:=e;rw[this] at e;cases e;exact Jd (ncm x c hc').2.2
  ·exact Au (Av (jo b hb) (by show s2.heap.objs.size<=s1.heap.objs.size;rw[lr];exact Fu _))
  ·rcases YO e with n1|⟨_,o1⟩
   ·have h1:=jo b hb
    have h2:=(ncm x c n1).2.2;rw[lr] at h2;exact λz=>absurd (z▸h2) (Nat.not_le_of_lt (Av h1 (Dz (Fu _) (Fu _))))
   ·exact(f2 b hb).2.2.2.2.1 x c (fu x c o1)
  ·exact I1.bs b o e
  ·have:=(f2 b hb)
   obtain⟨o',e',_⟩:=T.obj _ _ st2 b hb;have hlt:=Av (Aj e) I1.ok.bsz;rcases this.2.2.2.1 with z|z
   ·exact I1.ok.noex b o e z
   ·exact absurd (Av hlt z) (Cb _)
  ·rcases Ak.mp (I1.stkSub b hb2) with z|z
   ·exact(f2 b hb).2.1 z
   ·exact(f2 b hb).2.2.1 z
 have jg:(Y0 ix σ++At nl none).length=N'.length:=by rw[Cf,Mp,hnl];simp[Y0]
 have IY:b9 (ZL X N' scope (nc++cl) s1 (upd H2 s2.heap.objs.size (.lst [])) fp) [] (Y0 ix σ++At nl none) (upd H2 s2.heap.objs.size (.lst [])) {s2 with heap:=h₁}:=by
  refine⟨okY,?_,I2.bare,Un.kept old,⟨_,hns₁,λj x v e1 e2 e3=>?_⟩,λx c e=>?_,I1.hok.fresh (Ap _),λx c e=>?_,λp hp=>absurd (show p∈([]:List (Um×Uy)) from hp) (by simp),I1.hok.kept old,jg⟩
  ·show s2.os=s1.os
   rw[<-hs1]
  ·have hj:j<ix.length:=by
    by_cases hj:j<ix.length
    ·exact hj
    ·exfalso
     have hl:(Y0 ix σ).length=ix.length:=by simp[Y0]
     rw[Dk (by rw[hl];lia),Dg] at e2;split at e2<;>cases e2
   have hl:(Y0 ix σ).length=ix.length:=by simp[Y0]
   rw[Ao (by rw[hl];exact hj)] at e2;have hci:=S.cap j hj;obtain⟨i,hi⟩:∃i,ix[j]?=some i:=⟨ix[j],by simp[hj]⟩;rw[hi] at hci;have hNi:X.N[i]?=some x:=by have:N'[j]?=X.N[i]? :=hci;rw[<-this];exact e1
   have hσ:σ[i]?=some (some v):=by
    unfold Y0 at e2;rw[Dh,hi] at e2;have e2':(σ[i]?).join=some v:=by simpa using e2
    cases q:σ[i]? with
    |none=>rw[q] at e2';cases e2'
    |some o=>rw[q] at e2';rw[show o=some v from e2']
   have hfl:scope.names.lookup x=some .free:=S.capf x (by rw[Mv];exact⟨j,by rw[Cv hj];exact e1⟩)
   have c7:(x,Bk)∈scope.names:=Co hfl;have hpk:X.env.kindOf x=some .cell∨X.env.kindOf x=some .free:=by exact S.free (x,.free) c7 rfl
   have nr:Vis X.env.scope x:=by
    rcases hpk with z|z
    ·exact .inr (.inl z)
    ·exact .inr (.inr z)
   obtain⟨m,hn,oh⟩:=I1.loc;obtain⟨u,ru,l⟩:=oh i x v hNi hσ nr;refine⟨u,ru,?_⟩;rcases l with⟨hk,_⟩|⟨hk,c,ec,z⟩
   ·rcases hpk with q|q<;>rw[hk] at q<;>cases q
   ·obtain⟨c',hc'⟩:=lz x c7
    have:c'=c:=by have:=fu x c' hc';rw[ec] at this;exact(Bv this).symm
    subst this;have o7:nc.lookup x=none:=by
     cases q:nc.lookup x with
     |none=>rfl
     |some d=>
      have:=S.cel (x,.cell) (ncm x d q).1 rfl;rw[hfl] at this;cases this
    refine .inr ⟨RX hfl,c',(R0 o7).trans hc',?_⟩
    ·obtain⟨o,ho,hd⟩:=z
     exact⟨o,old _ _ ho,hd⟩
  ·rcases YO e with n1|⟨_,o1⟩
   ·exact⟨none,(ncm x c n1).2.1⟩
   ·obtain⟨v,o,ho,hd⟩:=I1.cell x c (fu x c o1)
    exact⟨v,o,old _ _ ho,hd⟩
  ·rcases YO e with n1|⟨_,o1⟩
   ·exact I1.hok.fresh (Jd (ncm x c n1).2.2)
   ·exact I1.freeC x c (fu x c o1)
 have back:∀{pY:List (Um×Uy)} {σ':St} {H':Hp} {s':Ad},b9 (ZL X N' scope (nc++cl) s1 (upd H2 s2.heap.objs.size (.lst [])) fp) pY σ' H' s'->b9 X aa σ H' s':=λ{pY σ' H' s'} J'=>
  I1.call' J'.os J'.base J'.hok J'.bare λb hb=>⟨(f2 b hb).2.2.2.1,(f2 b hb).2.1,(f2 b hb).2.2.2.2.1,(f2 b hb).2.2.2.2.2⟩
 have stat:∀{H':Hp} {pY:List (Um×Uy)},(∀b∈fp,H' b=none)->pY=[]->∀b∈fp,M4 (ZL X N' scope (nc++cl) s1 (upd H2 s2.heap.objs.size (.lst [])) fp) pY H' b:=λ{H' pY} hn hp b hb=>by subst hp;refine⟨hn b hb,(okY.exf b hb).1,okY.exfs b hb,.inl hb,(okY.exf b hb).2,λp hp=>absurd (show p∈([]:List (Um×Uy)) from hp) (by simp)⟩
 have st1:tn 0 h₁:=T.keep 0 s2.heap h₁ st2 λb hb o e=>old b o (mi b o e);have fr1:∀b∈fp,(upd H2 s2.heap.objs.size (.lst [])) b=none:=λb hb=>by rw[bM (Au (jo b hb))];exact(f2 b hb).1
 have loop:∀s₃:Ad,s₃={s2 with heap:=h₁}->
   Jm (Ur X.prog X.w) X.A (.compLoop (.ListComp elt [⟨tg,iter,ifs,0⟩] scope pos) 0 (.ref it) (.ref s2.heap.objs.size) (compEnvC scope (nc++cl) s1.heap.objs.size X.env)) (RR (.ref s2.heap.objs.size) s1.heap.objs.size) s₃:=by
  rintro s₃ rfl;refine BZ (λn s'=>∃i σ' H' acc,b9 (ZL X N' scope (nc++cl) s1 (upd H2 s2.heap.objs.size (.lst [])) fp) [] σ' H' s'/\σ'.take ix.length=Y0 ix σ/\tn i s'.heap/\(∀b∈fp,H' b=none)/\W i n acc H') ?_ m0
   ⟨0,_,_,[],IY,by rw[Dt (by simp[Y0])];exact Ck (by simp[Y0]),st1,fr1,w0⟩
  rintro n s' ⟨i,σ',H',acc,J',hσ,st',fr',w'⟩;have Jc:b9 (ZL X N' scope (nc++cl) s1 (upd H2 s2.heap.objs.size (.lst [])) fp) [] (Y0 ix σ++At nl none) H' s':=by
   refine J'.weak (by rw[jg];exact J'.len.symm) λj v e=>?_;have hl:(Y0 ix σ).length=ix.length:=by simp[Y0]
   by_cases hj:j<ix.length
   ·rw [Ao (by rw [hl];exact hj),<- hσ,Cv hj] at e
    exact e
   ·rw [Dk (by rw [hl];lia),Dg] at e
    split at e<;>cases e
  rcases turn i n acc H' w' with⟨stop,q⟩|⟨go,N,hN,step⟩
  ·refine Bj (T.done (ZL X N' scope (nc ++ cl) s1 (upd H2 s2.heap.objs.size (.lst [])) fp) rfl rfl rfl hc i [] s' _ H' (λ_ _ => False) Jc (stat fr' rfl) st' stop) (λr s4 ⟨hr,I4⟩ => ?_) λ_ _ z => z
   subst hr;have IX:=back I4;obtain⟨m,hm,_⟩:=I4.loc;exact fin _ _ s4 H' IX ⟨m,hm⟩ (Hk I1.lt) (λx c e z=>by obtain⟨v,q⟩:=I1.cell x c e;have:=q.lt;rw[z] at this;exact Cb _ this) (λσ'' s'' h'' I'' sb=>b9.offNew I1 I'' I4.free λb o hb e=>(sb.2 b hb).trans e) q
  ·refine Bj (T.item (ZL X N' scope (nc ++ cl) s1 (upd H2 s2.heap.objs.size (.lst [])) fp) rfl rfl rfl hc i [] s' _ H' (λ_ _ => False) Jc (stat fr' rfl) st' go) (λr s4 ⟨u,hr,h4⟩ => ?_) λ_ _ z => z
   subst hr;refine Bj h4 (λ_ s5 ⟨x,H5,I5,r5,y5,st5,fr5⟩=>?_) λ_ _ z=>z;have I5':=I5.pinned (stat fr5 rfl) (T.obj _ _ st5);obtain⟨btg,bts,bel⟩:=blk (nc++cl) s1 (upd H2 s2.heap.objs.size (.lst [])) fp;refine Bj (btg _ s5 _ H5 x u _ I5' r5 (step x H5 y5)) (λ_ s6 ⟨σ6,H6,I6,hσ6,q6⟩=>?_) λ_ _ z=>z;have YB:∀{H7:Hp} {s7:Ad} {bh:List V},b9 (ZL X N' scope (nc++cl) s1 (upd H2 s2.heap.objs.size (.lst [])) fp) ([]++OF fp s5.heap) σ6 H7 s7->N bh H7->
     ∃m,m<n/\∃i σ' H' acc,b9 (ZL X N' scope (nc++cl) s1 (upd H2 s2.heap.objs.size (.lst [])) fp) [] σ' H' s7/\σ'.take ix.length=Y0 ix σ/\tn i s7.heap/\(∀b∈fp,H' b=none)/\W i m acc H':=λ{H7 s7 bh} I7 n7=>by
    obtain⟨m',hm,w7⟩:=hN bh H7 n7;refine⟨m',hm,i+1,σ6,H7,bh,I7.unpinned,hσ6,T.keep _ _ _ st5 λb hb o e=>(I7.pin (b,o) (Bp _ (Bp _ (VN hb e)))).1,λb hb=>?_,w7⟩;obtain⟨o,e,d⟩:=T.obj _ _ st5 b hb;exact(I7.pin (b,o) (Bp _ (Bp _ (VN hb e)))).2.1
   refine Bj (bts _ s6 σ6 H6 _ I6 q6) (λokb s7 ⟨H7,I7,q7⟩=>?_) λ_ _ z=>z;cases okb with
   |false=>exact YB I7 q7
   |true=>
    refine Bj (bel _ s7 σ6 H7 _ I7 q7) (λv s8 ⟨y,H8,I8,r8,hD8,hz8,n8⟩=>?_) λ_ _ z=>z;refine Bj (aC (X:=ZL X N' scope (nc++cl) s1 (upd H2 s2.heap.objs.size (.lst [])) fp) _ s8 σ6 H8 (.ref s2.heap.objs.size) [y] (.ref s2.heap.objs.size) [v] (λ_ H9=>N (acc++[y]) H9) I8 rfl (.cons r8 .nil)
     ⟨s2.heap.objs.size,acc,y,rfl,rfl,hD8,hz8,n8⟩) (λ_ s9 ⟨_,H9,I9,_,n9⟩=>YB I9 n9) λ_ _ z=>z
 have he:({newEnv scope s1.heap.objs.size X.env.globals (nc++cl) X.env.qual none .none (some X.env) builtinsNs with scope:=relabel scope X.env}:Env)=compEnvC scope (nc++cl) s1.heap.objs.size X.env:=rfl;exact codeAny_compStart_list (loop _ rfl) (T.self _ 0 _ _ _ st1 (loop _ rfl))
theorem kD{X:Cx}{tg iter elt:Ut}{ifs:List Ut}{scope:Vd}{pos:Pos}{N':List Us}{ix:List Nat}{nl:Nat}{wi:TI}{g:TG}{tt:TT}{te:TE}(hc:X.calm=true)(S:O7 X N' ix scope)(hnl:N'.length=ix.length+nl)(hi:PI X tg iter wi)(blk:∀(cl:List (Us×Um)) (s1:Ad) (H1:Hp) (fp:List Um),Blk (ZL X N' scope cl s1 H1 fp) tg ifs elt g tt te)(hs:∀x,Uz iter X.env x=pure x:=by intro _;rfl):PE X (.ListComp elt [⟨tg,iter,ifs,0⟩] scope pos) (E9 ix nl wi g tt te):=by intro aa s σ H Q I h;rw[eval_ListComp];obtain⟨cl,e1,e2,e3⟩:=DX (env:=X.env) (scope:=scope) λy hy hf=>I.ok.has y.1 (S.free y hy hf);refine Le (use:=none) (cl:=cl) rfl hs e1 S.kind S.names (Bj (hi aa s σ H _ I h) (λxv s₁ h₁=>Bj h₁ (λitv s₂ h₂=>?_) λ_ _ e=>e) λ_ _ e=>e);obtain⟨it,fp,tn,J,H2,e,I2,T,st2,f2,q⟩:=h₂;subst e;refine NN (Q:=Q) (RR:=λacc C=>compPost (Ur X.prog X.w) X.A X.xe none (EP X aa σ Q) acc C) hc S hnl e2 e3 blk I2 T st2 f2 q ?_;intro D C s' H' I' hm hC1 hC2 hb hq;obtain⟨m,hm⟩:=hm;exact⟨m,hm,λh'' sb=>⟨.ref D,H',hb σ s' h'' I' sb,rfl,hq⟩⟩
section
variable{X:Cx}{K:Ai}{ml:List Nat}{pi pt pe pu:Bool}{pos:Pos}{ix:List Nat}{nl:Nat}{f:VF}
noncomputable def NM(N N':List Us)(ix:List Nat)(names:List (Us×Vc))(k:Us->Option Vc):Bool:=
 names.all (λy=>y.2 != .cell || names.lookup y.1==some .cell)&&(names.all (λy=>y.2 != .local || names.lookup y.1==some .local)&&(names.all (λy=>y.2 != .free || (k y.1==some .cell || k y.1==some .free)) &&
  (decide N'.Nodup&&((Bb ix.length).all (λj=>N'[j]? ==(ix[j]?).bind λi=>N[i]?)&&(N'.take ix.length).all λx=>names.lookup x==some .free))))
theorem W1{N':List Us}{scope:Vd}(hk:scope.kind=.function)(h:NM X.N N' ix scope.names X.env.kindOf=true):O7 X N' ix scope:=by unfold NM at h;simp only[Ae,Fk,Ih,bne_iff_ne,beq_iff_eq,decide_eq_true_eq,Cn] at h;obtain⟨h1,h2,h3,h4,h5,h6⟩:=h;exact⟨hk,λy hy e=>(h1 y hy).resolve_left λz=>z e,λy hy e=>(h2 y hy).resolve_left λz=>z e,λy hy e=>(h3 y hy).resolve_left λz=>z e,h4,h5,h6⟩
abbrev BlkC(X:Cx)(K:Ai)(N':List Us)(ix:List Nat)(scope:Vd)(tg:Ut)(ifs:List Ut)(elt:Ut)(gg:VG)(pt:Bool)(tb:VB)(pe:Bool)(fe:VF):Prop:=N'.Nodup->∀(cl:List (Us×Um)) (s1:Ad) (H1:Hp) (fp:List Um),Blk (ZL X N' scope cl s1 H1 fp) tg ifs elt (TGV K (Bb ix.length) gg) (TB K (Bb ix.length) pt tb) (TV K (Bb ix.length) pe true true fe)
theorem YZ{tg iter elt:Ut}{ifs:List Ut}{scope:Vd}{fi:VI}{gg:VG}{tb:VB}{fe:VF}(N':List Us)(ix:List Nat)(nl:Nat)(hi:PI X tg iter (TIV K ml pi fi))(blk:BlkC X K N' ix scope tg ifs elt gg pt tb pe fe)(hc:X.calm=true:=by rfl)(hk:scope.kind=.function:=by rfl)(hok:NM X.N N' ix scope.names X.env.kindOf=true:=by rfl)(hnl:N'.length=ix.length+nl:=by rfl)(hnd:ix.Nodup:=by decide)(hs:∀x,Uz iter X.env x=pure x:=by intro _;rfl):PE X (.ListComp elt [⟨tg,iter,ifs,0⟩] scope pos) (TN K ml (pi&&pt&&pe) (ZG ix nl fi gg tb fe)):=
 (kD hc (W1 hk hok) hnl hi (blk (W1 hk hok).nd) hs).imp λ_ _ _ h=>FC hnd h
theorem IH{i:Nat}{y:Us}{py du:Pos}{tg iter elt:Ut}{ifs:List Ut}{scope:Vd}{N':List Us}{wi:TI}{g:TG}{tt:TT}{te:TE}(hN:X.N.Nodup)(hi':X.N[i]?=some y)(hy:X.env.scope.names.lookup y=some .local)(hc:X.calm=true)(S:O7 X N' ix scope)(hnl:N'.length=ix.length+nl)(hi:PI X tg iter wi)(blk:∀(cl:List (Us×Um)) (s1:Ad) (H1:Hp) (fp:List Um),Blk (ZL X N' scope cl s1 H1 fp) tg ifs elt g tt te)(hsw:Vb (.ListComp elt [⟨tg,iter,ifs,0⟩] scope pos) (some (.Name y py)) du.line X.env=pure true:=by rfl)(hs:∀x,Uz iter X.env x=pure x:=by intro _;rfl):PS X (.Assign [.Name y py] (.ListComp elt [⟨tg,iter,ifs,0⟩] scope pos) du) (tAsg (E9 ix nl wi g tt te) (D1 i)):=by
 intro aa s σ H D I h;rw[exec_Assign_Name_used _ _ _ _ hsw];refine Aa (Fm (Aa ?_));show Uq _ X.A (do let _<-comprehension (.ListComp elt [⟨tg,iter,ifs,0⟩] scope pos) scope X.env _ (newList []) false (eval iter X.env) (some (Hv (.Name y py) X.env))) _ _ s;obtain⟨cl,e1,e2,e3⟩:=DX (env:=X.env) (scope:=scope) λy hy hf=>I.ok.has y.1 (S.free y hy hf);refine Aa (Bj (Le (use:=some (Hv (.Name y py) X.env)) (cl:=cl) (Q:=λ_ s'=>SP X aa D .next s') rfl hs e1 S.kind S.names
  (Bj (hi aa s σ H _ I h) (λxv s₁ h₁=>Bj h₁ (λitv s₂ h₂=>?_) λ_ _ e=>e) λ_ _ e=>e)) (λ_ s' hq=>Ah (Ah hq)) λ_ _ e=>e)
 obtain⟨it,fp,tn,J,H2,e,I2,T,st2,f2,q⟩:=h₂;subst e;refine NN (Q:=λv H'=>D.nx (σ.set i (some v)) H') (RR:=λacc C=>compPost (Ur X.prog X.w) X.A X.xe (some (Hv (.Name y py) X.env)) (λ_ s'=>SP X aa D .next s') acc C) hc S hnl e2 e3 blk I2 T st2 f2 q ?_;intro Dl C s' H' I' hm hC1 hC2 hb hq;obtain⟨m,hm⟩:=hm;show Uq _ X.A (Hv (.Name y py) X.env (.ref Dl)) _ _ _;refine Ip (MP I' hN hi' (.inl hy) (v:=.ref Dl) rfl (λs'' I'' ⟨a,hsb,ha⟩=>?_) (.inr hy));have hCa:C≠a:=by
  rcases ha with z|z
  ·rw[z];exact hC1
  ·exact Dm (hC2 y a z)
 exact⟨m,hm.sameBut hsb hCa,λh'' sb=>⟨_,H',hb _ s'' h'' I'' sb,hq⟩⟩
theorem AY{i:Nat}{y:Us}{py du:Pos}{tg iter elt:Ut}{ifs:List Ut}{scope:Vd}{fi:VI}{gg:VG}{tb:VB}{fe:VF}(o:Bool)(hN:X.N.Nodup)(N':List Us)(ix:List Nat)(nl:Nat)(hi:PI X tg iter (TIV K ml pi fi))(blk:BlkC X K N' ix scope tg ifs elt gg pt tb pe fe)(hi':X.N[i]?=some y:=by rfl)(hy:X.env.scope.names.lookup y=some .local:=by rfl)(hc:X.calm=true:=by rfl)(hk:scope.kind=.function:=by rfl)(hok:NM X.N N' ix scope.names X.env.kindOf=true:=by rfl)(hnl:N'.length=ix.length+nl:=by rfl)(hnd:ix.Nodup:=by decide)(hm:i∉ml:=by decide)(hsw:Vb (.ListComp elt [⟨tg,iter,ifs,0⟩] scope pos) (some (.Name y py)) du.line X.env=pure true:=by rfl)(hs:∀x,Uz iter X.env x=pure x:=by intro _;rfl):PS X (.Assign [.Name y py] (.ListComp elt [⟨tg,iter,ifs,0⟩] scope pos) du) (V6 K ml (aD i (if o then xO (ZG ix nl fi gg tb fe) else xV (ZG ix nl fi gg tb fe)))):=
 (IH hN hi' hy hc (W1 hk hok) hnl hi (blk (W1 hk hok).nd) hsw hs).imp λD σ H h=>AK (λσ H Q z=>FC hnd (Wc (pu:=pi&&pt&&pe) z)) hm h
end
section
variable{X:Cx}{K:Ai}{ml:List Nat}{e a b c:Ut}{es:List Ut}{pi pt pe pu bt bi ps bs:Bool}{f:VF}{B B':Bs}{O:Nat->Option Um}{H H0 H1 H':Hp}{σ:St}{δ δ':Ev}{v:V}{d:cO}{p:Um}{pos:Pos}{ix:List Nat}{nl:Nat}
def pD(K:Ai)(N:Um->Prop)(J:It)(H:Hp)(ds:List cO):Prop:=∃xs:List V,bY K N H xs ds/\∀H2,aL H H2->(∀(i:Nat) (x:V),xs[i]?=some x->J.go i H2/\∀y H3,J.yld i H2 y H3->H3=H2/\y=x)/\J.stop xs.length H2
def TIVp(K:Ai)(ml:List Nat)(f:VI):TI:=λσ H R=>∃B O δ ds δ',aN K ml B O H σ δ/\f δ=some (ds,δ')/\∀J H',aN K ml B O H' σ δ'->aL H H'->pD K (Nn B O) J H' ds->R J H'
theorem AM{fi:VI}{gg:VG}{tb:VB}{fe:VF}(hnd:ix.Nodup){Q:VK}(h:TN K ml true (ZG ix nl fi gg tb fe) σ H Q):E9 ix nl (TIVp K ml fi) (TGV K (Bb ix.length) gg) (TB K (Bb ix.length) true tb) (TV K (Bb ix.length) true true true fe) σ H Q:=by
 obtain⟨B,O,δ,d,δ2,S,q,k⟩:=h;unfold ZG at q;cases h1:fi δ with
 |none=>rw[h1] at q;cases q
 |some p=>
  obtain⟨ds,δ1⟩:=p;rw[h1] at q;have q:((ZZ ix.length nl gg tb fe ds [] (aY ix δ1)).map λq=>(cO.lst q.1,Y9 ix q.2 δ1))=some (d,δ2):=q;cases h2:ZZ ix.length nl gg tb fe ds [] (aY ix δ1) with
  |none=>rw[h2] at q;cases q
  |some z=>
   obtain⟨res,δf⟩:=z;rw[h2] at q;cases q;refine⟨B,O,δ,ds,δ1,S,h1,λJ H0 S0 p0 wk D hD=>?_⟩;obtain⟨els,rel,wk⟩:=wk;have hDO:∀j,Oc ix O j≠some D:=λj e=>by
    unfold Oc at e;cases hi:ix[j]? with
    |none=>rw[hi] at e;cases e
    |some i=>
     rw[hi] at e;obtain⟨o,q⟩:=S0.nin (.inr ⟨i,e⟩);rw[hD] at q;cases q
   have i4:∀kp j,ix.length<=j->(Bc ix B O H0 D kp).mu j=none:=λkp j hj=>by show(ix[j]?).bind O=none;rw[Cg hj];rfl
   refine⟨λi m acc H1=>m=ds.length - i/\i<=ds.length/\∃(am:List cO) (δc:Ev),δc.length=ix.length/\acc.length=am.length∧
     aN K (Bb ix.length) (Bc ix B O H0 D (acc.zip am)) (Oc ix O) H1 (Y0 ix σ++At nl none) (δc++NC nl)/\H1 D=some (.lst acc)/\aL H0 H1∧
     ZZ ix.length nl gg tb fe (ds.drop i) am δc=some (res,δf),
    ⟨ds.length,rfl,Dv _,[],aY ix δ1,by simp[aY],rfl,by rw[Pt];exact S0.inner hD hnd λp hp=>(nomatch hp),b5,cJ hD,h2⟩,?_⟩
   rintro i m acc H1 ⟨rfl,hi,am,δc,hlc,az,S1,hD1,dg,hc⟩;have w:=wk H1 dg;have mm:bY K (Nn (Bc ix B O H0 D (acc.zip am)) (Oc ix O)) H1 els ds:=(rel.away hD _ _ N8).same dg;by_cases hlt:i<ds.length
   ·obtain ⟨ex,ex1,ex2⟩ := mm.get (i := i) (d := ds[i]) (by simp [hlt])
    obtain⟨go,yl⟩:=w.1 i ex ex1;rw[Ep hlt] at hc;simp only[ZZ] at hc;cases g1:gg ds[i] (δc++NC nl) with
    |none=>rw[g1] at hc;cases hc
    |some δ3=>
     rw[g1] at hc;simp only[Af] at hc;cases g2:tb δ3 with
     |none=>rw[g2] at hc;cases hc
     |some z=>
      obtain⟨kk,δ4⟩:=z;rw[g2] at hc;simp only[Af] at hc;refine .inr ⟨go,λbh H'=>∃(am:List cO) (δc:Ev),δc.length=ix.length/\bh.length=am.length∧
       aN K (Bb ix.length) (Bc ix B O H0 D (bh.zip am)) (Oc ix O) H' (Y0 ix σ++At nl none) (δc++NC nl)/\H' D=some (.lst bh)/\aL H0 H'∧
       ZZ ix.length nl gg tb fe (ds.drop (i+1)) am δc=some (res,δf),λbh H' w'=>⟨ds.length - (i+1),by lia,rfl,hlt,w'⟩,λx H2 hy=>?_⟩
      obtain⟨rfl,rfl⟩:=yl x H2 hy;have rx:=ex2;have sm:=aL.refl H2;refine⟨_,_,_,ds[i],δ3,S1.same sm,rx,g1,λσ3 O3 S3 m3=>?_⟩;have ln3:ix.length<=σ3.length:=by
       by_cases hz:ix.length=0
       ·lia
       ·have hj : ix.length - 1 < ix.length := by lia
        have:=m3 (ix.length - 1) (Cn.mpr hj);have hs:(Y0 ix σ++At nl none)[ix.length - 1]? ≠none:=by rw[Ao (by rw[XV];exact hj)];simp[Y0,hj]
        rw[<-this] at hs;have og:ix.length - 1<σ3.length:=Qr λz=>hs (Kx.mpr z);lia
      have hσ3:=MS ln3 m3;refine⟨hσ3,_,_,δ3,kk,δ4,S3,g2,λH4 R4=>?_⟩;have hD4:H4 D=some (.lst acc):=R4.frm _ _ (sm _ _ hD1) λz=>by obtain⟨j,e⟩:=z;have:=(R4.sta.old j D e).1;exact absurd (.inl (.inr rfl)) this
      have ln4:ix.length<=δ4.length:=by rw[<-R4.sta.len];exact ln3
      cases kk with
      |false=>
       rw[if_neg Dr] at hc;refine M9 ⟨am,δ4.take ix.length,by rw[By];lia,az,R4.sta.turn (i4 _) (XV ix σ) hσ3 ln4,hD4,?_,hc⟩;exact(dg.trans sm).trans (R4.pur rfl)
      |true=>
       rw[if_pos rfl] at hc;cases g3:fe δ4 with
       |none=>rw[g3] at hc;cases hc
       |some z=>
        obtain⟨dv,δ5⟩:=z;rw[g3] at hc;simp only[Af] at hc;split at hc
        ·rename_i hz
         refine NA ⟨_,_,δ4,dv,δ5,R4.sta,g3,λv H5 R5=>?_⟩;have hD5:H5 D=some (.lst acc):=R5.frm _ _ hD4 λz=>by obtain⟨j,e⟩:=z;have:=(R5.sta.old j D e).1;exact absurd (.inl (.inr rfl)) this
         have ln5:ix.length<=δ5.length:=by rw[<-R5.sta.len];exact ln3
         have S6:=R5.sta.turn (nl:=nl) (i4 _) (XV ix σ) hσ3 ln5;have hv:bB K (Nn (Bc ix B O H0 D (acc.zip am)) (Oc ix O)) H5 (Nn (Bc ix B O H0 D (acc.zip am)) (Oc ix O)) v dv:=by
          have hN:∀a,Nn (Bc ix B O H0 D (acc.zip am)) (Oc ix O) a->av (Bc ix B O H0 D (acc.zip am)) O3 true a:=λa h=>by
           rcases h with h|⟨j,h⟩
           ·exact .inl h
           ·refine .inr ⟨j,?_⟩
            have hj:j∈Bb ix.length:=R5.sta.par.1 j a h;rw[R5.sta.par.2 j hj];exact h
          exact R5.rep.mono hN hN
         have S7:=S6.withKp (kp:=(acc++[v]).zip (am++[dv])) λp hp=>by
          rw[Rr az] at hp;rcases Cq.mp hp with z|z
          ·exact S6.kep p z
          ·rw[Az.mp (show p∈[(v,dv)] from z)]
           exact hv
         refine⟨hD5,by rw[az,Bu];exact hz,am++[dv],δ5.take ix.length,by rw[By];lia,by simp[az],?_,b5,?_,hc⟩
         ·exact S7.writeZ (.inl (.inr rfl)) hD5 hD
         ·intro b o e
          have hb:b≠D:=λz=>by rw[z,hD] at e;cases e
          rw[bM hb];exact((dg.trans sm).trans ((R4.pur rfl).trans (R5.pur rfl))) b o e
        ·cases hc
   ·have e : i = ds.length := by lia
    subst e;rw[Gi] at hc;cases hc;refine .inl ⟨by rw[<-rel.length];exact w.2,k D H1 ?_⟩;have fP:Fr (OA (Oc ix O)) H0 H1:=S1.frm;have hPO:∀a,OA (Oc ix O) a->OA O a:=λa q0=>by
     obtain⟨j,e⟩:=q0;unfold Oc at e;cases hi:ix[j]? with
     |none=>rw[hi] at e;cases e
     |some i=>rw[hi] at e;exact⟨i,e⟩
    have SL:=S0.laid (o:=.lst acc) hD;have fL:Fr (OA (Oc ix O)) (upd H0 D (.lst acc)) H1:=λb o e n=>by
     by_cases hb:b=D
     ·subst hb
      rw[b5] at e;cases e;exact hD1
     ·rw[bM hb] at e
      exact fP b o e n
    refine⟨SL.call (VW) (λi=>?_) fL hPO,(p0.fr (P:=OA O)).trans (fP.mono hPO),λz=>?_,.lst hD1 (T8 az λp hp=>(S1.kep p hp).mono QS QS),S0.new hD,S0.fresh hD⟩
    ·by_cases i5:i<δ1.length
     ·rcases VV (ix:=ix) (ss:=δf) (δ:=δ1) i i5 hlc.symm with⟨j,x,e1,e2,e3⟩|⟨e1,e2⟩
      ·have e4:(δf++NC nl)[j]? =some (.ow x):=by rw[Ao (Ag.mp e2).1];exact e2
       obtain⟨a,e5,_,w⟩:=S1.ow j x e4;refine .inr ⟨a,x,?_,e3,w.mono QS⟩;unfold Oc at e5;rw[e1] at e5;exact e5
      ·refine .inl ⟨e2,λa ea ⟨j,ej⟩ => ?_⟩
       obtain⟨x,ex⟩:=S1.dom j a ej;unfold Oc at ej;cases hi:ix[j]? with
       |none=>rw[hi] at ej;cases ej
       |some i'=>
        rw[hi] at ej;have:i=i':=S0.inj i i' a ea ej;subst this;have hj:j<δf.length:=by rw[hlc];exact(Ag.mp hi).1
        rw[Ao hj] at ex;exact e1 j x hi ex
     ·refine .inl ⟨?_,λa ea => ?_⟩
      ·rw[Cg (by rw[VW];lia),Cg (by lia)]
      ·obtain⟨x,ex⟩:=S0.dom i a ea
       exact absurd (Ag.mp ex).1 i5
    ·exact p0.trans dg
theorem aL.sqT{a:Um}{xs:List V}(s:aL H H')(h:WF K H a xs):WF K H' a xs:=Fr.tup (P:=λ_=>False) s.fr h
theorem jI{tg:Ut}(hK:X.K=K)(h:PE X e (TV K ml true bt bi f))(hb:bi=true:=by rfl):PI X tg e (TIVp K ml (TK f)):=by
 subst hb;refine((Wx (K:=K) hK h).or (Yw (K:=K) hK h)).imp λσ H R ⟨B,O,δ,ds,δ',S,q,k⟩=>?_;unfold TK at q;cases h1:f δ with
 |none=>rw[h1] at q;cases q
 |some p=>
  obtain⟨x,δ1⟩:=p;rw[h1] at q;cases x with
  |lst ds'=>
   cases q;refine .inl ⟨B,O,δ,_,δ1,S,h1,λv H1 R1=>?_⟩;obtain⟨a,xs,rfl,sq,r⟩:=R1.rep.lstE;refine⟨a,rfl,⟨xs,sq⟩,k _ H1 R1.sta (R1.pur rfl) ⟨xs,r,λH2 sm=>⟨λi x ex=>⟨⟨xs,x,sm.seq sq,ex⟩,λy H3 hy=>?_⟩,xs,sm.seq sq,Ap _⟩⟩⟩;obtain⟨e2,e3⟩:=hy;have:=e3 xs (sm.seq sq);rw[ex] at this;cases this;exact⟨e2,rfl⟩
  |tup ds'=>
   cases q;refine .inr ⟨B,O,δ,_,δ1,S,h1,λv H1 R1=>?_⟩;obtain⟨a,xs,rfl,sq,r⟩:=R1.rep.tupE;refine⟨a,rfl,⟨xs,sq⟩,k _ H1 R1.sta (R1.pur rfl) ⟨xs,r,λH2 sm=>⟨λi x ex=>⟨⟨xs,x,sm.sqT sq,ex⟩,λy H3 hy=>?_⟩,xs,sm.sqT sq,Ap _⟩⟩⟩;obtain⟨e2,e3⟩:=hy;have:=e3 xs (sm.sqT sq);rw[ex] at this;cases this;exact⟨e2,rfl⟩
  |_=>cases q
theorem AZ{i:Nat}{y:Us}{py du:Pos}{tg iter elt:Ut}{ifs:List Ut}{scope:Vd}{fi:VI}{gg:VG}{tb:VB}{fe:VF}(o:Bool)(hN:X.N.Nodup)(N':List Us)(ix:List Nat)(nl:Nat)(hi:PI X tg iter (TIVp K ml fi))(blk:BlkC X K N' ix scope tg ifs elt gg pt tb pe fe)(hi':X.N[i]?=some y:=by rfl)(hy:X.env.scope.names.lookup y=some .local:=by rfl)(hc:X.calm=true:=by rfl)(hk:scope.kind=.function:=by rfl)(hok:NM X.N N' ix scope.names X.env.kindOf=true:=by rfl)(hnl:N'.length=ix.length+nl:=by rfl)(hnd:ix.Nodup:=by decide)(hp:(pt&&pe)=true:=by rfl)(hm:i∉ml:=by decide)(hsw:Vb (.ListComp elt [⟨tg,iter,ifs,0⟩] scope pos) (some (.Name y py)) du.line X.env=pure true:=by rfl)(hs:∀x,Uz iter X.env x=pure x:=by intro _;rfl):PS X (.Assign [.Name y py] (.ListComp elt [⟨tg,iter,ifs,0⟩] scope pos) du) (V6 K ml (aD i (if o then xO (ZG ix nl fi gg tb fe) else xV (ZG ix nl fi gg tb fe)))):=by obtain⟨h1,h2⟩:=(Ae _ _).mp hp;subst h1 h2;exact(IH hN hi' hy hc (W1 hk hok) hnl hi (blk (W1 hk hok).nd) hsw hs).imp λD σ H h=>AK (λσ H Q z=>AM hnd (Wc (pu:=true) z)) hm h
end
section
variable{X:Cx}{K:Ai}{ml:List Nat}{e a b c:Ut}{es:List Ut}{pa ta ia pb tb ib pc tc ic pu bt bi ps bs:Bool}{fa fb fc f:VF}{B B':Bs}{O:Nat->Option Um}{H H1 H':Hp}{σ:St}{δ δ':Ev}{v:V}{d:cO}{p:Um}{pos:Pos}
noncomputable def OQ:List (Us×aS)->Us->Option aS
 |[],_=>none
 |(y,F)::r,x=>if y=x then some F else OQ r x
def DS(X:Cx)(K:Ai)(mF:List Nat)(n:Nat)(tb:List (Us×aS)):Prop:=∀x F a,OQ tb x=some F->Et K Up x=some (some (.ref a))->FnAt X a (spV K mF n F)
theorem iG{mF:List Nat}{n:Nat}:DS X K mF n []:=λ_ _ _ h=>nomatch h
theorem JB{x:Us}{kk j n:Nat}{qs:List Us}{mF:List Nat}{F:aS}{ff:Um}{tb:List (Us×aS)}(hK:X.K=K)(hm:∀x a,Et K Up x=some (some (.ref a))->X.mg x=some (.ref a))(hr:Y7 j X.A)
  (D:Def X.prog X.w K X.mg X.base x kk qs (spV K mF n F) ff) (hk:kk<=j) (t:DS X K mF n tb):DS X K mF n ((x,F)::tb):=λy G a h1 h2=>by
 unfold OQ at h1;split at h1
 ·rename_i hxy
  subst hxy;cases h1;have e:=(hm x a h2).symm.trans D.at_;cases e;subst hK;exact D.fnAt hr hk
 ·exact t y G a h1 h2
end
section
variable{X:Cx}{K:Ai}{ml:List Nat}{e a b c:Ut}{es:List Ut}{pa ta ia pb tb ib pc tc ic pu bt bi ps bs:Bool}{fa fb fc f:VF}{pos p':Pos}{d:cO}{x:Us}
theorem vv(i:Nat)(hN:X.N[i]?=some x:=by rfl)(hv:Vis X.env.scope x:=by first|exact Gp rfl|exact Fd (Gp rfl)|exact Fd (Fd rfl))(hd:(x==("__debug__":Us))=false:=by decide)(hcd:(x==("__classdict__":Us))=false:=by decide):PE X (.Name x pos) (TV K ml true true true (fV i)):=iL (GA hN hv hd hcd)
theorem vo(i:Nat)(hN:X.N[i]?=some x:=by rfl)(hv:Vis X.env.scope x:=by first|exact Gp rfl|exact Fd (Gp rfl)|exact Fd (Fd rfl))(hd:(x==("__debug__":Us))=false:=by decide)(hcd:(x==("__classdict__":Us))=false:=by decide):PE X (.Name x pos) (TV K ml true false true (fO i)):=nV (GA hN hv hd hcd)
theorem Y1(hu:X.A.units+1<cLine)(ha:PE X a (TV K ml pa ta ia fa))(hb:PE X b (TV K ml pb tb ib fb))(hK:X.K=K:=by rfl)(hx:JP b:=by exact λ_ _=>rfl)(hs:(pb || (ta&&ia))=true:=by rfl):PE X (.Subscript a b pos) (TV K ml (pa&&pb) ia ia (f2 bJ fa fb)):=
 mK (kIxA hK hu) lK ha hb hx hs
theorem veq(hu:X.A.units+64<cLine)(ha:PE X a (TV K ml pa ta ia fa))(hb:PE X b (TV K ml pb tb ib fb))(hK:X.K=K:=by rfl)(hs:(pb || (ta&&ia))=true:=by rfl):PE X (.Compare a [.Eq] [b] pos) (TV K ml (pa&&pb) true true (f2 VT fa fb)):=
 XR (kEqD hK hu) s_eq ha hb (Z4 _) hs
theorem UW(hu:X.A.units+64<cLine)(ha:PE X a (TV K ml pa ta ia fa))(hb:PE X b (TV K ml pb tb ib fb))(hK:X.K=K:=by rfl)(hs:(pb || (ta&&ia))=true:=by rfl):PT X (.Compare a [.Eq] [b] pos) (TB K ml (pa&&pb) (fB (f2 VT fa fb))):=
 a6 (kEqD hK hu) s_eq ha hb (Z4 _) hs
theorem a8{kk j n:Nat}{qs:List Us}{mF:List Nat}{F:aS}{ff:Um}{fs:PX}(D:Def X.prog X.w K X.mg X.base x kk qs (spV K mF n F) ff)(hr:Y7 j X.A)(ha:PA X (e::es) (FK K ml ps fs))(hK:X.K=K:=by rfl)(hk:kk<=j:=by decide)(hg:Gl X x:=by rfl)(hdb:(x==("__debug__":Us))=false:=by decide)(he:Uo (e::es) X.env=(false,eval e X.env)::Uo es X.env:=by rfl)(hpl:(Dq pos (Uo es X.env)).any (·.1)=false:=by rfl):PE X (.Call (.Name x p') (e::es) [] pos) (TV K ml (ps&&mF.isEmpty) true true (cA n mF F fs)):=iU hK D hr hk hg ha hdb he hpl
theorem WW(hm:X.mg "len"=none)(ha:PE X a (TV K ml pa ta ia fa))(hK:X.K=K:=by rfl)(hg:Gl X "len":=by rfl)(he:Uo (a::[]) X.env=(false,eval a X.env)::Uo [] X.env:=by rfl):PE X (.Call (.Name "len" p') [a] [] pos) (TV K ml pa true true (f1 YW fa)):=
 Wy (fS hK) Zw hg hm hV ha (by decide) (by decide) he
theorem vty{n:String}(hm:X.mg x=none)(hv:Be x=some (.type n))(hg:Gl X x:=by rfl)(hn:x≠ "__name__":=by decide)(hd:(x==("__debug__":Us))=false:=by decide):PE X (.Name x pos) (TV K ml true true true (fC (.ty n))):=
 DI (gA (v:=.ty n) hg hm hv rfl hn hd) λ_ _ _=>.ty _
theorem DK(hm:X.mg "isinstance"=none)(ha:PE X a (TV K ml pa ta ia fa))(hb:PE X b (TV K ml pb tb ib fb))(hK:X.K=K:=by rfl)(hg:Gl X "isinstance":=by rfl)(he:Uo (a::[b]) X.env=(false,eval a X.env)::Uo [b] X.env:=by rfl)(he2:Uo (b::[]) X.env=(false,eval b X.env)::Uo [] X.env:=by rfl)(hpl:(Dq pos (Uo [b] X.env)).any (·.1)=false:=by rfl)(hs:(pb || (ta&&ia))=true:=by rfl):PE X (.Call (.Name "isinstance" p') [a,b] [] pos) (TV K ml (pa&&pb) true true (f2 QV fa fb)):=X7 (kIsi hK) kR hg hm bP ha hb (by decide) (by decide) he he2 hpl hs
end
def A4(K:Ai)(x:Us)(st:Ux)(f:Um):Prop:=∃(oc:Ul) (od:Option Um) (kV doc pm:Ul) (an:Option Um) (cdv ct:Ul) (osl:Array (Option Ul)),Et K Up x=some (some (.ref f))∧
 K.lookup f=some ⟨oc,od,.func (Mc x x (YR st) (aP st) (cL st) .none kV doc pm an cdv ct),osl⟩/\Op K cdv x=true/\Hh K (.ref f)=true
theorem a4{K:Ai}{x:Us}{st:Ux}{f:Um}{oc:Ul}{od:Option Um}{kV doc pm:Ul}{an:Option Um}{cdv ct:Ul}{osl:Array (Option Ul)}(a:Et K Up x=some (some (.ref f)))(b:K.lookup f=some ⟨oc,od,.func (Mc x x (YR st) (aP st) (cL st) .none kV doc pm an cdv ct),osl⟩)(c:Op K cdv x=true)(d:Hh K (.ref f)=true):A4 K x st f:=⟨oc,od,kV,doc,pm,an,cdv,ct,osl,a,b,c,d⟩
theorem A4.ns{K:Ai}{x:Us}{st:Ux}{f:Um}(p:A4 K x st f):Et K Up x=some (some (.ref f)):=by obtain⟨_,_,_,_,_,_,_,_,_,a,_⟩:=p;exact a
theorem X9{P:As}{w:Uu}{K:Ai}{mg:Us->Option Ul}{base h:Uw}{x:Us}{st:Ux}{f:Um}{ps:List Us}{sp:Sp}{k:Nat}(X:K.In h)(G:h.Ns Up mg)(p:A4 K x st f)(ok:∀{fd:Cu},X8 K x x st f fd->Z7 P w K mg base CX0 k f fd ps sp)(hb:∀{kV doc pm:Ul} {an:Option Um} {cdv ct:Ul} (us:List Ul),us.length=ps.length->Rg (Mc x x (YR st) (aP st) (cL st) .none kV doc pm an cdv ct) ⟨us,[]⟩=pure (ps.zip us)):Def P w K mg base x k ps sp f:=by obtain⟨oc,od,kV,doc,pm,an,cdv,ct,osl,a,b,c,d⟩:=p;have U:=J3 (st:=st) b c d;exact⟨Dx X G a,⟨_,ok U,U.binds λ_ _ _ _ _ _=>hb⟩,d⟩
theorem RP(P:As)(w:Uu)(K:Ai)(mg:Us->Option Ul)(base:Uw){x qual:Us}{st:Ux}{f:Um}{fd:Cu}(N ps:List Us)(k:Nat)(g:VS)(ml:List Nat)(F:X8 K x qual st f fd)(S:bX N ps (cL st))(aq:∀(cdv:Ul) (A:Bt) (outer:List Env) (s:Ad) (H:Hp) (E:XK) (hr:Y7 k (A.deeper (envOfC qual (cL st) s.heap.objs.size f cdv))) (_:(A.deeper (envOfC qual (cL st) s.heap.objs.size f cdv)).units+64<cLine) (_:(A.deeper (envOfC qual (cL st) s.heap.objs.size f cdv)).units+1<cLine),WZ (TJ CX0 P w K mg base N qual (cL st) f cdv A outer s H E).nox (aP st) (V6 K ml g))(hps:ps.length<=N.length:=by decide):Z7 P w K mg base CX0 (k+1) f fd ps (spV K ml ps.length (ZH N.length ml g)):=
 X8.okV F S hps λcdv A outer s H E hr=>aq cdv A outer s H E hr hr.units (Yd hr)
theorem YQ{N P:List Us}{sc:Vd}(a:sc.kind=.function:=by rfl)(b:sc.isCoroutine=false:=by rfl)(c:sc.isGenerator=false:=by rfl)(d:N.Nodup:=by decide+kernel)(e:N.take P.length=P:=by rfl)(f:∀x∈P,sc.names.lookup x=some .local∨sc.names.lookup x=some .cell:=by decide+kernel)(g:∀y∈sc.names,y.2≠Bk:=by decide+kernel):bX N P sc:=⟨a,b,c,d,e,f,g⟩
section
variable{X:Cx}{K:Ai}{ml:List Nat}{B:Bs}{O:Nat->Option Um}{H:Hp}{σ:St}{δ:Ev}{st:Ux}{g:VS}
theorem aN.lets(S:aN K ml B O H σ δ){i:Nat}{d:cO}(hm:i∉ml)(h:δ[i]?=some (Sl.ow d)):∃O',aN K ml B O' H σ (δ.set i (.va d)):=by
 obtain⟨a,e1,e2,w⟩:=S.ow i d h;have S1:=S.setVa (i:=i) (v:=.non) (d:=.non) hm .non;have nn:¬Nn B (λj=>if j=i then none else O j) a:=λz=>by
  rcases z with z|⟨j,z⟩
  ·exact(S.old i a e1).1 z
  ·by_cases hj:j=i
   ·simp[hj] at z
   ·exact hj (S.inj j i a (by simpa[hj] using z) e1)
 have r:=(w.mono (RN (i:=i) (o:=none))).rep nn;have S2:=S1.setVa (i:=i) (v:=.ref a) (d:=d) hm r;rw[Tz,Tz] at S2;have hs:σ.set i (some (.ref a))=σ:=by
  refine Lc λk=>?_;by_cases hk:i=k
  ·subst hk
   rw[Cj (Ag.mp e2).1,e2]
  ·rw[Bo hk]
 rw[hs] at S2;exact⟨_,S2⟩
noncomputable def sFrz(i:Nat)(g:VS):VS:=λδ=>match δ[i]? with
 |some (.ow d)=>g (δ.set i (.va d))
 |_=>none
theorem gE{i:Nat}(h:PS X st (V6 K ml g))(hm:i∉ml:=by decide):PS X st (V6 K ml (sFrz i g)):=h.imp λD σ H q0=>by
 obtain⟨B,O,δ,o,S,q,k⟩:=q0;unfold sFrz at q;split at q
 ·rename_i d e
  obtain⟨O',S'⟩:=S.lets hm e;exact⟨B,O',_,o,S',q,k⟩
 ·cases q
end
def KD{α:Type}:Vf α->Prop
 |.pure _=>True
 |.raise _=>True
 |.unsupported _=>True
 |.finish _=>True
 |.rule _ k=>KD (k ())
 |.at _ k=>KD (k ())
 |.load _ _ k=>∀o,KD (k o)
 |.update _ _ f k=>(∀o,(f o).dict=o.dict)/\KD (k ())
 |.alloc _ k=>∀a,KD (k a)
 |.loadIfAlive _ k=>∀o,KD (k o)
 |.point _ k=>KD (k ())
 |.stack k=>∀l,KD (k l)
 |.fresh k=>∀l,KD (k l)
 |.ask k=>∀l,KD (k l)
 |.handled _ k=>∀l,KD (k l)
 |_=>False
def Dc(e:Um)(d:Option Um)(h:Uw):Prop:=∃o,h.objs[e]?=some o/\o.dict=d
theorem Dc.of{e:Um}{h:Uw}{o:Uy}(q:h.get? e=some o):Dc e o.dict h:=⟨o,(Oz.mp q).1,rfl⟩
theorem Dc.at{e:Um}{d:Option Um}{h:Uw}{o:Uy}(D:Dc e d h)(q:h.get? e=some o):o.dict=d:=by obtain⟨o',e1,e2⟩:=D;rw[(Oz.mp q).1] at e1;cases e1;exact e2
theorem Dc.upd{e a:Um}{d:Option Um}{h:Uw}{f:Uy->Uy}(D:Dc e d h)(hf:∀o,(f o).dict=o.dict):Dc e d (h.update a f):=by
 obtain⟨o,e1,e2⟩:=D;cases h;simp only[Dc,Heap.update,Array.getElem?_modify];by_cases hb:a=e
 ·subst hb
  exact⟨f o,by rw[if_pos rfl,e1];rfl,(hf o).trans e2⟩
 ·exact⟨o,by rw[if_neg hb];exact e1,e2⟩
theorem Dc.push{e:Um}{d:Option Um}{h:Uw}(o:Uy)(D:Dc e d h):Dc e d (h.push o):=by obtain⟨o1,e1,e2⟩:=D;cases h;refine⟨o1,?_,e2⟩;simp only[Heap.push,Array.getElem?_push];rw[if_neg (Au (Array.getElem?_eq_some_iff.mp e1).1)];exact e1
theorem lU{α:Type}{M:Vi}{Γ:PySem.Ctx}{e:Um}{d:Option Um}{E:Ul->Pos->Ad->Prop}:∀(t:Vf α) (Q:α->Pos->Ad->Prop) (p:Pos) (s:Ad),KD t->Dc e d s.heap->Sem.wp M Γ t Q E p s->Sem.wp M Γ t (λa p s'=>Q a p s'/\Dc e d s'.heap) E p s:=by
 intro t;induction t with
 |pure a=>intro Q p s _ D h;simp only[Sem.wp_pure] at h⊢;exact⟨h,D⟩
 |raise v=>intro Q p s _ D h;simp only[Sem.wp_raise] at h⊢;exact h
 |unsupported w=>intro Q p s _ D h;simp only[Sem.wp_unsupported] at h
 |finish w=>intro Q p s _ D h;simp only[Sem.wp_finish] at h
 |rule g k ih=>intro Q p s K D h;simp only[Sem.wp_rule] at h⊢;exact ih () Q p s K D h
 | «at» q k ih=>intro Q p s K D h;simp only[Sem.wp_at] at h⊢;exact ih () Q q s K D h
 |load a b k ih=>intro Q p s K D h;rw[Sem.wp_load] at h⊢;obtain⟨o,e1,h⟩:=h;exact⟨o,e1,ih o Q p s (K o) D h⟩
 |update a b f k ih=>intro Q p s K D h;rw[Sem.wp_update] at h⊢;exact⟨h.1,ih () Q p _ K.2 (D.upd K.1) h.2⟩
 |alloc o k ih=>intro Q p s K D h;simp only[Sem.wp_alloc] at h⊢;exact ih _ Q p _ (K _) (D.push o) h
 |loadIfAlive a k ih=>intro Q p s K D h;simp only[Sem.wp_loadIfAlive] at h⊢;exact ih _ Q p s (K _) D h
 |point l k ih=>intro Q p s K D h;simp only[Sem.wp_point] at h⊢;exact ih () Q p s K D h
 |stack k ih=>intro Q p s K D h;rw[Sem.wp] at h⊢;exact ih _ Q p s (K _) D h
 |fresh k ih=>intro Q p s K D h;simp only[Sem.wp_fresh] at h⊢;exact ih _ Q p _ (K _) D h
 |ask k ih=>intro Q p s K D h;simp only[Sem.wp_ask] at h⊢;exact ih _ Q p s (K _) D h
 |handled o k ih=>intro Q p s K D h;simp only[Sem.wp_handled] at h⊢;exact ih _ Q p s (K _) D h
 |_=>intro Q p s K;exact K.elim
theorem QG{α:Type}{M:Vi}{A:Bt}{e:Um}{d:Option Um}{E:Ul->Ad->Prop}{t:Vf α}{Q:α->Ad->Prop}{s:Ad}(K:KD t)(D:Dc e d s.heap)(h:Uq M A t (λa s'=>Dc e d s'.heap->Q a s') E s):Uq M A t Q E s:=λΓ p hΓ=>
 Sem.wp_mono M Γ t (λa p s' z=>z.1 z.2) (λ_ _ _ z=>z) p s (lU t _ p s K D (h Γ p hΓ))
theorem KD.bind{α β:Type}{f:α->Vf β}:∀{m:Vf α},KD m->(∀a,KD (f a))->KD (m>>=f):=by
 intro m;show KD m->_->KD (Sem.bind m f);induction m with
 |pure a=>intro _ h;exact h a
 |raise v=>intro _ h;exact trivial
 |unsupported w=>intro _ h;exact trivial
 |finish w=>intro _ h;exact trivial
 |rule g k ih=>intro K h;exact ih () K h
 | «at» q k ih=>intro K h;exact ih () K h
 |load a b k ih=>intro K h o;exact ih o (K o) h
 |update a b f k ih=>intro K h;exact⟨K.1,ih () K.2 h⟩
 |alloc o k ih=>intro K h a;exact ih a (K a) h
 |loadIfAlive a k ih=>intro K h o;exact ih o (K o) h
 |point l k ih=>intro K h;exact ih () K h
 |stack k ih=>intro K h l;exact ih l (K l) h
 |fresh k ih=>intro K h l;exact ih l (K l) h
 |ask k ih=>intro K h l;exact ih l (K l) h
 |handled o k ih=>intro K h l;exact ih l (K l) h
 |_=>intro K;exact K.elim
theorem dF(f:Array Ul->Array Ul)(o:Uy):(Tj f o).dict=o.dict:=by unfold Tj;split<;>rfl
theorem KD.field(v:Ul)(i:Nat):KD (field v i):=by unfold PySem.field fieldsOf;repeat (first|exact trivial|exact λ_=>trivial|with_reducible refine KD.bind ?_ ?_|intro _|split)
theorem KD.setField(v:Ul)(i:Nat)(x:Ul):KD (setField v i x):=by unfold Si updateField;repeat (first|exact trivial|exact⟨dF _,trivial⟩|exact λ_=>trivial|with_reducible refine KD.bind ?_ ?_|intro _|split)
theorem KD.flight(e:Ul)(f:Option Um):KD (setFlight e f):=by unfold setFlight;repeat (first|exact trivial|exact KD.field _ _|exact KD.setField _ _ _|with_reducible refine KD.bind ?_ ?_|intro _|split)
theorem KD.ready:∀l:List Env,KD (readyFrames l)
 |[]=>trivial
 |env::outer=>by have ih:=KD.ready outer;unfold readyFrames behindIsImport keptBack;repeat (first|exact trivial|exact ih|exact KD.field _ _|exact⟨λ_=>rfl,trivial⟩|exact λ_=>trivial|with_reducible refine KD.bind ?_ ?_|intro _|split)
theorem KD.frameOf(env:Env):KD (Pa env):=by have h1:=KD.ready;unfold Pa frameObject frameEnvs;repeat (first|exact trivial|exact h1 _|exact λ_=>trivial|with_reducible refine KD.bind ?_ ?_|intro _|split)
theorem KD.place(f:Um)(b:Bool):KD (Qm f b):=by unfold Qm;repeat (first|exact trivial|exact λ_=>trivial|with_reducible refine KD.bind ?_ ?_|intro _|split)
theorem KD.entry(a b c d e:Ul)(l:List Ul):KD (Oe a b c d e l):=by show KD (if _ then unsupported _>>=λ_=>Sy _ _ _ else Sy _ _ _);have h:∀x:Data,KD (Sy (.type "traceback") x none):=λx=>λ_=>trivial;repeat (first|exact trivial|exact h _|split)
theorem KD.note(e:Ul)(env:Env):KD (noteFrame e env):=by have h2:∀head f,KD (Pa env>>=λa=>Qm f (head != .none)>>=λpl=>Oe head a .none (rawInt f) .none pl>>=λb=>Si e 1 b):=λ_ _=>KD.bind (KD.frameOf _) λ_=>KD.bind (KD.place _ _) λ_=>KD.bind (KD.entry _ _ _ _ _ _) λ_=>KD.setField _ _ _;unfold noteFrame;repeat (first|exact trivial|exact h2 _ _|exact KD.field _ _|exact KD.setField _ _ _|exact λ_=>h2 _ _|with_reducible refine KD.bind ?_ ?_|intro _|split)
theorem KD.leave(e:Ul)(env:Env):KD (leaving env e):=KD.bind (KD.note e env) λ_=>KD.flight e none
end L2
namespace L2
open PySem PySem.Spec PyProof.Rows PySem.W PySem.Builtin PySem.Builtin.ObjectAttr
noncomputable abbrev AN:List Ul:=[.type "ValueError",.type "Exception",.type "BaseException",.type "object"]
structure XA(K:Ai)(C:Um):Prop where
 mro:W.mroIn K C (.type "object")=some true
 cls:Rf K (.ref C) "__class__"=some (some (.builtin "object.__class__"))
 get:W.specialIn K (.builtin "object.__class__") "__get__"=some (some (.builtin "getset_descriptor.__get__"))
 tak:W.takesIn K (.builtin "object.__class__")=some true
 ga:Rf K (.ref C) "__getattribute__"=some (some (.builtin "BaseException.__getattribute__"))
 no:Rf K (.ref C) "__getattr__"=some none
 sub:Pz K (.ref C) (.type "BaseException")=some true
structure XG(K:Vg)(C Cp:Um)(nm:Us):Prop where
 mro:∃cd,clsIn K C=some cd/\cd.mro=.ref C:: .ref Cp::AN/\cd.hasDict=true
 non:findIn K (.ref C) nm=some none
 set:findIn K (.ref C) "__setattr__"=some (some (.builtin "object.__setattr__"))
noncomputable def xgOk(K:Vg)(C Cp:Um):Bool:=match clsIn K C with
 |some cd=>cd.mro== .ref C:: .ref Cp::AN&&cd.hasDict
 |none=>false
theorem XG.of{K:Vg}{C Cp:Um}{nm:Us}(h:xgOk K C Cp=true)(a:findIn K (.ref C) nm=some none)(b:findIn K (.ref C) "__setattr__"=some (some (.builtin "object.__setattr__"))):XG K C Cp nm:=by
 unfold xgOk at h;split at h
 ·rename_i cd hc
  simp only[Ae,beq_iff_eq] at h;exact⟨⟨cd,hc,h.1,h.2⟩,a,b⟩
 ·cases h
section
variable{prog:As}{w:Uu}{A:Bt}{E:Ul->Ad->Prop}{s:Ad}{K:Vg}{x C Cp:Um}{nm:Us}{vs:Array Ul}{sl:Array (Option Ul)}{v:Ul}
theorem pB{Q:Unit->Ad->Prop}(X:K.In s.heap)(hx:s.heap.get? x=some ⟨.ref C,none,.fields vs,sl⟩)(F:XG K C Cp nm)(h:∀h' D tk,(∀b o,b≠x->s.heap.get? b=some o->h'.get? b=some o)->s.heap.objs.size<=D->D≠x->h'.get? x=some ⟨.ref C,some D,.fields vs,sl⟩->h'.Ns1 D (λy=>if y=nm then some v else none)->Q () {s with heap:=h',toks:=tk}):Uq (Ur prog w) A (setAttr (.ref x) nm v) Q E s:=by
 obtain⟨hh,g,d,t,os⟩:=s;obtain⟨cd,hc,hm,hd⟩:=F.mro;have SF:=PySem.F.store_ValueError;have SO:=PySem.F.store_object;have L0:Looks (Ur prog w) hh (Nl (.ref x)) (.ref C):=(Nd hx).andThen .now;have L1:=Hn (M:=Ur prog w) X F.set;have L2:=Hn (M:=Ur prog w) X F.non;have L3:Looks (Ur prog w) hh (mroOf (.ref C)) cd.mro:=(looks_clsIn X hc).andThen .now;have L4:=looks_clsIn (M:=Ur prog w) X hc;have sub:Looks (Ur prog w) hh (Lg (.ref x) (.type "object")) true:=L0.andThen (looks_mroIn X (by unfold mroIn;rw[hc,Af,hm];rfl));unfold setAttr;refine Aa (Qn (Aa (Aa (Aa (L0.at (L1.at (Bq (Aa ?_))))))));rw[SO.slot.bind];refine Ah (Aa (Hl ?_));refine Fw SO.slot.plain SO.entry (@check_slot (Ur prog w) _ _ _ "object.__setattr__" "object" "__setattr__" (.ref x) [.str nm t,v] [] _ SO.kind SO.split sub (SO.args (.ref x) (.str nm t) v) ?_);show Uq (Ur prog w) A.in1 (Du.«object.__setattr__» ⟨[.ref x,.str nm t,v],[]⟩) _ _ ⟨hh,g,d,t+1,os⟩;rw[osa_eq,refuse_eq];refine Aa (Aa (L0.at (Aa (L3.at ?_))));rw[hm,refuseLoop_ref,refuseLoop_ref,SF.passes];refine Ah (Aa (L0.at (Aa (L2.at (Aa (Ah ?_))))));show Uq (Ur prog w) A.in1 (storeInOwnDict (.ref x) (.ref C) (.str nm t) nm v false) _ _ _;refine Aa (Ah (Aa ?_));show Uq (Ur prog w) A.in1 (instanceDict x true) _ _ _;unfold instanceDict;refine Aa (Nt hx ?_);dsimp only;refine Aa (L4.at ?_);rw[hd];have hxs:x≠hh.objs.size:=Au (Aj hx);have hx1:=Ac {cls:=.type "dict",data:=.dict #[]} hx;show Uq (Ur prog w) A.in1 (alloc {cls:=.type "dict",data:=.dict #[]}>>=_) _ _ _;refine Aa (wpAny_alloc (Aa (wpAny_update hx1 ?_)));show Uq (Ur prog w) A.in1 (pure (some hh.objs.size)) _ _ _;refine Ah ?_;show Uq _ _ (storeInDict hh.objs.size (.str nm t) nm v) _ _ _;have hgd:((hh.push {cls:=.type "dict",data:=.dict #[]}).update x λo=>{o with dict:=some hh.objs.size}).get? hh.objs.size=some {cls:=.type "dict",data:=.dict #[]}:=
  (Gm _ _ hxs).trans (Heap.get?_push_at rfl rfl)
 have hgx:((hh.push {cls:=.type "dict",data:=.dict #[]}).update x λo=>{o with dict:=some hh.objs.size}).get? x=some ⟨.ref C,some hh.objs.size,.fields vs,sl⟩:=Jl _ hx1 rfl;have hnd:((hh.push {cls:=.type "dict",data:=.dict #[]}).update x λo=>{o with dict:=some hh.objs.size}).Ns hh.objs.size (λ_=>none):=⟨_,#[],_,hgd,rfl,λe he=>absurd he (by simp),λ_=>rfl⟩;unfold storeInDict newKeyGuard;refine Aa (Ah (Aa (wpAny_nsSet1 (Heap.Ns1.of_empty hnd) λh' hn' hs=>?_)));obtain⟨oD,esD,epD,hoD,hdD,hcD⟩:=hn'.count (Within.cons nm v Within.nil);refine Aa (wpAny_lookBehind hoD (by rw[hdD];exact pastItsLine_dict (Dz hcD (by show 1<=_;rw[Bu];lia))) ?_);exact Ah (Ah (Ah (h h' hh.objs.size _ (λb o hb q=>(hs.2 b (Au (Aj q))).trans ((Gm _ _ (Dm hb)).trans (Ac _ q))) (Ap _) hxs.symm ((hs.2 x hxs).trans hgx) hn')))
theorem lH{ox:Uy}{D:Um}{mA:Us->Option Ul}{Q:Ul->Ad->Prop}{jq:Bool}(X:K.In s.heap)(hx:s.heap.get? x=some ox)(hcl:ox.cls=.ref C)(hf:ox.data=.fields vs)(hdi:ox.dict=some D)(hD:s.heap.Ns1 D mA)(hv:mA nm=some v)(hh:handedIn v=true)(F:XG K C Cp nm)(G:XA K C)(h:Q v {s with toks:=s.toks+1}):Uq (Ur prog w) A (getAttr (.ref x) nm jq) Q E s:=by
 obtain⟨hp,g,d,t,os⟩:=s;obtain⟨cd,hc,hm,hd⟩:=F.mro;obtain⟨oD,e1,e5⟩:=L7 hD;have I:InstAt hp x ox C (some oD):=⟨hx,hcl,by unfold notCls;rw[hf],by rw[hdi];exact e1⟩;have L0:Looks (Ur prog w) hp (Nl (.ref x)) (.ref C):=hcl▸(Nd hx).andThen .now;have L1:=Hn (M:=Ur prog w) X G.ga;have L2:=Hn (M:=Ur prog w) X G.no;have L3:=looks_subIn (M:=Ur prog w) X G.sub;have LF:Looks (Ur prog w) hp (find (.ref x) (.ref C) nm) (.value v):=looks_find X I (by unfold findObj;rw[hc,Af,F.non,Af];dsimp only;rw[Af,Af];dsimp only;unfold W.ownOf;rw[hd,if_pos rfl];show(lookIn nm oD).bind _=_;rw[e5,hv];rfl)
 have fb:=PySem.F.excAttr_ValueError.ga.bind (.ref x);have hk:builtinKind "BaseException.__getattribute__"=some .slot:=by decide+kernel
 have hs:splitId "BaseException.__getattribute__"=some ("BaseException","__getattribute__"):=by decide+kernel
 have ha:=Ng (.ref x) (.str nm t);unfold getAttr getAttrBy;refine Aa (Qn (Bq (Aa (L0.at (Aa (L1.at ?_))))));show Uq _ _ (Ki _ _ _ _ _ _) _ _ _;unfold Ki hookBefore callGetattribute boundAndCalled;repeat (any_goals (first|assumption|with_reducible refine Looks.at L0 ?_|with_reducible refine Looks.at L2 ?_|wp_step))
 rw[show(jq&&onTheHeap (Tl "BaseException.__getattribute__"))=false by cases jq<;>rfl,fb,if_neg (by decide)];refine Aa (Ah (Hl (Fw PySem.F.excAttr_ValueError.ga.plain Mx (Bj (Q:=λ_ s'=>s'=⟨hp,g,d,t+1,os⟩) ?_ (λ_ s' z=>?_) λ_ _ z=>z))))
 ·show Uq _ _ (Me "BaseException.__getattribute__" ⟨[.ref x,.str nm t],[]⟩) _ _ _
  simp only[Me,hk,hs];unfold Lg;repeat (any_goals (first|rfl|assumption|with_reducible refine PySem.W.Looks.at L0 ?_|with_reducible refine PySem.W.Looks.at L3 ?_|wp_step))
 ·subst z
  show Uq _ _ (Du.«object.__getattribute__» ⟨[.ref x,.str nm t],[]⟩) _ _ _;unfold Du.«object.__getattribute__»;repeat (any_goals (first|assumption|with_reducible refine Looks.at L0 ?_|with_reducible refine Looks.at LF ?_|wp_step))
  exact handed_on hh h
end
structure XH(K:Vg)(Cp:Um):Prop where
 met:specialIn K (.ref Cp) "__getattribute__"=some (some (.builtin "type.__getattribute__"))
 rd:readsIn K Cp (.type "type")=true
 ini:findCls K (.ref Cp) (.type "type") "__init__"=some (.val (.builtin "ValueError.__init__"))
section
variable{prog:As}{w:Uu}{A:Bt}{E:Ul->Ad->Prop}{s:Ad}{K:Vg}{x C Cp N:Um}{nm q:Us}{v:Ul}{bs bm:List Ul}{hdct:Bool}{sn:List Us}{sub:List Ul}{ab:Bool}{col:Option Bool}{dd:Option Um}{k0 k1 k2 k3 k5:Option Ul}{cn:Us}
noncomputable abbrev PY(C t:Um)(d:Option Um):Uy:={cls:=.ref C,dict:=d,data:=.fields #[.ref t,.none,.none,.none,.bool false,.none]}
theorem mX{t0:Um}{u:Ul}{Q:Ul->Ad->Prop}(hC:s.heap.get? C=some (Gr cn q C N bs bm hdct sn sub ab col dd k0 k1 k2 k3 k5 "ValueError.__new__"))(T:Of s.heap AN bm)(hx:s.heap.get? x=some (PY C t0 none))(h:∀h' t1,(∀b o,b≠x->s.heap.get? b=some o->h'.get? b=some o)->s.heap.objs.size<=h'.objs.size->s.heap.get? t1=none->h'.get? x=some (PY C t1 none)->Q .none {s with heap:=h'}):Uq (Ur prog w) A (call (.builtin "ValueError.__init__") [.ref x,u]) Q E s:=by
 obtain⟨hh,g,d,t,os⟩:=s;have F:=Hb;refine Hl (Fw F.init.plain F.initEntry (wpAny_check_init_subT F T hC hx rfl ?_));wp_walk;have hxs:x≠hh.objs.size:=Au (Aj hx);refine h _ hh.objs.size (λb o hb q=>?_) ?_ (Jp (Ap _)) ?_
 ·rw[Gm _ _ (Dm hb)]
  exact Ac _ q
 ·rw[Qv,Ct];exact Fu _
 ·exact Jl _ (Ac _ hx) rfl
variable{env:Env}{m mg:Us->Option Ul}{txt:Us}{j:Nat}{p1 p2 p3 p4 p5 p6 p7 p8 p9 p10:Pos}
theorem eQ{t0:Um}{u:Ul}{pl:Vf Bool}{Q:Flow->Ad->Prop}(hk:env.scope.kind=.function)(hs:env.kindOf "self"=some .local)(hn:env.kindOf nm=some .local)(hg:env.kindOf "PackError"=some .globalImplicit)(L:s.heap.Ns env.locals m)(m1:m "self"=some (.ref x))(m2:m nm=some u)(G:s.heap.Ns env.globals mg)(g1:mg "PackError"=some (.ref Cp))(hne:env.locals≠x)(hng:env.globals≠x)(X:K.In s.heap)(XI:∀h':Uw,(∀b o,b≠x->s.heap.get? b=some o->h'.get? b=some o)->K.In h')(hC:s.heap.get? C=some (Gr cn q C N bs bm hdct sn sub ab col dd k0 k1 k2 k3 k5 "ValueError.__new__"))(hCx:C≠x)(T:Of s.heap AN bm)(hx:s.heap.get? x=some (PY C t0 none))(F:XG K C Cp nm)(W:XH K Cp)(he:eval (.Call (.Attribute (.Name "PackError" p1) "__init__" p2) [.Name "self" p3,.Constant (.str txt) j p4] [] p5) env=(do
   let ov<-eval (.Name "PackError" p1) env
   standAt p2.atName
   let (f,first)<-holding [ov] (getMethod ov "__init__" pl)
   Pb p5 f first (Dq p5 (Uo [.Name "self" p3,.Constant (.str txt) j p4] env)) (Ic p5 (Fc [] env))))
  (hw1:Vb (.Call (.Attribute (.Name "PackError" p1) "__init__" p2) [.Name "self" p3,.Constant (.str txt) j p4] [] p5) none p6.line env=pure false)(hw2:Vb (.Name nm p9) (some (.Attribute (.Name "self" p7) nm p8)) p10.line env=pure false)(hdb:(nm==("__debug__":Us))=false)(h:∀h' t1 D tk,(∀b o,b≠x->s.heap.get? b=some o->h'.get? b=some o)->s.heap.get? t1=none->s.heap.objs.size<=D->h'.get? x=some (PY C t1 (some D))->h'.Ns1 D (λy=>if y=nm then some u else none)->D≠x->Q .next {s with heap:=h',toks:=tk}):Uq (Ur prog w) A (execs [.Expr (.Call (.Attribute (.Name "PackError" p1) "__init__" p2) [.Name "self" p3,.Constant (.str txt) j p4] [] p5) p6,.Assign [.Attribute (.Name "self" p7) nm p8] (.Name nm p9) p10] env) Q E s:=by
 refine Ma (wpAny_Expr_any ?_ (by simp[Rn,hk]) hw1);refine methodCall_KW (pl:=pl) (Gz hk hg (Lp G g1 ?_)) he;refine method_cls X W.met (cls_value X W.rd W.ini (by decide+kernel) ?_);refine Fg rfl (Ek (x:=eval (.Name "self" p3) env) (rest:=[(false,eval (.Constant (.str txt) j p4) env)]) ?_);refine Ef (La (Hc hk hs L m1 ?_));refine Ef (Om (Gw ?_));refine mX hC T hx λh1 t1 k1 z1 n1 x1=>?_;refine Ma (plainObj_wpAny_Assign_Attribute ?_ hw2);have L1:h1.Ns env.locals m:=by obtain⟨o,es,ep,e,r⟩:=L;exact⟨o,es,ep,k1 _ _ hne e,r⟩
 refine La (Hc hk hn L1 m2 ?_) hdb;refine La (Hc hk hs L1 m1 ?_);refine pB (XI h1 k1) x1 F λh2 D tk k2 nD neD x2 nsD=>Hu (h h2 t1 D tk (λb o hb q=>k2 b o hb (k1 b o hb q)) n1 (Dz z1 nD) x2 nsD neD)
structure K8(K:Vg)(qual:Us)(st:Ux)(nm txt:Us)(f:Um)(fd:Cu):Prop where
 fn:X8 K "__init__" qual st f fd
 sc:bX ["self",nm] ["self",nm] (cL st)
 bd:U2 K fd ["self",nm] []
 s1:(cL st).names.lookup ("self":Us)=some .local
 s2:(cL st).names.lookup nm=some .local
 s3:(cL st).names.lookup ("PackError":Us)=some .globalImplicit
 ne:(nm==("self":Us))=false
 db:(nm==("__debug__":Us))=false
 tx:∃(p1 p2 p3 p4 p5 p6 p7 p8 p9 p10:Pos) (j:Nat) (pl:Um->Ul->Vf Bool),aP st=[.Expr (.Call (.Attribute (.Name "PackError" p1) "__init__" p2) [.Name "self" p3,.Constant (.str txt) j p4] [] p5) p6,.Assign [.Attribute (.Name "self" p7) nm p8] (.Name nm p9) p10]∧
  (∀L cd,eval (.Call (.Attribute (.Name "PackError" p1) "__init__" p2) [.Name "self" p3,.Constant (.str txt) j p4] [] p5) (envOfC qual (cL st) L f cd)=(do
   let ov<-eval (.Name "PackError" p1) (envOfC qual (cL st) L f cd)
   standAt p2.atName
   let (f1,first)<-holding [ov] (getMethod ov "__init__" (pl L cd))
   Pb p5 f1 first (Dq p5 (Uo [.Name "self" p3,.Constant (.str txt) j p4] (envOfC qual (cL st) L f cd))) (Ic p5 (Fc [] (envOfC qual (cL st) L f cd)))))∧
  (∀L cd,Vb (.Call (.Attribute (.Name "PackError" p1) "__init__" p2) [.Name "self" p3,.Constant (.str txt) j p4] [] p5) none p6.line (envOfC qual (cL st) L f cd)=pure false)/\∀L cd,Vb (.Name nm p9) (some (.Attribute (.Name "self" p7) nm p8)) p10.line (envOfC qual (cL st) L f cd)=pure false
theorem pA{qual:Us}{st:Ux}{fI:Um}{fd:Cu}{t0:Um}{u:Ul}{R:Tu->Ad->Prop}(i8:A.depth<Ey)(I:K8 K qual st nm txt fI fd)(X:K.In s.heap)(Xx:K.lookup x=none)(lim:s.heap.NoLimit)(G:s.heap.Ns Up mg)(g1:mg "PackError"=some (.ref Cp))(hC:s.heap.get? C=some (Gr cn q C N bs bm hdct sn sub ab col dd k0 k1 k2 k3 k5 "ValueError.__new__"))(T:Of s.heap AN bm)(hx:s.heap.get? x=some (PY C t0 none))(F:XG K C Cp nm)(W:XH K Cp)(h:∀h' t1 D tk,(∀b o,b≠x->s.heap.get? b=some o->h'.get? b=some o)->s.heap.get? t1=none->s.heap.objs.size<=D->h'.get? x=some (PY C t1 (some D))->h'.Ns1 D (λy=>if y=nm then some u else none)->D≠x->R (.ok (.ret .none)) {s with heap:=h',toks:=tk}):Jm (Ur prog w) A (.call (.ref fI) ⟨[.ref x,u],[]⟩) R s:=by
 obtain⟨oc,od,kV,doc,pm,an,cdv,ct,osl,rfl,lk,hcd⟩:=I.fn.ex;have dz:∀y∈(["self",nm]:List Us).zip [Ba x,u],(cL st).names.lookup y.1=some .local∨((cL st).names.lookup y.1=some .cell/\((Va (s.heap.objs.size+1) (cL st).names []).lookup y.1).isSome=true):=λ⟨n,v⟩ hy=>by
  rcases I.sc.par n (Ia hy).1 with q|q
  ·exact .inl q
  ·exact .inr ⟨q,PySem.W.cellsFrom_some _ _ _ (.inl q)⟩
 have hb:=I.bd s [.ref x,u] X rfl;refine Ji i8 (X _ _ lk) rfl I.sc.co I.sc.gen rfl (PySem.W.codeRec_of X hcd) (hb _ _ _ _ ?_);refine Ha I.sc.kind dz λenv he s1 xc=>?_;subst he;refine⟨lim.keeps xc.toInCall.keep,Qi ?_⟩;obtain⟨p1,p2,p3,p4,p5,p6,p7,p8,p9,p10,j,pl,aq,h1,h2,h3⟩:=I.tx;have kp:=xc.toInCall.keep;obtain⟨hh,tk0,e1⟩:=xc.toInCall.same;subst e1;show Uq _ _ (execs (aP st) (envOfC qual (cL st) s.heap.objs.size fI cdv)) _ _ _;rw[aq];have q1:(envOfC qual (cL st) s.heap.objs.size fI cdv).kindOf "self"=some .local:=I.s1;have q2:(envOfC qual (cL st) s.heap.objs.size fI cdv).kindOf nm=some .local:=I.s2;refine eQ (m:=bindL (envOfC qual (cL st) s.heap.objs.size fI cdv).kindOf ((["self",nm]:List Us).zip [Ba x,u]) λ_=>none) (mg:=mg) (x:=x) (u:=u) (Cp:=Cp) (K:=K) I.sc.kind I.s1 I.s2 I.s3 xc.toInCall.ns ?_ ?_ (G.keeps kp) g1 ?_ ?_ (X.keeps kp) ?_ (kp _ _ hC) ?_ (T.keeps kp) (kp _ _ hx) F W (h1 _ _) (h2 _ _) (h3 _ _) I.db ?_
 ·simp only[Pc,Pd,bindL,q1,q2,if_pos]
  rw[if_neg (λz=>by have:=I.ne;rw[<-z] at this;simp at this)]
 ·simp only[Pc,Pd,bindL,q1,q2,if_pos]
 ·exact λz=>absurd (Aj hx) (by rw[show x=s.heap.objs.size from z.symm];exact Cb _)
 ·intro z
  obtain⟨o,es,ep,e1,e2,_⟩:=G;rw[show Up=x from z,hx] at e1;cases e1;cases e2
 ·intro h' k b o e
  exact k b o (λz=>by rw[z,Xx] at e;cases e) (X.keeps kp b o e)
 ·intro z
  rw[z,hx] at hC;cases hC
 ·intro h' t1 D tk c1 c2 c3 c4 c5 c6
  have out:∀b,hh.get? b=none->s.heap.get? b=none:=λb z=>by
   cases e:s.heap.get? b with
   |none=>rfl
   |some o=>
    have:=kp b o e;rw[show hh.get? b=none from z] at this;cases this
  have big:s.heap.objs.size<=hh.objs.size:=by obtain⟨o,es,ep,e,_⟩:=xc.toInCall.ns;exact Mn (Ov xc.toInCall.fresh (Aj e))
  exact h h' t1 D tk (λb o hb q=>c1 b o hb (kp b o q)) (out _ c2) (Dz big c3) c4 c5 c6
end
structure DQ(h h':Uw)(e C:Um)(nm:Us)(u:Ul):Prop where
 keeps:∀b o,h.get? b=some o->h'.get? b=some o
 new:h.get? e=none
 there:∃t D,h'.get? e=some (PY C t (some D))/\h.get? t=none/\h.objs.size<=D/\D≠e/\h'.Ns1 D (λy=>if y=nm then some u else none)
section
variable{prog:As}{w:Uu}{A:Bt}{E:Ul->Ad->Prop}{s:Ad}{K:Vg}{C Cp N:Um}{nm q:Us}{v:Ul}{bs bm:List Ul}{hdct:Bool}{sn:List Us}{sub:List Ul}{ab:Bool}{col:Option Bool}{dd:Option Um}{k0 k1 k2 k3 k5:Option Ul}{cn qual txt:Us}
 {mN mg:Us->Option Ul} {fI:Um} {st:Ux} {fd:Cu} {u:Ul}
theorem CB{Q:Fin->Ad->Prop}(dep:A.depth+1<Ey)(hK:K.In s.heap)(lim:s.heap.NoLimit)(G:s.heap.Ns Up mg)(g1:mg "PackError"=some (.ref Cp))(oC:s.heap.get? C=some (Gr cn q C N bs bm hdct sn sub ab col dd k0 k1 k2 k3 k5 "ValueError.__new__"))(nN:s.heap.Ns N mN)(iN:mN "__init__"=some (.ref fI))(fT:typeIn K (.ref fI)=some (.type "function"))(tl:Of s.heap AN bm)(I:K8 K qual st nm txt fI fd)(P:XG K C Cp nm)(W:XH K Cp)(h:∀h' e tk,DQ s.heap h' e C nm u->Q (.done (.ret (.ref e))) {s with heap:=h',toks:=tk}):Uq (Ur prog w) A (Du.«type.__call__» ⟨[.ref C,u],[]⟩) Q E s:=by
 obtain⟨hh,g,d,t,os⟩:=s;have B:=Hb;repeat (first|with_reducible refine Gx oC ?_|with_reducible refine wpAny_madeBy_exc oC ?_|wp_step)
 refine codeAny_call_builtin_code (Ku _ B.quiet) (wpAny_check_new_subT B tl oC (codeAny_exc_new_subT B tl oC ?_ (by show 1<=sizeLine;decide)));have kp:∀b o,hh.get? b=some o->((hh.push {cls:=.type "tuple",data:=.seq [u].toArray}).push (PY C hh.objs.size none)).get? b=some o:=λb o e=>Ac _ (Ac _ e);have gx:((hh.push {cls:=.type "tuple",data:=.seq [u].toArray}).push (PY C hh.objs.size none)).get? (hh.objs.size+1)=some (PY C hh.objs.size none):=by heap_get
 have cC:(Ba C::bm).contains (.ref C)=true:=by simp
 have oC1:=kp _ _ oC;show Uq _ _ _ _ _ _;unfold Lg;repeat (first|with_reducible refine Gx gx ?_|(with_reducible refine Og oC1 ?_;rw[cC])|wp_step)
 show Uq _ _ (typeLookup (.ref C) _) _ _ _;refine wpAny_typeLookup_tail oC1 (nN.keeps kp) (tl.keeps kp) B.mroIs B.init.lookup ?_;rw[iN];refine Bq (Aa ((bind_fn (hK.keeps kp) _ fT).here (Aa (Hl ?_))));have gd:∀b,hh.objs.size<=b->hh.get? b=none:=λb z=>Jp z;have Xx:K.lookup (hh.objs.size+1)=none:=by
  cases e:K.lookup (hh.objs.size+1) with
  |none=>rfl
  |some o=>
   have:=hK _ _ e;rw[show(⟨hh,g,d,t,os⟩:Ad).heap.get? (hh.objs.size+1)=none from gd _ (Fu _)] at this;cases this
 have back:∀b,((hh.push {cls:=.type "tuple",data:=.seq [u].toArray}).push (PY C hh.objs.size none)).get? b=none->hh.get? b=none:=λb z=>by
  cases e:hh.get? b with
  |none=>rfl
  |some o=>rw[kp b o e] at z;cases z
 refine pA (x:=hh.objs.size+1) (u:=u) (C:=C) (mg:=mg) (Nat.lt_of_succ_lt dep) I (hK.keeps kp) Xx (lim.keeps kp) (G.keeps kp) g1 oC1 (tl.keeps kp) gx P W λh' t1 D tk c1 c2 c3 c4 c5 c6=>Ah ?_;show Uq _ _ (ret _) _ _ _;refine Ah (h h' (hh.objs.size+1) tk ⟨λb o e=>c1 b o (Au (Li (Aj e))) (kp b o e),gd _ (Fu _),t1,D,c4,back _ c2,Dz (by rw[Ct,Ct];exact Qa (Fu _)) c3,c6,c5⟩)
theorem Zg{Q:Ul->Ad->Prop}(dep:A.depth+2<Ey)(hK:K.In s.heap)(lim:s.heap.NoLimit)(G:s.heap.Ns Up mg)(g1:mg "PackError"=some (.ref Cp))(oC:s.heap.get? C=some (Gr cn q C N bs bm hdct sn sub ab col dd k0 k1 k2 k3 k5 "ValueError.__new__"))(nN:s.heap.Ns N mN)(iN:mN "__init__"=some (.ref fI))(fT:typeIn K (.ref fI)=some (.type "function"))(tl:Of s.heap AN bm)(I:K8 K qual st nm txt fI fd)(P:XG K C Cp nm)(W:XH K Cp)(h:∀h' e tk,DQ s.heap h' e C nm u->Q (.ref e) {s with heap:=h',toks:=tk}):Uq (Ur prog w) A (call (.ref C) [u]) Q E s:=by
 obtain⟨hh,g,d,t,os⟩:=s;have f1:=tc_lookup;have f2:=tc_bind (.ref C);have hT:(⟨hh,g,d,t,os⟩:Ad).TypeIs (.ref C) "type":=⟨_,oC,rfl⟩;refine Hl (codeAny_of_tree (show Uq _ _ (callAny (.ref C) _) _ _ _ from ?_));repeat (any_goals (first|assumption|with_reducible refine Gx oC ?_|wp_step))
 refine⟨rfl,codeAny_call_builtin_at (Ku _ (by decide+kernel)) entry_typeCall (wpAny_check_type_call_sub oC ?_)⟩;exact CB (mg:=mg) (by show A.depth+(Ua "type.__call__" ⟨[Ba C,u],[]⟩).weight+1<Ey;rw[show(Ua "type.__call__" ⟨[Ba C,u],[]⟩).weight=1 by kernel_rfl];exact dep) hK lim G g1 oC nN iN fT tl I P W λh' e tk M=>h h' e tk M
theorem CA{x:Us}{np af pos:Pos}{args:List Ut}{env:Env}{Q:Flow->Ad->Prop}(hb:bm.contains (.type "BaseException")=true)(hh:A.handled=none)(dep:A.depth+2<Ey)(pl:(Dq af (Uo args env)).any (·.1)=false)(h:Uq (Ur prog w) A (eval (.Name x np) env) (λf s₁=>f=.ref C/\Uq (Ur prog w) A (evalArgs (.ref C) true (Dq af (Uo args env)) []) (λa s₂=>∃u,a=⟨[u],[]⟩/\K.In s₂.heap/\s₂.heap.NoLimit/\s₂.heap.Ns Up mg/\mg "PackError"=some (.ref Cp)/\s₂.heap.get? C=some (Gr cn q C N bs bm hdct sn sub ab col dd k0 k1 k2 k3 k5 "ValueError.__new__")/\s₂.heap.Ns N mN/\mN "__init__"=some (.ref fI)/\typeIn K (.ref fI)=some (.type "function")/\Of s₂.heap AN bm∧K8 K qual st nm txt fI fd/\XG K C Cp nm/\XH K Cp/\∀h' e tk,DQ s₂.heap h' e C nm u->E (.ref e) {s₂ with heap:=h',toks:=tk}) E s₁) E s):Uq (Ur prog w) A (exec (.Raise (some (.Call (.Name x np) args [] af)) none pos) env) Q E s:=by
 rw[arm_exec_Raise];simp only[evalOpt,Uk];refine Aa (Fm ?_);unfold raiseStmt;have cB:(Ba C::bm).contains (.type "BaseException")=true:=by rw[List.contains_cons,hb,Bool.or_true]
 refine Aa (Bj (Q:=λv s₁=>∃e t D,v=.ref e/\s₁.heap.get? C=some (Gr cn q C N bs bm hdct sn sub ab col dd k0 k1 k2 k3 k5 "ValueError.__new__")/\s₁.heap.get? e=some (PY C t D)/\E (.ref e) s₁) (Aa (Bj (wpAny_Call_ofName (Bj h (λf s₁ h₁=>?_) λ_ _ x=>x)) (λv s₃ h₃=>Aa (Fm (Ah h₃))) λ_ _ x=>x)) (λv s₁ z=>?_) λ_ _ z=>z)
 ·obtain⟨rfl,h₁⟩:=h₁
  unfold Pb;refine Aa (Bq (Bj h₁ (λa s₂ z=>Aa (Fm ?_)) λ_ _ x=>x));obtain⟨u,rfl,hK,lim,G,g1,oC,nN,iN,fT,tl,I,P,W,z⟩:=z;obtain⟨hp,g,d,tk,os⟩:=s₂;simp only[pl];refine Aa (wpAny_keeperOf_exc oC (Aa (Zg (mg:=mg) dep hK lim G g1 oC nN iN fT tl I P W λh' e tk M=>Aa (Bq (wpAny_point (Ah ?_))))));obtain⟨t,D,y1,_⟩:=M.there;exact⟨e,t,some D,rfl,M.keeps _ _ oC,y1,z h' e tk M⟩
 ·obtain⟨e,t,D,rfl,oC,oe,hE⟩:=z
  obtain⟨hp,g,d,tk,os⟩:=s₁;repeat (first|with_reducible refine Gx oe ?_|with_reducible refine Gx oC ?_|(with_reducible refine Og oC ?_;rw[cB])|wp_step)
  exact wpAny_raiseNew_none hh hE
end
end L2
namespace L2
open PySem PySem.Spec PyProof.Rows
end L2
namespace TS
open PySem PySem.W PyProof.Rows
structure En where
 prog:As
 w:Uu
 A:Bt
 s:Ad
 κ:Ri
 it:Array Keyed
def En.Ok(n:Nat)(ck:Nat->Nat->Bool)(e:En):Prop:=∀i j,i<n->j<n->∀C:Bool->Ad->Prop,C (ck i j) e.s->kas_cmp e.prog e.w e.A e.κ e.it i j C e.s
abbrev En.at(e:En)(i:Nat):Keyed:=Jt e.it i
abbrev En.of(e:En)(p:Array Nat):Array Keyed:=p.map (Jt e.it)
structure Pu where
 p:Array Nat
 pd:Array (Nat×Nat×Nat)
 g:Nat
noncomputable def DA(e:En)(x:Pu):Fv:=Jv e.κ (e.of x.p) x.pd x.g none
section
variable{n:Nat}{ck:Nat->Nat->Bool}
def D(n:Nat)(ck:Nat->Nat->Bool){α:Type}(f:En->StateT Fv Vf α)(x:Pu)(a:En->α)(y:Pu):Prop:=
 ∀e:En,e.Ok n ck->∀(E:Ul->Ad->Prop) (Q:α->Fv->Ad->Prop),Q (a e) (DA e y) e.s->kasC (Ur e.prog e.w) e.A E (f e) Q (DA e x) e.s
def X(n:Nat)(ck:Nat->Nat->Bool){α τ:Type}(f:En->StateT Fv Vf α)(x:Pu)(v:τ->En->α)(R:τ->Pu->Prop):Prop:=∃t y,R t y/\D n ck f x (v t) y
theorem D.pure{α:Type}{a:En->α}{x:Pu}:D n ck (λe=>Gs (a e)) x a x:=λe _ E Q h=>kasC_pure h
theorem D.bind{α β:Type}{f:En->StateT Fv Vf α}{k:En->α->StateT Fv Vf β}{x y z:Pu}{a:En->α}{b:En->β}(h1:D n ck f x a y)(h2:D n ck (λe=>k e (a e)) y b z):D n ck (λe=>f e>>=k e) x b z:=
 λe o E Q h=>Rx (h1 e o E _ (h2 e o E Q h))
theorem D.get{x:Pu}:D n ck (λ_=>MonadState.get) x (λe=>DA e x) x:=λe _ E Q h=>kasC_get h
theorem D.modify{F:En->Fv->Fv}{x y:Pu}(h:∀e,F e (DA e x)=DA e y):D n ck (λe=>modify (F e)) x (λ_=>⟨⟩) y:=λe _ E Q q=>Ry (by rw[h e];exact q)
theorem D.rule{r:String}{x:Pu}:D n ck (λ_=>(liftM (PySem.rule r):StateT Fv Vf Unit)) x (λ_=>()) x:=λe _ E Q q=>kasC_lift (Ir q)
theorem D.elem{q:Array Nat}{i:Nat}{x:Pu}(hi:i<q.size):D n ck (λe=>elem' (e.of q) i) x (λe=>e.at (q.getD i 0)) x:=λe _ E Q h=>by
 have e1:(e.of q)[i]?=some (e.at (q.getD i 0)):=by
  have e2:q.getD i 0=q[i]:=by simp[Lj,hi]
  rw[e2];simp[En.of,En.at,hi]
 show kasC _ _ _ (elem' (e.of q) i) Q _ _;rw[elem'_eq,e1];exact kasC_pure h
theorem D.lt{i j:Nat}{x:Pu}(hi:i<n)(hj:j<n):D n ck (λe=>lt' (e.at i) (e.at j)) x (λ_=>some (ck i j)) x:=λe o E Q h=>by show kasC _ _ _ (lt' (e.at i) (e.at j)) Q _ _;rw[lt'_eq];refine Rx (kasC_get ?_);refine Rx (kasC_lift (Lv (Bj (o i j hi hj (λc s'=>c=ck i j/\s'=e.s) ⟨rfl,rfl⟩) (λc s' hc=>?_) λ_ _ hF=>hF.elim)));obtain⟨rfl,rfl⟩:=hc;exact kasC_pure h
theorem D.ltAt{i j:Nat}{x:Pu}(hi:i<x.p.size)(hj:j<x.p.size)(bi:x.p.getD i 0<n)(bj:x.p.getD j 0<n):D n ck (λ_=>ltAt' i j) x (λ_=>some (ck (x.p.getD i 0) (x.p.getD j 0))) x:=λe o E Q h=>by show kasC _ _ _ (ltAt' i j) Q _ _;rw[ltAt'_eq];refine Rx (kasC_get ?_);exact(D.bind (D.elem hi) (D.bind (D.elem hj) (D.lt bi bj)):D n ck (λe=>elem' (e.of x.p) i>>=λu=>elem' (e.of x.p) j>>=λv=>lt' u v) x _ x) e o E Q h
theorem D.rev{i j:Nat}{x:Pu}:D n ck (λ_=>reverseSlice' i j) x (λ_=>()) {x with p:=kas_rev x.p i j}:=λe o E Q h=>by show kasC _ _ _ (reverseSlice' i j) Q _ _;rw[reverseSlice'_eq];refine Ry ?_;have e1:mirror (e.of x.p) i j ((j - i)/2)=e.of (mirror x.p i j ((j - i)/2)):=kas_swaps_map (Jt e.it) (λk=>i+k) (λk=>j - 1 - k) _ x.p;show Q () (Jv e.κ (mirror (e.of x.p) i j ((j - i)/2)) x.pd x.g none) e.s;rw[e1];exact h
theorem D.move{k l:Nat}{x:Pu}:D n ck (λ_=>moveDown' k l) x (λ_=>()) {x with p:=bubble x.p k (k - l)}:=λe o E Q h=>by show kasC _ _ _ (moveDown' k l) Q _ _;rw[moveDown'_eq];refine Ry ?_;have e1:bubble (e.of x.p) k (k - l)=e.of (bubble x.p k (k - l)):=kas_swaps_map (Jt e.it) (λi=>k - i) (λi=>k - i - 1) _ x.p;show Q () (Jv e.κ (bubble (e.of x.p) k (k - l)) x.pd x.g none) e.s;rw[e1];exact h
theorem X.ret{α τ:Type}{a:En->α}{x:Pu}{v:τ->En->α}{R:τ->Pu->Prop}(t:τ)(h:R t x)(ha:∀e,a e=v t e:=by intro e;rfl):X n ck (λe=>Gs (a e)) x v R:=
 ⟨t,x,h,by rw[show a=v t from funext ha];exact D.pure⟩
theorem X.go{α β τ:Type}{f:En->StateT Fv Vf α}{k:En->α->StateT Fv Vf β}{x y:Pu}{a:En->α}{v:τ->En->β}{R:τ->Pu->Prop}(h1:D n ck f x a y)(h2:X n ck (λe=>k e (a e)) y v R):X n ck (λe=>f e>>=k e) x v R:=by obtain⟨t,z,h,d⟩:=h2;exact⟨t,z,h,D.bind h1 d⟩
theorem X.bind{α β τ υ:Type}{f:En->StateT Fv Vf α}{k:En->α->StateT Fv Vf β}{x:Pu}{u:υ->En->α}{S:υ->Pu->Prop}{v:τ->En->β}{R:τ->Pu->Prop}(h1:X n ck f x u S)(h2:∀t y,S t y->X n ck (λe=>k e (u t e)) y v R):X n ck (λe=>f e>>=k e) x v R:=by obtain⟨t,y,h,d⟩:=h1;exact X.go d (h2 t y h)
noncomputable def sv{β τ:Type}(v:τ->En->β):τ ⊕ τ->En->ForInStep β
 |.inl t,e=>.yield (v t e)
 |.inr t,e=>.done (v t e)
def sR{τ:Type}(I J:τ->Pu->Prop):τ ⊕ τ->Pu->Prop
 |.inl t,x=>I t x
 |.inr t,x=>J t x
theorem X.loop{β τ:Type}{v:τ->En->β}{I:Nat->τ->Pu->Prop}{J:τ->Pu->Prop}{f:En->Nat->β->StateT Fv Vf (ForInStep β)}(he:∀t x,I 0 t x->J t x):∀(l:List Nat) (t:τ) (x:Pu),(∀i∈l,∀(k:Nat) (t:τ) (x:Pu),I (k+1) t x->X n ck (λe=>f e i (v t e)) x (sv v) (sR (I k) J))->I l.length t x->X n ck (λe=>forIn l (v t e) (f e)) x v J
 |[],t,x,_,h=>⟨t,x,he t x h,λe o E Q q=>kasC_nil q⟩
 | i :: l,t,x,hs,h => by
  obtain⟨r,y,hr,d⟩:=hs i Ar l.length t x h;cases r with
  |inr t'=>exact⟨t',y,hr,λe o E Q q=>kasC_cons (d e o E _ q)⟩
  |inl t'=>
   obtain⟨u,z,hu,d2⟩:=X.loop he l t' y (λi hi=>hs i (An _ hi)) hr;exact⟨u,z,hu,λe o E Q q=>kasC_cons (d e o E _ (d2 e o E Q q))⟩
theorem X.range{β τ:Type}{v:τ->En->β}{I:Nat->τ->Pu->Prop}{J:τ->Pu->Prop}{f:En->Nat->β->StateT Fv Vf (ForInStep β)}{a b:Nat}{t:τ}{x:Pu}{c:En->β}(he:∀t x,I 0 t x->J t x)(h0:I (b - a) t x)(hs:∀i,a<=i->i<b->∀(k:Nat) (t:τ) (x:Pu),I (k+1) t x->X n ck (λe=>f e i (v t e)) x (sv v) (sR (I k) J))(hc:∀e,c e=v t e:=by intro e;rfl):X n ck (λe=>forIn [a:b] (c e) (f e)) x v J:=by
 rw[show c=v t from funext hc];obtain⟨u,z,hu,d⟩:=X.loop he (List.range' a (b - a)) t x (λi hi=>by have:=List.mem_range'_1.mp hi;exact hs i this.1 (by omega)) (by rw[List.length_range'];exact h0)
 exact⟨u,z,hu,λe o E Q q=>kasC_range (d e o E Q q)⟩
theorem X.yield{β τ:Type}{v:τ->En->β}{I J:τ->Pu->Prop}{a:En->β}{x:Pu}(t:τ)(h:I t x)(ha:∀e,a e=v t e:=by intro e;rfl):X n ck (λe=>Gs (Ds (a e))) x (sv v) (sR I J):=
 X.ret (.inl t) h λe=>by rw[ha e];rfl
theorem X.done{β τ:Type}{v:τ->En->β}{I J:τ->Pu->Prop}{a:En->β}{x:Pu}(t:τ)(h:J t x)(ha:∀e,a e=v t e:=by intro e;rfl):X n ck (λe=>Gs (ForInStep.done (a e))) x (sv v) (sR I J):=
 X.ret (.inr t) h λe=>by rw[ha e];rfl
end
section
variable{n:Nat}{ck:Nat->Nat->Bool}
theorem X.ite{α τ:Type}{c:Prop}{dc:En->Decidable c}{a b:En->StateT Fv Vf α}{x:Pu}{v:τ->En->α}{R:τ->Pu->Prop}(h1:c->X n ck a x v R)(h2:¬c->X n ck b x v R):X n ck (λe=> @_root_.ite _ c (dc e) (a e) (b e)) x v R:=by
 by_cases h:c
 ·simpa only[if_pos h] using h1 h
 ·simpa only[if_neg h] using h2 h
def Pm(n:Nat)(p:Array Nat):Prop:=p.toList.Perm (Bb n)
theorem Pm.sz{p:Array Nat}(h:Pm n p):p.size=n:=by have:=h.length_eq;simpa using this
theorem Pm.lt{p:Array Nat}(h:Pm n p){i:Nat}(hi:i<n):p.getD i 0<n:=by
 have hs:=h.sz;have hi':i<p.size:=by lia
 have e:p.getD i 0=p[i]:=by simp[Lj,hi']
 rw[e];exact Cn.mp (h.mem_iff.mp (by simp))
theorem Pm.rev{p:Array Nat}(h:Pm n p)(i j:Nat):Pm n (kas_rev p i j):=Kj (Kq.mp (mirror_perm p i j _)) h
theorem Pm.move{p:Array Nat}(h:Pm n p)(i j:Nat):Pm n (bubble p i j):=Kj (Kq.mp (bubble_perm p i j)) h
theorem Pm.cmp{x:Pu}(h:Pm n x.p){i j:Nat}(hi:i<n)(hj:j<n):D n ck (λ_=>ltAt' i j) x (λ_=>some (ck (x.p.getD i 0) (x.p.getD j 0))) x:=
 D.ltAt (by rw[h.sz];exact hi) (by rw[h.sz];exact hj) (h.lt hi) (h.lt hj)
theorem X.st{α τ:Type}{f:En->StateT Fv Vf α}{x z:Pu}{v:τ->En->α}{R:τ->Pu->Prop}{P:Pu->Pu->Prop}(h:∀z,P x z->X n ck f z v R)(hz:P x z):X n ck f z v R:=h z hz
def Kp(n:Nat)(x y:Pu):Prop:=Pm n y.p/\y.pd=x.pd
theorem count{lo m:Nat}{x:Pu}(hp:Pm n x.p)(h1:1<=m)(hm:lo+m<=n):X n ck (λ_=>countRun' lo m) x (λt _=>some t) (λt y=>1<=t/\t<=m/\Kp n x y):=by
 refine X.bind (u:=λ(t:Nat) _=>(none,t)) (S:=λt y=>1<=t/\t<=m/\y=x) ?_ ?_
 ·refine X.range (I := λk t y => 1 <= t /\ t + k = m /\ y = x) (t := 1) (λt y h => ⟨h.1,by lia,h.2.2⟩) ⟨by lia,by lia,rfl⟩ λi _ _ k t y ⟨g1,g2,g3⟩ => ?_
  subst g3;refine X.go (hp.cmp (by lia) (by lia)) ?_;refine X.ite (λ_=>X.done t ⟨g1,by lia,rfl⟩) λ_=>X.yield (t+1) ⟨by lia,by lia,rfl⟩
 ·rintro t y ⟨g1,g2,rfl⟩
  have k0:Kp n y y:=⟨hp,rfl⟩;refine X.ite (λ_=>X.ret t ⟨g1,g2,k0⟩) λq0=>?_;have q1:t+1<=m:=by have:t≠m:=λz=>q0 (by rw[z];exact beq_self_eq_true _);lia
  refine X.ite (λq2=>X.go (hp.cmp (by lia) (by lia)) (X.ite (λ_=>X.ret t ⟨g1,g2,k0⟩) λ_=>X.go D.rev (X.st (P:=Kp n) (x:=y) ?_ ⟨hp.rev _ _,rfl⟩))) λq2=>X.st (P:=Kp n) (x:=y) ?_ k0
  all_goals
   intro z hz;refine X.go D.rule ?_;refine X.bind (u:=λ(t:Nat×Nat) _=>(none,t)) (S:=λt z=>1<=t.1/\t.1<=m/\Kp n y z) ?_ ?_
   ·refine X.range (I := λk t z => 1 <= t.1 /\ t.1 + k = m /\ Kp n y z) (t := (t + 1,0)) (λt y h => ⟨h.1,by lia,h.2.2⟩) ⟨by lia,by dsimp only;lia,hz⟩ λi _ _ k t y ⟨g1,g2,g3⟩ => ?_
    obtain⟨t,q⟩:=t;dsimp only at g1 g2;refine X.go (g3.1.cmp (by dsimp only;lia) (by dsimp only;lia)) ?_;refine X.ite (λ_=>X.ite (λ_=>X.go D.rev (X.yield (t+1,0) ⟨by dsimp only;lia,by dsimp only;lia,g3.1.rev _ _,g3.2⟩)) λ_=>X.yield (t+1,0) ⟨by dsimp only;lia,by dsimp only;lia,g3⟩) λ_=>?_;refine X.go (g3.1.cmp (by dsimp only;lia) (by dsimp only;lia)) ?_;exact X.ite (λ_=>X.done (t,q) ⟨g1,by dsimp only;lia,g3⟩) λ_=>X.yield (t+1,q+1) ⟨by dsimp only;lia,by dsimp only;lia,g3⟩
   ·rintro ⟨t,q⟩ z ⟨g1,g2,g3⟩
    dsimp only at g1 g2;refine X.ite (λ_=>X.go D.rev (X.st (P:=Kp n) (x:=y) ?_ ⟨g3.1.rev _ _,g3.2⟩)) λ_=>X.st (P:=Kp n) (x:=y) ?_ g3
    all_goals
     intro z hz;refine X.go D.rev ?_;refine X.bind (u:=λ(t:Nat) _=>(none,t)) (S:=λt z=>1<=t/\t<=m/\Kp n y z) ?_ λt z h=>X.ret t h;refine X.range (I:=λk t z=>1<=t/\t+k=m/\Kp n y z) (t:=t) (λt y h=>⟨h.1,by lia,h.2.2⟩) ⟨by lia,by dsimp only;lia,hz.1.rev _ _,hz.2⟩ λi _ _ k t y ⟨g1,g2,g3⟩=>?_;refine X.go (g3.1.cmp (by lia) (by lia)) ?_;exact X.ite (λ_=>X.done t ⟨g1,by lia,g3⟩) λ_=>X.yield (t+1) ⟨by lia,by lia,g3⟩
theorem bin{lo m ok:Nat}{x:Pu}(hp:Pm n x.p)(hm:lo+m<=n):X n ck (λ_=>binarySort' lo m ok) x (λ(_:Unit) _=>true) (λ_ y=>Kp n x y):=by
 refine X.bind (u:=λ(_:Unit) _=>(none,())) (S:=λ_ y=>Kp n x y) ?_ λt z h=>X.ret () h;refine X.range (I:=λ_ _ z=>Kp n x z) (t:=()) (λt y h=>h) ⟨hp,rfl⟩ λj j1 j2 k t y g3=>?_;refine X.bind (u:=λ(t:Nat×Nat) _=>(none,t)) (S:=λt z=>t.2<=j/\z=y) ?_ ?_
 ·refine X.range (I := λ_ t z => t.2 <= j /\ z = y) (t := (0,j)) (λt y h => h) ⟨Ap _,rfl⟩ λi _ _ k t z ⟨g1,g2⟩ => ?_
  obtain⟨l,r⟩:=t;dsimp only at g1;subst g2;refine X.ite (λ_=>X.done (l,r) ⟨g1,rfl⟩) λq=>?_;refine X.go (g3.1.cmp (by dsimp only at q⊢;lia) (by dsimp only at q⊢;lia)) ?_;exact X.ite (λ_=>X.yield (l,(l+r)/2) ⟨by dsimp only at q⊢;lia,rfl⟩) λ_=>X.yield ((l+r)/2+1,r) ⟨g1,rfl⟩
 ·rintro ⟨l,r⟩ z ⟨g1,rfl⟩
  exact X.go D.move (X.yield () ⟨g3.1.move _ _,g3.2⟩)
end
def D2:Bool->Keyed->Array Keyed->Nat->Nat->Nat->StateT Fv Vf (Option Nat):=sortPriv% PySem.Builtin.gallop
def HX:Array Keyed->Array Keyed->StateT Fv Vf (Array Keyed):=sortPriv% PySem.Builtin.mergeLo
def HW:Array Keyed->Array Keyed->StateT Fv Vf (Array Keyed):=sortPriv% PySem.Builtin.mergeHi
section
variable{n:Nat}{ck:Nat->Nat->Bool}
noncomputable def bey(left:Bool)(key:Nat)(q:Array Nat)(i:Nat)(e:En):StateT Fv Vf (Option Bool):=
 elem' (e.of q) i>>=λz=>if left=true then lt' z (e.at key) else lt' (e.at key) z>>=λr=>pure (r.map (λb=> !b))
theorem dN{left:Bool}{key:Nat}{q:Array Nat}{x:Pu}(hk:key<n){i:Nat}(hi:i<q.size)(hq:q.getD i 0<n):∃c,D n ck (bey left key q i) x (λ_=>some c) x:=by
 cases left with
 |true=>exact⟨_,D.bind (D.elem hi) (D.lt hq hk)⟩
 |false=>exact⟨_,D.bind (D.elem hi) (D.bind (D.lt hk hq) D.pure)⟩
theorem gal{left:Bool}{key:Nat}{q:Array Nat}{b m h:Nat}{x:Pu}(hk:key<n)(hh:h<m)(hb:b+m<=q.size)(hq:∀i,i<q.size->q.getD i 0<n):X n ck (λe=>D2 left (e.at key) (e.of q) b m h) x (λt _=>some t) (λt y=>t<=m/\y=x):=by
 have ask:∀i,i<m->∃c,D n ck (bey left key q (b+i)) x (λ_=>some c) x:=λi hi=>dN hk (by lia) (hq _ (by lia));obtain⟨c,hc⟩:=ask h hh;refine X.go hc ?_;refine X.ite (λ_=>?_) λ_=>?_
 ·refine X.bind (u := λ(t : Nat × Nat) _ => (none,t)) (S := λt z => z = x) ?_ ?_
  ·refine X.range (I := λ_ t z => z = x) (t := (0,1)) (λt y h => h) rfl λi _ _ k t z g => ?_
   obtain⟨l,o⟩:=t;subst g;refine X.ite (λ_=>X.done (l,o) rfl) λq=>?_;obtain⟨c,hc⟩:=ask (h+o) (by dsimp only at q;lia);exact X.go hc (X.ite (λ_=>X.done (l,o) rfl) λ_=>X.yield (o,2*o+1) rfl)
  ·rintro ⟨l,o⟩ z rfl
   refine X.bind (u:=λ(t:Nat×Nat) _=>(none,t)) (S:=λt y=>t.2<=m/\y=z) ?_ λt y h=>X.ret t.2 h;refine X.range (I:=λ_ t y=>t.2<=m/\y=z) (t:=(h+l+1,h+min o (m - h))) (λt y h=>h) ⟨by dsimp only;lia,rfl⟩ λi _ _ k t y ⟨g1,g2⟩=>?_;obtain⟨lo,hi⟩:=t;subst g2;dsimp only at g1;refine X.ite (λ_=>X.done (lo,hi) ⟨g1,rfl⟩) λq=>?_;obtain⟨c,hc⟩:=ask (lo+(hi - lo)/2) (by dsimp only at q;lia);exact X.go hc (X.ite (λ_=>X.yield (lo+(hi - lo)/2+1,hi) ⟨g1,rfl⟩) λ_=>X.yield (lo,lo+(hi - lo)/2) ⟨by dsimp only at q⊢;lia,rfl⟩)
 ·refine X.bind (u := λ(t : Nat × Nat) _ => (none,t)) (S := λt z => z = x) ?_ ?_
  ·refine X.range (I := λ_ t z => z = x) (t := (0,1)) (λt y h => h) rfl λi _ _ k t z g => ?_
   obtain⟨l,o⟩:=t;subst g;refine X.ite (λ_=>X.done (l,o) rfl) λq=>?_;obtain⟨c,hc⟩:=ask (h - o) (by lia);exact X.go hc (X.ite (λ_=>X.done (l,o) rfl) λ_=>X.yield (o,2*o+1) rfl)
  ·rintro ⟨l,o⟩ z rfl
   refine X.bind (u:=λ(t:Nat×Nat) _=>(none,t)) (S:=λt y=>t.2<=m/\y=z) ?_ λt y h=>X.ret t.2 h;refine X.range (I:=λ_ t y=>t.2<=m/\y=z) (t:=(h+1 - min o (h+1),h - l)) (λt y h=>h) ⟨by dsimp only;lia,rfl⟩ λi _ _ k t y ⟨g1,g2⟩=>?_;obtain⟨lo,hi⟩:=t;subst g2;dsimp only at g1;refine X.ite (λ_=>X.done (lo,hi) ⟨g1,rfl⟩) λq=>?_;obtain⟨c,hc⟩:=ask (lo+(hi - lo)/2) (by dsimp only at q;lia);exact X.go hc (X.ite (λ_=>X.yield (lo+(hi - lo)/2+1,hi) ⟨g1,rfl⟩) λ_=>X.yield (lo,lo+(hi - lo)/2) ⟨by dsimp only at q⊢;lia,rfl⟩)
theorem galE{left:Bool}{key:Nat}{q:Array Nat}{b h:Nat}{m:En->Nat}{x:Pu}(m0:Nat)(hm:∀e,m e=m0)(hk:key<n)(hh:h<m0)(hb:b+m0<=q.size)(hq:∀i,i<q.size->q.getD i 0<n):X n ck (λe=>D2 left (e.at key) (e.of q) b (m e) h) x (λt _=>some t) (λt y=>t<=m0/\y=x):=by rw[show m=λ_=>m0 from funext hm];exact gal hk hh hb hq
theorem X.eqSize{α τ:Type}{m:Nat}{q:Array Nat}{a b:En->StateT Fv Vf α}{x:Pu}{v:τ->En->α}{R:τ->Pu->Prop}(h1:m=q.size->X n ck a x v R)(h2:m≠q.size->X n ck b x v R):X n ck (λe=>if(m==(e.of q).size)=true then a e else b e) x v R:=by simp only[En.of,Array.size_map];exact X.ite (λh=>h1 (by simpa using h)) λh=>h2 (by simpa using h)
theorem X.rangeE{β τ:Type}{v:τ->En->β}{I:Nat->τ->Pu->Prop}{J:τ->Pu->Prop}{f:En->Nat->β->StateT Fv Vf (ForInStep β)}{b:En->Nat}{t:τ}{x:Pu}{c:En->β}(b0:Nat)(hb:∀e,b e=b0)(he:∀t x,I 0 t x->J t x)(h0:I b0 t x)(hs:∀(k:Nat) (t:τ) (x:Pu),k<b0->I (k+1) t x->∀i,X n ck (λe=>f e i (v t e)) x (sv v) (sR (I k) J))(hc:∀e,c e=v t e:=by intro e;rfl):X n ck (λe=>forIn [0:b e] (c e) (f e)) x v J:=by
 rw[show b=λ_=>b0 from funext hb];refine X.range (I:=λk t x=>k<=b0/\I k t x) (λt x h=>he t x h.2) ⟨by lia,h0⟩ (λi _ _ k t x h=>?_) hc;obtain⟨r,y,hr,d⟩:=hs k t x (by lia) h.2 i;refine⟨r,y,?_,d⟩;cases r with
 |inl t=>exact⟨by lia,hr⟩
 |inr t=>exact hr
def mU:Nat->StateT Fv Vf Unit:=sortPriv% PySem.Builtin.setMinGallop
theorem D.setMin{g:Nat}{x:Pu}:D n ck (λ_=>mU g) x (λ_=>()) {x with g:=g}:=D.modify (F:=λ_ s=>_) λe=>rfl
def Iv(a b o:Array Nat)(ia ib:Nat):Prop:=o.toList.Perm (a.toList.take ia++b.toList.take ib)
theorem JC{a:Array Nat}{i:Nat}(h:i<a.size):a.toList.take (i+1)=a.toList.take i++[a.getD i 0]:=by
 have e:a.getD i 0=a[i]:=by simp[Lj,h]
 rw[e,Sj];simp[h]
theorem Iv.pushB{a b o:Array Nat}{ia ib:Nat}(h:Iv a b o ia ib)(hb:ib<b.size):Iv a b (o.push (b.getD ib 0)) ia (ib+1):=by unfold Iv at h⊢;rw[JC hb,Gy,<-Ax];exact h.append_right _
theorem Iv.pushA{a b o:Array Nat}{ia ib:Nat}(h:Iv a b o ia ib)(ha:ia<a.size):Iv a b (o.push (a.getD ia 0)) (ia+1) ib:=by unfold Iv at h⊢;rw[JC ha,Gy,Ax];refine(h.append_right _).trans ?_;rw[Ax];exact Db _ Ci
theorem MT(l:List Nat)(i k:Nat):l.take (i+k)=l.take i++(l.take (i+k)).drop i:=by have e:=Dd i (l.take (i+k));rw[Nu,Ik (by lia)] at e;exact e.symm
theorem XW(a:Array Nat)(i j:Nat):(a.extract i j).toList=(a.toList.take j).drop i:=by simp[Sk]
theorem Iv.extB{a b o:Array Nat}{ia ib:Nat}(h:Iv a b o ia ib)(k:Nat):Iv a b (o++b.extract ib (ib+k)) ia (ib+k):=by unfold Iv at h⊢;rw[MT b.toList ib k,Ca,XW,<-Ax];exact h.append_right _
theorem Iv.extA{a b o:Array Nat}{ia ib:Nat}(h:Iv a b o ia ib)(k:Nat):Iv a b (o++a.extract ia (ia+k)) (ia+k) ib:=by unfold Iv at h⊢;rw[MT a.toList ia k,Ca,XW,Ax];refine(h.append_right _).trans ?_;rw[Ax];exact Db _ Ci
theorem PH(a:Array Nat)(i:Nat):(a.extract i a.size).toList=a.toList.drop i:=by rw[XW,show a.size=a.toList.length from rfl,List.take_length]
theorem Iv.all{a b o:Array Nat}{ia ib:Nat}(h:Iv a b o ia ib):(o.toList++(a.toList.drop ia++b.toList.drop ib)).Perm (a.toList++b.toList):=by refine(h.append_right _).trans ?_;have e1:=Dd ia a.toList;have e2:=Dd ib b.toList;generalize a.toList.take ia=a1 at*;generalize a.toList.drop ia=a2 at*;generalize b.toList.take ib=b1 at*;generalize b.toList.drop ib=b2 at*;rw[<-e1,<-e2,Ax,Ax];refine Db _ ?_;rw[<-Ax,<-Ax];exact Go _ Ci
theorem Iv.done{a b o:Array Nat}{ia ib:Nat}(h:Iv a b o ia ib):(o++a.extract ia a.size++b.extract ib b.size).toList.Perm (a.toList++b.toList):=by rw[Ca,Ca,PH,PH,Ax];exact h.all
theorem Iv.lastA{a b o:Array Nat}{ia ib:Nat}(h:Iv a b o ia ib):(o++b.extract ib b.size++a.extract ia a.size).toList.Perm (a.toList++b.toList):=by rw[Ca,Ca,PH,PH,Ax];exact(Db _ Ci).trans h.all
end
section
variable{n:Nat}{ck:Nat->Nat->Bool}
def Sd(x y:Pu):Prop:=y.p=x.p/\y.pd=x.pd
def Al(n:Nat)(a:Array Nat):Prop:=∀i,i<a.size->a.getD i 0<n
def Lf(a b:Array Nat)(x:Pu)(m:Nat)(r:Option (Array Nat))(o:Array Nat)(ia ib:Nat)(y:Pu):Prop:=r=none/\Iv a b o ia ib/\ia+1<a.size/\ib<b.size/\m<=ia+ib/\Sd x y
def Td(a b:Array Nat)(x:Pu)(r:Option (Array Nat))(y:Pu):Prop:=∃t,r=some t/\t.toList.Perm (a.toList++b.toList)/\Sd x y
noncomputable def vG{β:Type}(t:Option (Array Nat)×Array Nat×β)(e:En):Option (Array Keyed)×Array Keyed×β:=(t.1.map e.of,e.of t.2.1,t.2.2)
theorem aV(e:En)(o:Array Nat)(i:Nat):(e.of o).push (e.at i)=e.of (o.push i):=by simp[En.of,En.at]
theorem ZC(e:En)(o:Array Nat)(q:Array Nat):e.of o++e.of q=e.of (o++q):=by simp[En.of]
theorem ZW(e:En)(o:Array Nat)(i j:Nat):(e.of o).extract i j=e.of (o.extract i j):=by simp[En.of]
theorem U5(e:En)(o:Array Nat):(e.of o).size=o.size:=by simp[En.of]
theorem SR(e:En)(o:Array Nat):(e.of o).reverse=e.of o.reverse:=by simp[En.of]
theorem QX(e:En)(i:Nat): #[e.at i]=e.of #[i]:=by simp[En.of,En.at]
theorem X.yieldG{β:Type}{tail:β}{o:Array Nat}{O:En->Array Keyed}{I J:Option (Array Nat)×Array Nat×β->Pu->Prop}{y:Pu}(h:I (none,o,tail) y)(hO:∀e,O e=e.of o):X n ck (λe=>Gs (Ds (none,O e,tail))) y (sv vG) (sR I J):=
 X.yield (none,o,tail) h λe=>by rw[hO];rfl
theorem X.doneG{β:Type}{tail:β}{o:Array Nat}{O:En->Array Keyed}{I J:Option (Array Nat)×Array Nat×β->Pu->Prop}{y:Pu}(h:J (none,o,tail) y)(hO:∀e,O e=e.of o):X n ck (λe=>Gs (ForInStep.done (none,O e,tail))) y (sv vG) (sR I J):=
 X.done (none,o,tail) h λe=>by rw[hO];rfl
theorem X.tellD{β:Type}{tail:β}{a b o:Array Nat}{ia ib:Nat}{O:En->Array Keyed}{I J:Option (Array Nat)×Array Nat×β->Pu->Prop}{x y:Pu}(q:Iv a b o ia ib)(hs:Sd x y)(hO:∀e,O e=e.of o)(hJ:∀t,Td a b x t.1 y->J t y):X n ck (λe=>Gs (ForInStep.done (some (O e++(e.of a).extract ia (e.of a).size++(e.of b).extract ib (e.of b).size),O e,tail))) y (sv vG) (sR I J):=
 X.done (some (o++a.extract ia a.size++b.extract ib b.size),o,tail) (hJ _ ⟨_,rfl,q.done,hs⟩) λe=>by rw[hO,U5,U5,ZW,ZW,ZC,ZC];rfl
theorem X.tellL{β:Type}{tail:β}{a b o:Array Nat}{ia ib:Nat}{O:En->Array Keyed}{I J:Option (Array Nat)×Array Nat×β->Pu->Prop}{x y:Pu}(q:Iv a b o ia ib)(hs:Sd x y)(hO:∀e,O e=e.of o)(hJ:∀t,Td a b x t.1 y->J t y):X n ck (λe=>Gs (ForInStep.done (some (O e++(e.of b).extract ib (e.of b).size++(e.of a).extract ia (e.of a).size),O e,tail))) y (sv vG) (sR I J):=
 X.done (some (o++b.extract ib b.size++a.extract ia a.size),o,tail) (hJ _ ⟨_,rfl,q.lastA,hs⟩) λe=>by rw[hO,U5,U5,ZW,ZW,ZC,ZC];rfl
theorem iT {a b : Array Nat}{x : Pu}(ha : Al n a)(hb : Al n b)(a1 : 1 <= a.size)(b1 : 1 <= b.size) : X n ck (λe => HX (e.of a) (e.of b)) x (λt e => e.of t) (λt y => t.toList.Perm (a.toList ++ b.toList) /\ Sd x y) := by
 have i1:Iv a b #[b.getD 0 0] 0 1:=by
  have e:Iv a b #[] 0 0:=by unfold Iv;simp
  exact e.pushB (by lia)
 refine X.go D.rule ?_;refine X.go (D.elem (q:=b) (i:=0) (by lia)) ?_;refine X.eqSize (λh=>X.ret (#[b.getD 0 0]++a.extract 0 a.size++b.extract 1 b.size) ⟨i1.done,rfl,rfl⟩ λe=>?_) λh=>?_
 ·simp only[<-ZC,<-ZW,U5,QX]
 refine X.eqSize (λh=>X.ret (#[b.getD 0 0]++b.extract 1 b.size++a.extract 0 a.size) ⟨i1.lastA,rfl,rfl⟩ λe=>?_) λh2=>?_
 ·simp only[<-ZC,<-ZW,U5,QX]
 refine X.go D.get ?_;have tot:∀e:En,(e.of a).size+(e.of b).size=a.size+b.size:=λe=>by simp only[U5]
 refine X.bind (u:=vG) (S:=λt y=>Td a b x t.1 y) ?_ ?_
 ·refine X.rangeE (v := vG) (I := λk t y => Lf a b x (a.size + b.size - k) t.1 t.2.1 t.2.2.1 t.2.2.2.1 y) (t := (none,#[b.getD 0 0],0,1,x.g)) (a.size + b.size) tot ?_ ⟨rfl,i1,by dsimp only;lia,by dsimp only;lia,by dsimp only;lia,rfl,rfl⟩ ?_ λe => ?_
  ·rintro t y ⟨_,_,h3,h4,h5,_⟩
   exact absurd h5 (by lia)
  ·rintro k ⟨r,o,ia,ib,g⟩ y hk ⟨rfl,h2,h3,h4,h5,h6⟩ i
   dsimp only at h2 h3 h4 h5;dsimp only[vG];refine X.bind (u:=vG) (S:=λt z=>Td a b x t.1 z∨Lf a b x (ia+ib+1) t.1 t.2.1 t.2.2.1 t.2.2.2.1 z) ?_ ?_
   ·refine X.rangeE (v := vG) (I := λk t y => Lf a b x (ia + ib + if k < a.size + b.size then 1 else 0) t.1 t.2.1 t.2.2.1 t.2.2.2.1 y) (t := (none,o,ia,ib,0,0)) (a.size + b.size) tot ?_ ⟨rfl,h2,h3,h4,by rw [if_neg (by lia)];exact Ap _,h6⟩ ?_
    ·intro t y h
     rw[if_pos (by lia)] at h;exact .inr h
    ·rintro k ⟨r,o,ja,jb,ac,bc⟩ y hk ⟨rfl,g2,g3,g4,g5,g6⟩ i
     dsimp only at g2 g3 g4 g5;dsimp only[vG];have g5':ia+ib<=ja+jb:=by split at g5<;>lia
     refine X.go (D.elem (q:=b) (i:=jb) g4) (X.go (D.elem (q:=a) (i:=ja) (by lia)) (X.go (D.lt (hb _ g4) (ha _ (by lia))) ?_));refine X.ite (λ_=>?_) λ_=>?_
     ·refine X.go (D.elem (q:=b) (i:=jb) g4) ?_
      have q:=g2.pushB g4;refine X.eqSize (λ_=>X.tellD q g6 (λe=>aV e _ _) λt h=>.inl h) λz=>?_;exact X.ite (λ_=>X.doneG (.inr ⟨rfl,q,g3,by dsimp only;lia,by dsimp only;lia,g6⟩) λe=>aV e _ _) λ_=>X.yieldG ⟨rfl,q,g3,by dsimp only;lia,by dsimp only;rw[if_pos hk];lia,g6⟩ λe=>aV e _ _
     ·refine X.go (D.elem (q := a) (i := ja) (by lia)) ?_
      have q:=g2.pushA (show ja<a.size by lia);refine X.eqSize (λ_=>X.tellL q g6 (λe=>aV e _ _) λt h=>.inl h) λz=>?_;exact X.ite (λ_=>X.doneG (.inr ⟨rfl,q,by dsimp only;lia,g4,by dsimp only;lia,g6⟩) λe=>aV e _ _) λ_=>X.yieldG ⟨rfl,q,by dsimp only;lia,g4,by dsimp only;rw[if_pos hk];lia,g6⟩ λe=>aV e _ _
   ·rintro ⟨r,o,ja,jb,ac,bc⟩ z (⟨t,e1,ht⟩|⟨e1,g2,g3,g4,g5,g6⟩)
    ·dsimp only at e1
     subst e1;exact X.done (some t,o,ja,jb,g) ⟨t,rfl,ht⟩
    ·dsimp only at e1 g2 g3 g4 g5
     subst e1;dsimp only[vG];refine X.go D.rule ?_;refine X.bind (u:=vG) (S:=λt z=>Td a b x t.1 z∨Lf a b x (ia+ib+1) t.1 t.2.1 t.2.2.1 t.2.2.2.1 z) ?_ ?_
     ·refine X.rangeE (v := vG) (I := λ_ t y => Lf a b x (ia + ib + 1) t.1 t.2.1 t.2.2.1 t.2.2.2.1 y) (t := (none,o,ja,jb,g + 1,ac,bc)) (a.size + b.size) tot (λt y h => .inr h) ⟨rfl,g2,g3,g4,g5,g6⟩ ?_
      rintro k ⟨r,o,ja,jb,g,ac,bc⟩ y hk ⟨rfl,g2,g3,g4,g5,g6⟩ i;dsimp only at g2 g3 g4 g5;dsimp only[vG];refine X.ite (λ_=>?_) λ_=>?_
      all_goals
       refine X.go D.setMin (X.go (D.elem (q:=b) (i:=jb) g4) (X.bind (galE (a.size - ja) (λe=>by simp only[U5]) (hb _ g4) (by lia) (by lia) ha) ?_));rintro d z ⟨hd,rfl⟩;refine X.ite (λ_=>?_) λ_=>?_
       ·have q:=g2.extA d
        have qO:∀e:En,e.of o++(e.of a).extract ja (ja+d)=e.of (o++a.extract ja (ja+d)):=λe=>by rw[ZW,ZC]
        refine X.eqSize (λ_=>X.tellL q g6 qO λt h=>.inl h) λz1=>X.eqSize (λ_=>X.tellD q g6 qO λt h=>.inl h) λz2=>?_;refine X.go (D.elem (q:=b) (i:=jb) g4) ?_;have r:=q.pushB g4;have rO:∀e:En,_=e.of _:=λe=>(congrArg (λO=>O.push (e.at (b.getD jb 0))) (qO e)).trans (aV e _ _);refine X.eqSize (λ_=>X.tellD r g6 rO λt h=>.inl h) λz3=>?_;refine X.go (D.elem (q:=a) (i:=(ja+d)) (by lia)) (X.bind (galE (b.size - (jb+1)) (λe=>by simp only[U5]) (ha _ (by lia)) (by lia) (by lia) hb) ?_);rintro d2 z ⟨hd2,rfl⟩;refine X.ite (λ_=>?_) λ_=>?_
        ·have u:=r.extB d2
         have uO:∀e:En,_=e.of _:=λe=>((congrArg (λO=>O++(e.of b).extract (jb+1) (jb+1+d2)) (rO e)).trans (by rw[ZW])).trans (ZC e _ _);refine X.eqSize (λ_=>X.tellD u g6 uO λt h=>.inl h) λz4=>?_;refine X.go (D.elem (q:=a) (i:=(ja+d)) (by lia)) ?_;have w:=u.pushA (show(ja+d)<a.size by lia);have wO:∀e:En,_=e.of _:=λe=>(congrArg (λO=>O.push (e.at (a.getD (ja+d) 0))) (uO e)).trans (aV e _ _);refine X.eqSize (λ_=>X.tellL w g6 wO λt h=>.inl h) λz5=>?_;exact X.ite (λ_=>X.doneG (.inr ⟨rfl,w,by dsimp only;lia,by dsimp only;lia,by dsimp only;lia,g6⟩) wO) λ_=>X.yieldG ⟨rfl,w,by dsimp only;lia,by dsimp only;lia,by dsimp only;lia,g6⟩ wO
        ·skip
         refine X.go (D.elem (q:=a) (i:=(ja+d)) (by lia)) ?_;have w:=r.pushA (show(ja+d)<a.size by lia);have wO:∀e:En,_=e.of _:=λe=>(congrArg (λO=>O.push (e.at (a.getD (ja+d) 0))) (rO e)).trans (aV e _ _);refine X.eqSize (λ_=>X.tellL w g6 wO λt h=>.inl h) λz5=>?_;exact X.ite (λ_=>X.doneG (.inr ⟨rfl,w,by dsimp only;lia,by dsimp only;lia,by dsimp only;lia,g6⟩) wO) λ_=>X.yieldG ⟨rfl,w,by dsimp only;lia,by dsimp only;lia,by dsimp only;lia,g6⟩ wO
       ·have qO : ∀ e : En,e.of o = e.of o := λe => rfl
        refine X.go (D.elem (q:=b) (i:=jb) g4) ?_;have r:=g2.pushB g4;have rO:∀e:En,_=e.of _:=λe=>(congrArg (λO=>O.push (e.at (b.getD jb 0))) (qO e)).trans (aV e _ _);refine X.eqSize (λ_=>X.tellD r g6 rO λt h=>.inl h) λz3=>?_;refine X.go (D.elem (q:=a) (i:=ja) (by lia)) (X.bind (galE (b.size - (jb+1)) (λe=>by simp only[U5]) (ha _ (by lia)) (by lia) (by lia) hb) ?_);rintro d2 z ⟨hd2,rfl⟩;refine X.ite (λ_=>?_) λ_=>?_
        ·have u:=r.extB d2
         have uO:∀e:En,_=e.of _:=λe=>((congrArg (λO=>O++(e.of b).extract (jb+1) (jb+1+d2)) (rO e)).trans (by rw[ZW])).trans (ZC e _ _);refine X.eqSize (λ_=>X.tellD u g6 uO λt h=>.inl h) λz4=>?_;refine X.go (D.elem (q:=a) (i:=ja) (by lia)) ?_;have w:=u.pushA (show ja<a.size by lia);have wO:∀e:En,_=e.of _:=λe=>(congrArg (λO=>O.push (e.at (a.getD ja 0))) (uO e)).trans (aV e _ _);refine X.eqSize (λ_=>X.tellL w g6 wO λt h=>.inl h) λz5=>?_;exact X.ite (λ_=>X.doneG (.inr ⟨rfl,w,by dsimp only;lia,by dsimp only;lia,by dsimp only;lia,g6⟩) wO) λ_=>X.yieldG ⟨rfl,w,by dsimp only;lia,by dsimp only;lia,by dsimp only;lia,g6⟩ wO
        ·skip
         refine X.go (D.elem (q:=a) (i:=ja) (by lia)) ?_;have w:=r.pushA (show ja<a.size by lia);have wO:∀e:En,_=e.of _:=λe=>(congrArg (λO=>O.push (e.at (a.getD ja 0))) (rO e)).trans (aV e _ _);refine X.eqSize (λ_=>X.tellL w g6 wO λt h=>.inl h) λz5=>?_;exact X.ite (λ_=>X.doneG (.inr ⟨rfl,w,by dsimp only;lia,by dsimp only;lia,by dsimp only;lia,g6⟩) wO) λ_=>X.yieldG ⟨rfl,w,by dsimp only;lia,by dsimp only;lia,by dsimp only;lia,g6⟩ wO
     ·rintro ⟨r,o,ja,jb,g,ac,bc⟩ z (⟨t,e1,ht⟩|⟨e1,g2,g3,g4,g5,g6⟩)
      ·dsimp only at e1
       subst e1;exact X.done (some t,o,ja,jb,g) ⟨t,rfl,ht⟩
      ·dsimp only at e1 g2 g3 g4 g5
       subst e1;dsimp only[vG];refine X.go D.setMin ?_;exact X.yieldG ⟨rfl,g2,g3,g4,by dsimp only;lia,g6⟩ λe=>rfl
  ·simp only[QX]
   rfl
 ·rintro ⟨r,o,ia,ib,g⟩ y ⟨t,e1,h⟩
  dsimp only at e1;subst e1;exact X.ret t h
end
section
variable{n:Nat}{ck:Nat->Nat->Bool}
def Iw(a b o:Array Nat)(na nb:Nat):Prop:=o.toList.Perm (a.toList.drop na++b.toList.drop nb)
theorem HD{a:Array Nat}{i:Nat}(h0:0<i)(h:i<=a.size):a.toList.drop (i - 1)=a.getD (i - 1) 0::a.toList.drop i:=by
 have h1:i - 1<a.size:=by lia
 have e:a.getD (i - 1) 0=a[i - 1]:=by simp[Lj,h1]
 rw[e,Ep (by simpa using h1),show i - 1+1=i by lia];simp
theorem Iw.pushA{a b o:Array Nat}{na nb:Nat}(h:Iw a b o na nb)(h0:0<na)(h1:na<=a.size):Iw a b (o.push (a.getD (na - 1) 0)) (na - 1) nb:=by unfold Iw at h⊢;rw[HD h0 h1,Gy,Hi];exact Ci.trans (Sm _ h)
theorem Iw.pushB{a b o:Array Nat}{na nb:Nat}(h:Iw a b o na nb)(h0:0<nb)(h1:nb<=b.size):Iw a b (o.push (b.getD (nb - 1) 0)) na (nb - 1):=by unfold Iw at h⊢;rw[HD h0 h1,Gy];exact(Ci.trans (Sm _ h)).trans List.perm_middle.symm
theorem QI(l:List Nat)(i j:Nat)(h:i<=j):l.drop i=(l.take j).drop i++l.drop j:=by have e:=Dd (j - i) (l.drop i);rw[So,show i+(j - i)=j by lia,<-Sk] at e;exact e.symm
theorem Iw.extA{a b o:Array Nat}{na nb:Nat}(h:Iw a b o na nb){t:Nat}(ht:t<=na):Iw a b (o++(a.extract t na).reverse) t nb:=by unfold Iw at h⊢;rw[QI a.toList t na ht,Ca,Hd,XW,Ax];exact Ci.trans (Qw (Lk _) h)
theorem Iw.extB{a b o:Array Nat}{na nb:Nat}(h:Iw a b o na nb){t:Nat}(ht:t<=nb):Iw a b (o++(b.extract t nb).reverse) na t:=by unfold Iw at h⊢;rw[QI b.toList t nb ht,Ca,Hd,XW];generalize (b.toList.take nb).drop t=u at*;refine(Qw h (Lk u)).trans ?_;rw[Ax];exact Db _ Ci
theorem Iw.all{a b o:Array Nat}{na nb:Nat}(h:Iw a b o na nb):((a.toList.take na++b.toList.take nb)++o.toList.reverse).Perm (a.toList++b.toList):=by refine(Db _ ((Lk _).trans h)).trans ?_;have e1:=Dd na a.toList;have e2:=Dd nb b.toList;generalize a.toList.take na=a1 at*;generalize a.toList.drop na=a2 at*;generalize b.toList.take nb=b1 at*;generalize b.toList.drop nb=b2 at*;rw[<-e1,<-e2,Ax,Ax];refine Db _ ?_;rw[<-Ax,<-Ax];exact Go _ Ci
theorem J0(a:Array Nat)(i:Nat):(a.extract 0 i).toList=a.toList.take i:=by rw[XW];rfl
theorem Iw.done{a b o:Array Nat}{na nb:Nat}(h:Iw a b o na nb):(a.extract 0 na++b.extract 0 nb++o.reverse).toList.Perm (a.toList++b.toList):=by rw[Ca,Ca,J0,J0,Hd];exact h.all
theorem Iw.first{a b o:Array Nat}{na nb:Nat}(h:Iw a b o na nb):(b.extract 0 nb++a.extract 0 na++o.reverse).toList.Perm (a.toList++b.toList):=by rw[Ca,Ca,J0,J0,Hd];exact(Go _ Ci).trans h.all
def Lh(a b:Array Nat)(x:Pu)(m:Nat)(r:Option (Array Nat))(o:Array Nat)(na nb:Nat)(y:Pu):Prop:=r=none/\Iw a b o na nb/\0<na/\na<=a.size/\1<nb/\nb<=b.size/\na+nb<=m/\Sd x y
abbrev HT(β:Type):=Option (Array Nat)×Nat×Nat×Array Nat×β
noncomputable def vH{β:Type}(t:HT β)(e:En):Option (Array Keyed)×Nat×Nat×Array Keyed×β:=(t.1.map e.of,t.2.1,t.2.2.1,e.of t.2.2.2.1,t.2.2.2.2)
theorem X.yieldH{β:Type}{tail:β}{o:Array Nat}{na nb:Nat}{O:En->Array Keyed}{I J:HT β->Pu->Prop}{y:Pu}(h:I (none,na,nb,o,tail) y)(hO:∀e,O e=e.of o):X n ck (λe=>Gs (Ds (none,na,nb,O e,tail))) y (sv vH) (sR I J):=
 X.yield (none,na,nb,o,tail) h λe=>by rw[hO];rfl
theorem X.doneH{β:Type}{tail:β}{o:Array Nat}{na nb:Nat}{O:En->Array Keyed}{I J:HT β->Pu->Prop}{y:Pu}(h:J (none,na,nb,o,tail) y)(hO:∀e,O e=e.of o):X n ck (λe=>Gs (ForInStep.done (none,na,nb,O e,tail))) y (sv vH) (sR I J):=
 X.done (none,na,nb,o,tail) h λe=>by rw[hO];rfl
theorem X.tellE{β:Type}{tail:β}{a b o:Array Nat}{na nb:Nat}{O:En->Array Keyed}{I J:HT β->Pu->Prop}{x y:Pu}(q:Iw a b o na nb)(hs:Sd x y)(hO:∀e,O e=e.of o)(hJ:∀t,Td a b x t.1 y->J t y):X n ck (λe=>Gs (ForInStep.done (some ((e.of a).extract 0 na++(e.of b).extract 0 nb++(O e).reverse),na,nb,O e,tail))) y (sv vH) (sR I J):=
 X.done (some (a.extract 0 na++b.extract 0 nb++o.reverse),na,nb,o,tail) (hJ _ ⟨_,rfl,q.done,hs⟩) λe=>by rw[hO,ZW,ZW,SR,ZC,ZC];rfl
theorem X.tellF{β:Type}{tail:β}{a b o:Array Nat}{na nb:Nat}{O:En->Array Keyed}{I J:HT β->Pu->Prop}{x y:Pu}(q:Iw a b o na nb)(hs:Sd x y)(hO:∀e,O e=e.of o)(hJ:∀t,Td a b x t.1 y->J t y):X n ck (λe=>Gs (ForInStep.done (some ((e.of b).extract 0 nb++(e.of a).extract 0 na++(O e).reverse),na,nb,O e,tail))) y (sv vH) (sR I J):=
 X.done (some (b.extract 0 nb++a.extract 0 na++o.reverse),na,nb,o,tail) (hJ _ ⟨_,rfl,q.first,hs⟩) λe=>by rw[hO,ZW,ZW,SR,ZC,ZC];rfl
theorem X.is{α τ:Type}{m k:Nat}{dc:En->Decidable ((m==k)=true)}{a b:En->StateT Fv Vf α}{x:Pu}{v:τ->En->α}{R:τ->Pu->Prop}(h1:m=k->X n ck a x v R)(h2:m≠k->X n ck b x v R):X n ck (λe=> @_root_.ite _ ((m==k)=true) (dc e) (a e) (b e)) x v R:=
 X.ite (λh=>h1 (by simpa using h)) λh=>h2 (by simpa using h)
theorem X.iteE{α τ:Type}{c:En->Prop}{dc:(e:En)->Decidable (c e)}{a b:En->StateT Fv Vf α}{x:Pu}{v:τ->En->α}{R:τ->Pu->Prop}{c0:Prop}(hc:∀e,c e=c0)(h1:c0->X n ck a x v R)(h2:¬c0->X n ck b x v R):X n ck (λe=> @_root_.ite _ (c e) (dc e) (a e) (b e)) x v R:=by obtain rfl:c=λ_=>c0:=funext hc;exact X.ite h1 h2
theorem oK{a b:Array Nat}{x:Pu}(ha:Al n a)(hb:Al n b)(a1:1<=a.size)(b1:1<=b.size):X n ck (λe=>HW (e.of a) (e.of b)) x (λt e=>e.of t) (λt y=>t.toList.Perm (a.toList++b.toList)/\Sd x y):=by
 have i1:Iw a b #[a.getD (a.size - 1) 0] (a.size - 1) b.size:=by
  have e:Iw a b #[] a.size b.size:=by unfold Iw;rw[show a.size=a.toList.length from rfl,show b.size=b.toList.length from rfl,Gi,Gi];exact .refl _
  exact e.pushA (by lia) (Ap _)
 refine X.go D.rule ?_;simp only[U5];refine X.go (D.elem (q:=a) (i:=a.size - 1) (by lia)) ?_;refine X.is (λh=>X.ret (a.extract 0 (a.size - 1)++b.extract 0 b.size++ #[a.getD (a.size - 1) 0].reverse) ⟨i1.done,rfl,rfl⟩ λe=>?_) λh=>?_
 ·simp only[<-ZC,<-ZW,<-SR,QX]
 refine X.is (λh=>X.ret (b.extract 0 b.size++a.extract 0 (a.size - 1)++ #[a.getD (a.size - 1) 0].reverse) ⟨i1.first,rfl,rfl⟩ λe=>?_) λh2=>?_
 ·simp only[<-ZC,<-ZW,<-SR,QX]
 refine X.go D.get ?_;refine X.bind (u:=vH) (S:=λt y=>Td a b x t.1 y) ?_ ?_
 ·refine X.rangeE (v := vH) (I := λk t y => Lh a b x k t.1 t.2.2.2.1 t.2.1 t.2.2.1 y) (t := (none,a.size - 1,b.size,#[a.getD (a.size - 1) 0],x.g)) (a.size + b.size) (λe => rfl) ?_ ⟨rfl,i1,by dsimp only;lia,by dsimp only;lia,by dsimp only;lia,by dsimp only;lia,by dsimp only;lia,rfl,rfl⟩ ?_ λe => ?_
  ·rintro t y ⟨_,_,h3,h4,h5,h6,h7,_⟩
   exact absurd h7 (by lia)
  ·rintro k ⟨r,na,nb,o,g⟩ y hk ⟨rfl,h2,h3,h3',h4,h4',h5,h6⟩ i
   dsimp only at h2 h3 h3' h4 h4' h5;dsimp only[vH];refine X.bind (u:=vH) (S:=λt z=>Td a b x t.1 z∨Lh a b x k t.1 t.2.2.2.1 t.2.1 t.2.2.1 z) ?_ ?_
   ·refine X.rangeE (v := vH) (I := λj t y => Lh a b x (if j < a.size + b.size then k else k + 1) t.1 t.2.2.2.1 t.2.1 t.2.2.1 y) (t := (none,na,nb,o,0,0)) (a.size + b.size) (λe => rfl) ?_ ⟨rfl,h2,h3,h3',h4,h4',by rw [if_neg (by lia)];exact h5,h6⟩ ?_
    ·intro t y h
     rw[if_pos (by lia)] at h;exact .inr h
    ·rintro j ⟨r,ka,kb,o,ac,bc⟩ y hk ⟨rfl,g2,g3,g3',g4,g4',g5,g6⟩ i
     dsimp only at g2 g3 g3' g4 g4' g5;dsimp only[vH];have g5':ka+kb<=k+1:=by split at g5<;>lia
     refine X.go (D.elem (q:=b) (i:=kb - 1) (by lia)) (X.go (D.elem (q:=a) (i:=ka - 1) (by lia)) (X.go (D.lt (hb _ (by lia)) (ha _ (by lia))) ?_));refine X.ite (λ_=>?_) λ_=>?_
     ·refine X.go (D.elem (q := a) (i := ka - 1) (by lia)) ?_
      have q:=g2.pushA g3 g3';refine X.is (λ_=>X.tellE q g6 (λe=>aV e _ _) λt h=>.inl h) λz=>?_;exact X.ite (λ_=>X.doneH (.inr ⟨rfl,q,by dsimp only;lia,by dsimp only;lia,g4,g4',by dsimp only;lia,g6⟩) λe=>aV e _ _) λ_=>X.yieldH ⟨rfl,q,by dsimp only;lia,by dsimp only;lia,g4,g4',by dsimp only;rw[if_pos hk];lia,g6⟩ λe=>aV e _ _
     ·refine X.go (D.elem (q := b) (i := kb - 1) (by lia)) ?_
      have q:=g2.pushB (by lia) g4';refine X.is (λ_=>X.tellF q g6 (λe=>aV e _ _) λt h=>.inl h) λz=>?_;exact X.ite (λ_=>X.doneH (.inr ⟨rfl,q,g3,g3',by dsimp only;lia,by dsimp only;lia,by dsimp only;lia,g6⟩) λe=>aV e _ _) λ_=>X.yieldH ⟨rfl,q,g3,g3',by dsimp only;lia,by dsimp only;lia,by dsimp only;rw[if_pos hk];lia,g6⟩ λe=>aV e _ _
   ·rintro ⟨r,ka,kb,o,ac,bc⟩ z (⟨t,e1,ht⟩|⟨e1,g2,g3,g3',g4,g4',g5,g6⟩)
    ·dsimp only at e1
     subst e1;exact X.done (some t,ka,kb,o,g) ⟨t,rfl,ht⟩
    ·dsimp only at e1 g2 g3 g3' g4 g4' g5
     subst e1;dsimp only[vH];refine X.go D.rule ?_;refine X.bind (u:=vH) (S:=λt z=>Td a b x t.1 z∨Lh a b x k t.1 t.2.2.2.1 t.2.1 t.2.2.1 z) ?_ ?_
     ·refine X.rangeE (v := vH) (I := λ_ t y => Lh a b x k t.1 t.2.2.2.1 t.2.1 t.2.2.1 y) (t := (none,ka,kb,o,g + 1,ac,bc)) (a.size + b.size) (λe => rfl) (λt y h => .inr h) ⟨rfl,g2,g3,g3',g4,g4',g5,g6⟩ ?_
      rintro j ⟨r,ka,kb,o,g,ac,bc⟩ y hk ⟨rfl,g2,g3,g3',g4,g4',g5,g6⟩ i;dsimp only at g2 g3 g3' g4 g4' g5;dsimp only[vH];refine X.ite (λ_=>?_) λ_=>?_
      all_goals
       refine X.go D.setMin (X.go (D.elem (q:=b) (i:=kb - 1) (by lia)) (X.bind (gal (hb _ (by lia)) (by lia) (by lia) ha) ?_));rintro d z ⟨hd,rfl⟩;refine X.ite (λ_=>?_) λ_=>?_
       ·have q:=g2.extA hd
        have qO:∀e:En,e.of o++((e.of a).extract d ka).reverse=e.of (o++(a.extract d ka).reverse):=λe=>by rw[ZW,SR,ZC]
        refine X.is (λ_=>X.tellE q g6 qO λt h=>.inl h) λz1=>?_;refine X.go (D.elem (q:=b) (i:=kb - 1) (by lia)) ?_;have r:=q.pushB (show 0<kb by lia) g4';have rO:∀e:En,_=e.of _:=λe=>(congrArg (λO=>O.push (e.at (b.getD (kb - 1) 0))) (qO e)).trans (aV e _ _);refine X.is (λ_=>X.tellF r g6 rO λt h=>.inl h) λz3=>?_;refine X.go (D.elem (q:=a) (i:=d - 1) (by lia)) (X.bind (gal (ha _ (by lia)) (by lia) (by lia) hb) ?_);rintro d2 z ⟨hd2,rfl⟩;refine X.ite (λ_=>?_) λ_=>?_
        ·have u:=r.extB hd2
         have uO:∀e:En,_=e.of _:=λe=>((congrArg (λO=>O++((e.of b).extract d2 (kb - 1)).reverse) (rO e)).trans (by rw[ZW,SR])).trans (ZC e _ _);refine X.is (λ_=>X.tellF u g6 uO λt h=>.inl h) λz4=>X.is (λ_=>X.tellE u g6 uO λt h=>.inl h) λz4'=>?_;refine X.go (D.elem (q:=a) (i:=d - 1) (by lia)) ?_;have w:=u.pushA (show 0<d by lia) (by lia);have wO:∀e:En,_=e.of _:=λe=>(congrArg (λO=>O.push (e.at (a.getD (d - 1) 0))) (uO e)).trans (aV e _ _);refine X.is (λ_=>X.tellE w g6 wO λt h=>.inl h) λz5=>?_;exact X.iteE (c0:=(decide (ka - d<7)&&decide (kb - 1 - d2<7))=true) (λe=>rfl) (λ_=>X.doneH (.inr ⟨rfl,w,by dsimp only;lia,by dsimp only;lia,by dsimp only;lia,by dsimp only;lia,by dsimp only;lia,g6⟩) wO) λ_=>X.yieldH ⟨rfl,w,by dsimp only;lia,by dsimp only;lia,by dsimp only;lia,by dsimp only;lia,by dsimp only;lia,g6⟩ wO
        ·skip
         refine X.go (D.elem (q:=a) (i:=d - 1) (by lia)) ?_;have w:=r.pushA (show 0<d by lia) (by lia);have wO:∀e:En,_=e.of _:=λe=>(congrArg (λO=>O.push (e.at (a.getD (d - 1) 0))) (rO e)).trans (aV e _ _);refine X.is (λ_=>X.tellE w g6 wO λt h=>.inl h) λz5=>?_;exact X.iteE (c0:=(decide (ka - d<7)&&decide (kb - 1 - d2<7))=true) (λe=>rfl) (λ_=>X.doneH (.inr ⟨rfl,w,by dsimp only;lia,by dsimp only;lia,by dsimp only;lia,by dsimp only;lia,by dsimp only;lia,g6⟩) wO) λ_=>X.yieldH ⟨rfl,w,by dsimp only;lia,by dsimp only;lia,by dsimp only;lia,by dsimp only;lia,by dsimp only;lia,g6⟩ wO
       ·have qO : ∀ e : En,e.of o = e.of o := λe => rfl
        refine X.go (D.elem (q:=b) (i:=kb - 1) (by lia)) ?_;have r:=g2.pushB (show 0<kb by lia) g4';have rO:∀e:En,_=e.of _:=λe=>(congrArg (λO=>O.push (e.at (b.getD (kb - 1) 0))) (qO e)).trans (aV e _ _);refine X.is (λ_=>X.tellF r g6 rO λt h=>.inl h) λz3=>?_;refine X.go (D.elem (q:=a) (i:=ka - 1) (by lia)) (X.bind (gal (ha _ (by lia)) (by lia) (by lia) hb) ?_);rintro d2 z ⟨hd2,rfl⟩;refine X.ite (λ_=>?_) λ_=>?_
        ·have u:=r.extB hd2
         have uO:∀e:En,_=e.of _:=λe=>((congrArg (λO=>O++((e.of b).extract d2 (kb - 1)).reverse) (rO e)).trans (by rw[ZW,SR])).trans (ZC e _ _);refine X.is (λ_=>X.tellF u g6 uO λt h=>.inl h) λz4=>X.is (λ_=>X.tellE u g6 uO λt h=>.inl h) λz4'=>?_;refine X.go (D.elem (q:=a) (i:=ka - 1) (by lia)) ?_;have w:=u.pushA (show 0<ka by lia) (by lia);have wO:∀e:En,_=e.of _:=λe=>(congrArg (λO=>O.push (e.at (a.getD (ka - 1) 0))) (uO e)).trans (aV e _ _);refine X.is (λ_=>X.tellE w g6 wO λt h=>.inl h) λz5=>?_;exact X.iteE (c0:=(decide (ka - d<7)&&decide (kb - 1 - d2<7))=true) (λe=>rfl) (λ_=>X.doneH (.inr ⟨rfl,w,by dsimp only;lia,by dsimp only;lia,by dsimp only;lia,by dsimp only;lia,by dsimp only;lia,g6⟩) wO) λ_=>X.yieldH ⟨rfl,w,by dsimp only;lia,by dsimp only;lia,by dsimp only;lia,by dsimp only;lia,by dsimp only;lia,g6⟩ wO
        ·skip
         refine X.go (D.elem (q:=a) (i:=ka - 1) (by lia)) ?_;have w:=r.pushA (show 0<ka by lia) (by lia);have wO:∀e:En,_=e.of _:=λe=>(congrArg (λO=>O.push (e.at (a.getD (ka - 1) 0))) (rO e)).trans (aV e _ _);refine X.is (λ_=>X.tellE w g6 wO λt h=>.inl h) λz5=>?_;exact X.iteE (c0:=(decide (ka - d<7)&&decide (kb - 1 - d2<7))=true) (λe=>rfl) (λ_=>X.doneH (.inr ⟨rfl,w,by dsimp only;lia,by dsimp only;lia,by dsimp only;lia,by dsimp only;lia,by dsimp only;lia,g6⟩) wO) λ_=>X.yieldH ⟨rfl,w,by dsimp only;lia,by dsimp only;lia,by dsimp only;lia,by dsimp only;lia,by dsimp only;lia,g6⟩ wO
     ·rintro ⟨r,ka,kb,o,g,ac,bc⟩ z (⟨t,e1,ht⟩|⟨e1,g2,g3,g3',g4,g4',g5,g6⟩)
      ·dsimp only at e1
       subst e1;exact X.done (some t,ka,kb,o,g) ⟨t,rfl,ht⟩
      ·dsimp only at e1 g2 g3 g3' g4 g4' g5
       subst e1;dsimp only[vH];refine X.go D.setMin ?_;exact X.yieldH ⟨rfl,g2,g3,g3',g4,g4',g5,g6⟩ λe=>rfl
  ·simp only[QX]
   rfl
 ·rintro ⟨r,na,nb,o,g⟩ y ⟨t,e1,h⟩
  dsimp only at e1;subst e1;exact X.ret t h
end
section
variable{n:Nat}{ck:Nat->Nat->Bool}
def Ch:List (Nat×Nat×Nat)->Nat->Nat->Prop
 |[],s,e=>s=e
 |u::l,s,e=>u.1=s/\1<=u.2.1/\Ch l (s+u.2.1) e
theorem Ch.le:∀{l:List (Nat×Nat×Nat)} {s e:Nat},Ch l s e->s<=e
 |[],s,e,h=>Nat.le_of_eq h
 |u::l,s,e,h=>by have:=Ch.le h.2.2;lia
theorem Ch.two:∀{l:List (Nat×Nat×Nat)} {s e i:Nat} {u v:Nat×Nat×Nat},Ch l s e->l[i]?=some u->l[i+1]?=some v->v.1=u.1+u.2.1/\1<=u.2.1/\1<=v.2.1/\v.1+v.2.1<=e
 |[],s,e,i,u,v,h,h1,h2=>by simp at h1
 |[w],s,e,i,u,v,h,h1,h2=>by simp at h2
 |w::w'::l,s,e,0,u,v,h,h1,h2=>by simp at h1 h2;subst h1 h2;obtain⟨a1,a2,a3,a4,a5⟩:=h;have:=a5.le;exact⟨by lia,a2,a4,by lia⟩
 |w::w'::l,s,e,i+1,u,v,h,h1,h2=>by exact Ch.two (l:=w'::l) h.2.2 (by simpa using h1) (by simpa using h2)
theorem Ch.join:∀{l:List (Nat×Nat×Nat)} {s e i:Nat} {u v:Nat×Nat×Nat},Ch l s e->l[i]?=some u->l[i+1]?=some v->Ch ((l.set i (u.1,u.2.1+v.2.1,u.2.2)).eraseIdx (i+1)) s e
 |[],s,e,i,u,v,h,h1,h2=>by simp at h1
 |[w],s,e,i,u,v,h,h1,h2=>by simp at h2
 |w::w'::l,s,e,0,u,v,h,h1,h2=>by simp at h1 h2;subst h1 h2;obtain⟨a1,a2,a3,a4,a5⟩:=h;exact⟨a1,by dsimp only;lia,by rw[Tn] at a5;exact a5⟩
 |w::w'::l,s,e,i+1,u,v,h,h1,h2=>by have ih:=Ch.join (l:=w'::l) h.2.2 (by simpa using h1) (by simpa using h2);exact⟨h.1,h.2.1,ih⟩
theorem Ch.more:∀{l:List (Nat×Nat×Nat)} {s e m:Nat},Ch l s e->1<=m->Ch (l++[(e,m,0)]) s (e+m)
 |[],s,e,m,h,h1=>⟨h.symm,h1,by rw[h];rfl⟩
 |u::l,s,e,m,h,h1=>⟨h.1,h.2.1,Ch.more h.2.2 h1⟩
theorem Ch.mod{f:Nat×Nat×Nat->Nat×Nat×Nat}(hf:∀u,(f u).1=u.1/\(f u).2.1=u.2.1):∀{l:List (Nat×Nat×Nat)} {s e:Nat} (i:Nat),Ch l s e->Ch (l.modify i f) s e
 |[],s,e,i,h=>by simpa using h
 |u::l,s,e,0,h=>by rw[List.modify_zero_cons];exact⟨(hf u).1.trans h.1,by rw[(hf u).2];exact h.2.1,by rw[(hf u).2];exact h.2.2⟩
 |u::l,s,e,i+1,h=>by rw[List.modify_succ_cons];exact⟨h.1,h.2.1,Ch.mod hf i h.2.2⟩
noncomputable def put{α:Type}(p:Array α)(s:Nat)(l:List α)(k:Nat):Array α:=(l.zipIdx k).foldl (λa x=>a.setIfInBounds (s+x.2) x.1) p
theorem EQ{α β:Type}(f:α->β)(s:Nat):∀(l:List α) (k:Nat) (p:Array α),put (p.map f) s (l.map f) k=(put p s l k).map f
 |[],k,p=>rfl
 |q::l,k,p=>by
  have e:(p.map f).setIfInBounds (s+k) (f q)=(p.setIfInBounds (s+k) q).map f:=by simp
  show put ((p.map f).setIfInBounds (s+k) (f q)) s (l.map f) (k+1)=_;rw[e];exact EQ f s l (k+1) _
theorem II{α:Type}(s:Nat):∀(l:List α) (k:Nat) (p:Array α),s+k+l.length<=p.size->(put p s l k).toList=p.toList.take (s+k)++l++p.toList.drop (s+k+l.length)
 |[],k,p,h=>by simp[put]
 | q :: l,k,p,h => by
  simp only[Bm] at h;have ih:=II s l (k+1) (p.setIfInBounds (s+k) q) (by simp;lia);show(put (p.setIfInBounds (s+k) q) s l (k+1)).toList=_;have hk:s+k<p.toList.length:=by simp;lia
  rw[ih,Array.toList_setIfInBounds,show s+(k+1)=s+k+1 by lia,List.drop_set_of_lt (by lia),List.take_set,Sj,Cd hk];simp only[Bm,Option.toList_some];rw[show s+k+(l.length+1)=s+k+1+l.length by lia];have e2:(p.toList.take (s+k)++[p.toList[s+k]]).set (s+k) q=p.toList.take (s+k)++[q]:=by
   have ag:(p.toList.take (s+k)).length=s+k:=by rw[By];lia
   rw[Fq _ _ (by lia),ag,Nat.sub_self];rfl
  rw[e2];simp
def Wf(n:Nat)(lo:Nat)(x:Pu):Prop:=Pm n x.p/\Ch x.pd.toList 0 lo/\lo<=n
theorem Pm.put{p:Array Nat}(hp:Pm n p){s m e:Nat}{t:Array Nat}(h1:s<=m)(h2:m<=e)(h3:e<=n)(ht:t.toList.Perm ((p.extract s m).toList++(p.extract m e).toList)):Pm n (TS.put p s t.toList 0):=by
 have hs:=hp.sz;have hl:t.toList.length=e - s:=by rw[ht.length_eq];simp;lia
 unfold Pm;rw[II s t.toList 0 p (by lia)];refine Kj ?_ hp;rw[hl,show s+0+(e - s)=e by lia,Nat.add_zero];have e0:=Dd e p.toList;have e1:=Dd s (p.toList.take e);have e2:=QI (p.toList.take e) s m h1;rw[Nu,Ik h2] at e2;rw[Nu,Ik (by lia)] at e1;rw[XW,XW,<-e2] at ht;have e3:p.toList=p.toList.take s++(p.toList.take e).drop s++p.toList.drop e:=by rw[e1,e0]
 refine Kj (Go _ (Db _ ht)) ?_;rw[<-e3]
theorem D.set{F:En->Fv}{x y:Pu}(h:∀e,F e=DA e y):D n ck (λe=>(MonadStateOf.set (F e):StateT Fv Vf PUnit)) x (λ_=>⟨⟩) y:=λe _ E Q q=>by show kasC _ _ _ (MonadStateOf.set (F e):StateT Fv Vf PUnit) Q _ _;rw[h e];unfold kasC;exact Ah q
theorem jS{a b:Array Nat}{x:Pu}{A B:En->Array Keyed}(hA:∀e,A e=e.of a)(hB:∀e,B e=e.of b)(ha:Al n a)(hb:Al n b)(a1:1<=a.size)(b1:1<=b.size):X n ck (λe=>HX (A e) (B e)) x (λt e=>e.of t) (λt y=>t.toList.Perm (a.toList++b.toList)/\Sd x y):=by rw[show A=λe=>e.of a from funext hA,show B=λe=>e.of b from funext hB];exact iT ha hb a1 b1
theorem oW{a b:Array Nat}{x:Pu}{A B:En->Array Keyed}(hA:∀e,A e=e.of a)(hB:∀e,B e=e.of b)(ha:Al n a)(hb:Al n b)(a1:1<=a.size)(b1:1<=b.size):X n ck (λe=>HW (A e) (B e)) x (λt e=>e.of t) (λt y=>t.toList.Perm (a.toList++b.toList)/\Sd x y):=by rw[show A=λe=>e.of a from funext hA,show B=λe=>e.of b from funext hB];exact oK ha hb a1 b1
theorem Pm.al{p:Array Nat}(h:Pm n p):Al n p:=λi hi=>h.lt (by rw[<-h.sz];exact hi)
theorem Al.ext{p:Array Nat}(h:Al n p)(i j:Nat):Al n (p.extract i j):=λk hk=>by
 have hk':k<min j p.size - i:=by simpa using hk
 have e:(p.extract i j).getD k 0=p.getD (i+k) 0:=by
  have h1:i+k<p.size:=by lia
  have e1:p.getD (i+k) 0=p[i+k]:=by simp[Lj,h1]
  have e2:(p.extract i j).getD k 0=(p.extract i j)[k]:=by simp[Lj,hk']
  rw[e1,e2,Array.getElem_extract]
 rw[e];exact h _ (by lia)
theorem Vy{i lo:Nat}{x:Pu}(h:Wf n lo x)(hi:i+1<x.pd.size):X n ck (λ_=>mergeAt' i) x (λ(_:Unit) _=>true) (λ_ y=>Wf n lo y):=by
 obtain⟨hp,hc,hl⟩:=h;have hsz:=hp.sz;obtain⟨sa,na,pw,hu⟩:∃sa na pw,x.pd[i]'(by lia)=(sa,na,pw):=⟨_,_,_,rfl⟩;obtain⟨sb,nb,qw,hv⟩:∃sb nb qw,x.pd[i+1]'hi=(sb,nb,qw):=⟨_,_,_,rfl⟩;have eu:x.pd[i]?=some (sa,na,pw):=by rw[<-hu];simp
 have ev:x.pd[i+1]?=some (sb,nb,qw):=by rw[<-hv];simp
 have eu':x.pd.toList[i]?=some (sa,na,pw):=by rw[<-eu];simp
 have ev':x.pd.toList[i+1]?=some (sb,nb,qw):=by rw[<-ev];simp
 obtain⟨c1,c2,c3,c4⟩:=hc.two eu' ev';dsimp only at c1 c2 c3 c4;have hj:=hc.join eu' ev';dsimp only at hj;have hW:Wf n lo {x with pd:=(x.pd.setIfInBounds i (sa,na+nb,pw)).eraseIdxIfInBounds (i+1)}:=⟨hp,by show Ch ((x.pd.setIfInBounds i (sa,na+nb,pw)).eraseIdxIfInBounds (i+1)).toList 0 lo;rw[show((x.pd.setIfInBounds i (sa,na+nb,pw)).eraseIdxIfInBounds (i+1)).toList=(x.pd.toList.set i (sa,na+nb,pw)).eraseIdx (i+1) by simp[Ld,hi]];exact hj,hl⟩
 generalize hy:({x with pd:=(x.pd.setIfInBounds i (sa,na+nb,pw)).eraseIdxIfInBounds (i+1)}:Pu)=y at hW;refine X.go D.get ?_;have epd:∀e:En,pendingOf (DA e x)=x.pd:=λe=>rfl;simp only[epd,eu,ev];refine X.go (D.set (y:=y) λe=>by rw[<-hy];rfl) ?_;have hyp:y.p=x.p:=by rw[<-hy]
 refine X.go (D.elem (q:=x.p) (i:=sb) (by lia)) (X.bind (gal (hp.lt (by lia)) (by lia) (by lia) hp.al) ?_);rintro k z ⟨hk,rfl⟩;refine X.is (λ_=>X.ret () hW) λhk2=>?_;refine X.go (D.elem (q:=x.p) (i:=sa+k+(na - k) - 1) (by lia)) (X.bind (gal (hp.lt (by lia)) (by lia) (by lia) hp.al) ?_);rintro m z ⟨hm,rfl⟩;refine X.is (λ_=>X.ret () hW) λhm2=>?_;have fin:∀(t:Array Nat) (z':Pu),t.toList.Perm ((x.p.extract (sa+k) sb).toList++(x.p.extract sb (sb+m)).toList)->Sd z z'->Wf n lo {z' with p:=TS.put z'.p (sa+k) t.toList 0}:=λt z' ht hs=>by refine⟨?_,by rw[hs.2];exact hW.2.1,hl⟩;rw[hs.1,hyp];exact hp.put (by lia) (by lia) (by lia) ht
 have WP:∀(e:En) (t:Array Nat) (z':Pu),((e.of t).toList.zipIdx.foldl (λa x=>a.setIfInBounds (sa+k+x.2) x.1) (e.of z'.p))=e.of (TS.put z'.p (sa+k) t.toList 0):=λe t z'=>by have h:=EQ (Jt e.it) (sa+k) t.toList 0 z'.p;rw[show t.toList.map (Jt e.it)=(e.of t).toList by simp[En.of]] at h;exact h
 refine X.ite (λ_=>X.bind (jS (a:=x.p.extract (sa+k) sb) (b:=x.p.extract sb (sb+m)) (λe=>ZW e _ _ _) (λe=>ZW e _ _ _) (hp.al.ext _ _) (hp.al.ext _ _) (by simp;lia) (by simp;lia)) ?_) λ_=>X.bind (oW (a:=x.p.extract (sa+k) sb) (b:=x.p.extract sb (sb+m)) (λe=>ZW e _ _ _) (λe=>ZW e _ _ _) (hp.al.ext _ _) (hp.al.ext _ _) (by simp;lia) (by simp;lia)) ?_
 all_goals
  rintro t z' ⟨ht,hs⟩;refine X.go (D.modify (y:={z' with p:=TS.put z'.p (sa+k) t.toList 0}) λe=>?_) (X.go D.get (X.ret () (fin t z' ht hs)));show Jv e.κ ((e.of t).toList.zipIdx.foldl (λa x=>a.setIfInBounds (sa+k+x.2) x.1) (e.of z'.p)) z'.pd z'.g none=_;rw[WP];rfl
end
section
variable{n:Nat}{ck:Nat->Nat->Bool}
theorem Wf.pw{x:Pu}{lo:Nat}(h:Wf n lo x)(i pw:Nat):Wf n lo {x with pd:=x.pd.modify i λu=>(u.1,u.2.1,pw)}:=by refine⟨h.1,?_,h.2.2⟩;show Ch (x.pd.modify i λu=>(u.1,u.2.1,pw)).toList 0 lo;rw[Array.toList_modify];exact Ch.mod (f:=λu=>(u.1,u.2.1,pw)) (λu=>⟨rfl,rfl⟩) i h.2.1
theorem Wf.more{x:Pu}{lo m:Nat}(h:Wf n lo x)(h1:1<=m)(h2:lo+m<=n):Wf n (lo+m) {x with pd:=x.pd.push (lo,m,0)}:=by refine⟨h.1,?_,h2⟩;show Ch (x.pd.push (lo,m,0)).toList 0 (lo+m);rw[Gy];exact h.2.1.more h1
theorem runs{x:Pu}(h:Wf n 0 x):X n ck (λ_=>sortRuns') x (λ(_:Unit) _=>()) (λ_ y=>Pm n y.p):=by
 refine X.go D.get ?_;have esz:∀e:En,(arrOf (DA e x)).size=n:=λe=>by show(e.of x.p).size=n;rw[U5,h.1.sz]
 have epd:∀(e:En) (y:Pu),pendingOf (DA e y)=y.pd:=λe y=>rfl;simp only[esz];generalize (sortPriv% PySem.Builtin.minRun) n n 0=mr;refine X.bind (u:=λ(t:Nat) _=>(none,t)) (S:=λt y=>Wf n t y) ?_ ?_
 ·refine X.range (I := λ_ t y => Wf n t y) (t := 0) (λt y h => h) h λi _ _ k lo y hw => ?_
  refine X.ite (λ_=>X.done lo hw) λq=>?_;dsimp only at q;refine X.bind (count hw.1 (by dsimp only;omega) (by dsimp only;omega)) ?_;rintro m z ⟨m1,m2,hz⟩;have hz':Wf n lo z:=⟨hz.1,by rw[hz.2];exact hw.2.1,hw.2.2⟩;dsimp only at m2;have last:∀(m:Nat) (z:Pu),1<=m->lo+m<=n->Wf n lo z->1<=m/\lo+m<=n/\Wf n lo z:=λm z a b c=>⟨a,b,c⟩;refine X.ite (λ_=>X.go D.rule (X.bind (bin hz'.1 (by dsimp only;omega)) λ_ z2 hz2=>X.ite (λhf=>absurd hf (by simp)) λ_=>?_)) λ_=>?_
  ·have w := last (min (n - lo) mr) z2 (by omega) (by omega) ⟨hz2.1,by rw [hz2.2];exact hz'.2.1,hz'.2.2⟩
   obtain⟨w1,w2,w3⟩:=w;refine X.go D.get ?_;simp only[epd];cases hb:z2.pd.back? with
   |none=>exact X.go (D.modify (y:={z2 with pd:=z2.pd.push (lo,(min (n - lo) mr),0)}) λe=>rfl) (X.yield (lo+(min (n - lo) mr)) (w3.more w1 w2))
   |some u=>
    obtain⟨s1,n1,q1⟩:=u;dsimp only;generalize hpw:(sortPriv% PySem.Builtin.power) n (2*s1+n1) (2*s1+n1+n1+min (n - lo) mr) n=pw;refine X.bind (u:=λ(_:Unit) _=>(none,())) (S:=λ_ y=>Wf n lo y) ?_ λ_ y hy=>?_
    ·refine X.range (I := λ_ _ y => Wf n lo y) (t := ()) (λt y h => h) w3 λi _ _ k _ y hy => ?_
     refine X.go D.get ?_;simp only[epd];by_cases hs:y.pd.size>1
     ·rw[if_pos hs]
      cases ho:y.pd[y.pd.size - 2]? with
      |none=>exact X.done () hy
      |some u=>
       obtain⟨o1,o2,o3⟩:=u;dsimp only;exact X.ite (λ_=>X.done () hy) λ_=>X.bind (Vy hy (by omega)) λ_ y h=>X.ite (λhf=>absurd hf (by simp)) λ_=>X.yield () h
     ·rw[if_neg hs]
      exact X.done () hy
    ·refine X.go (D.modify (y := { y with pd := y.pd.modify (y.pd.size - 1) λu => (u.1,u.2.1,pw) }) λe => rfl) ?_
     exact X.go (D.modify (y:={y with pd:=(y.pd.modify (y.pd.size - 1) λu=>(u.1,u.2.1,pw)).push (lo,(min (n - lo) mr),0)}) λe=>rfl) (X.yield (lo+min (n - lo) mr) ((hy.pw _ pw).more w1 w2))
  ·have w := last m z m1 (by omega) hz'
   obtain⟨w1,w2,w3⟩:=w;refine X.go D.get ?_;simp only[epd];cases hb:z.pd.back? with
   |none=>exact X.go (D.modify (y:={z with pd:=z.pd.push (lo,m,0)}) λe=>rfl) (X.yield (lo+m) (w3.more w1 w2))
   |some u=>
    obtain⟨s1,n1,q1⟩:=u;dsimp only;generalize hpw:(sortPriv% PySem.Builtin.power) n (2*s1+n1) (2*s1+n1+n1+m) n=pw;refine X.bind (u:=λ(_:Unit) _=>(none,())) (S:=λ_ y=>Wf n lo y) ?_ λ_ y hy=>?_
    ·refine X.range (I := λ_ _ y => Wf n lo y) (t := ()) (λt y h => h) w3 λi _ _ k _ y hy => ?_
     refine X.go D.get ?_;simp only[epd];by_cases hs:y.pd.size>1
     ·rw[if_pos hs]
      cases ho:y.pd[y.pd.size - 2]? with
      |none=>exact X.done () hy
      |some u=>
       obtain⟨o1,o2,o3⟩:=u;dsimp only;exact X.ite (λ_=>X.done () hy) λ_=>X.bind (Vy hy (by omega)) λ_ y h=>X.ite (λhf=>absurd hf (by simp)) λ_=>X.yield () h
     ·rw[if_neg hs]
      exact X.done () hy
    ·refine X.go (D.modify (y := { y with pd := y.pd.modify (y.pd.size - 1) λu => (u.1,u.2.1,pw) }) λe => rfl) ?_
     exact X.go (D.modify (y:={y with pd:=(y.pd.modify (y.pd.size - 1) λu=>(u.1,u.2.1,pw)).push (lo,m,0)}) λe=>rfl) (X.yield (lo+m) ((hy.pw _ pw).more w1 w2))
 ·intro lo y hw
  refine X.bind (u:=λ(_:Unit) _=>(none,())) (S:=λ_ y=>Wf n lo y) ?_ λ_ y h=>X.ret () h.1;refine X.range (I:=λ_ _ y=>Wf n lo y) (t:=()) (λt y h=>h) hw λi _ _ k _ y hw=>?_;refine X.go D.get ?_;simp only[epd];refine X.ite (λ_=>X.done () hw) λq=>?_;have hle:∀(c:Prop) [Decidable c],(if c then y.pd.size - 2 - 1 else y.pd.size - 2)+1<y.pd.size:=by intro c _;split<;>omega
  exact X.bind (Vy hw (hle _)) λ_ y h=>X.ite (λhf=>absurd hf (by simp)) λ_=>X.yield () h
end
theorem Pm.id(n:Nat):Pm n (Bb n).toArray:=by unfold Pm;simp
def xS(n:Nat):Pu:=⟨(Bb n).toArray,#[],7⟩
theorem IN(n:Nat)(ck:Nat->Nat->Bool):∃y:Pu,Pm n y.p/\D n ck (λ_=>sortRuns') (xS n) (λ_=>()) y:=by obtain⟨t,y,h,d⟩:=runs (n:=n) (ck:=ck) (x:=xS n) ⟨Pm.id n,rfl,Dv _⟩;exact⟨y,h,d⟩
noncomputable def srt(n:Nat)(ck:Nat->Nat->Bool):List Nat:=if 2<=n then(IN n ck).choose.p.toList else Bb n
theorem JA(n:Nat)(ck:Nat->Nat->Bool):(srt n ck).Perm (Bb n):=by
 unfold srt;split
 ·exact(IN n ck).choose_spec.1
 ·exact .refl _
section
variable{prog:As}{w:Uu}{A:Bt}{E:Ul->Ad->Prop}{s:Ad}
theorem C4(vs:List Ul):(Bb vs.length).map (λi=>vs.getD i Value.none)=vs:=by
 refine Lc λi=>?_;by_cases h:i<vs.length
 ·simp[h]
 ·simp[h]
theorem C8{a:Um}{vs:List Ul}{nn:Nat}{κ:Ri}{ck:Nat->Nat->Bool}{P:PySem.Fin->Ad->Prop}(ho:s.heap.get? a=some (Ho "list" vs.toArray nn))(hz:vs.length<=sizeLine)(hk:2<=vs.length->∀h':Uw,(∀b o,b≠a->s.heap.get? b=some o->h'.get? b=some o)->∀Q':Ri->Ad->Prop,Q' κ {s with heap:=h'}->Uq (Ur prog w) A (keyKind' vs.toArray) Q' E {s with heap:=h'})(hc:∀h':Uw,(∀b o,b≠a->s.heap.get? b=some o->h'.get? b=some o)->∀i j,i<vs.length->j<vs.length->∀C:Bool->Ad->Prop,C (ck i j) {s with heap:=h'}->Uq (Ur prog w) A (keyLt' κ (vs.getD i Value.none) (vs.getD j Value.none)) C (λ_ _=>False) {s with heap:=h'})(h:P (.done (.ret .none)) {s with heap:=sortedHeap s.heap a vs ((srt vs.length ck).map λi=>vs.getD i Value.none).toArray}):Uq (Ur prog w) A (Du.«list.sort» ⟨[.ref a],[]⟩) P E s:=by
 have lt:=Aj ho;have hsz:vs.toArray.size=vs.length:=by simp
 obtain⟨e1,ho1⟩:∃k,(s.heap.update a (Fj λ_=> #[])).get? a=some (Ho "list" #[] k):=⟨_,get?_update_seq ho (λ_=> #[])⟩;have keep:∀b o,b≠a->s.heap.get? b=some o->(((s.heap.update a (Fj λ_=> #[])).push (Ho "tuple" vs.toArray 0)).push (Ho "list" #[] 0)).get? b=some o:=λb o hb hbo=>
  Ac _ (Ac _ (by rw[Oh _ _ _ _ hb];exact hbo))
 have ho6:(((s.heap.update a (Fj λ_=> #[])).push (Ho "tuple" vs.toArray 0)).push (Ho "list" #[] 0)).get? a=some (Ho "list" #[] e1):=Ac _ (Ac _ ho1);have pq:∀l:List Ul,l.length=vs.length->l.toArray.size<=sizeLine+1:=λl hl=>by rw[Am];lia
 rw[list_sort_plain];refine(Aa (listItems_at ho rfl ?_));refine(Aa (Pe ho rfl ?_ (by rw[Am];lia) (Dv _)));refine(Aa (Rz ho1 rfl ?_));refine(Aa (wpAny_newTuple ?_ (by show vs.length<=_;exact hz)));refine(Aa (wpAny_newList (Bq ?_) (Dv _)))
 ·show (Uq (Ur prog w) A _ P E { s with heap := (((s.heap.update a (Fj λ_ => #[])).push (Ho "tuple" vs.toArray 0)).push (Ho "list" #[] 0)) })
  dsimp only;have ag:((srt vs.length ck).map λi=>vs.getD i Value.none).length=vs.length:=by rw[Bx,(JA _ _).length_eq,Iz]
  by_cases h2:vs.toArray.size<2
  ·have he : ((srt vs.length ck).map λi => vs.getD i Value.none) = vs := by unfold srt;rw[if_neg (by lia)];exact C4 vs
   rw[he] at h;rw[if_pos h2,if_pos h2];refine(Aa (Ah ?_));rw[StateT.run_pure];refine(Aa (Ah ?_));dsimp only;have hm:(vs.toArray.zip vs.toArray).map (·.2)=vs.toArray:=by apply Qx.mp;simp;exact List.map_snd_zip (Ap _)
   rw[hm];refine(Aa (Rz ho6 rfl (Aa (Pe ho6 rfl ?_ (hsz2:=by rw[Am];lia)))));simp only[bne_self_eq_false,Eu,if_false];exact Ah h
  ·rw[if_neg h2,if_neg h2]
   refine(Aa (hk (by lia) _ keep _ ?_));have n2:2<=vs.length:=by lia
   have spec:=(IN vs.length ck).choose_spec;have lu:srt vs.length ck=(IN vs.length ck).choose.p.toList:=by unfold srt;rw[if_pos n2]
   generalize (IN vs.length ck).choose=y at spec lu;let e:En:=⟨prog,w,A,{s with heap:=(((s.heap.update a (Fj λ_=> #[])).push (Ho "tuple" vs.toArray 0)).push (Ho "list" #[] 0))},κ,Qb vs⟩
   have eok:e.Ok vs.length ck:=λi j hi hj C q=>by show Uq (Ur prog w) A (keyLt' κ (Jt (Qb vs) i).1 (Jt (Qb vs) j).1) C _ _;rw[Sa,Sa];exact hc _ keep i j hi hj C q
   have est:Jv κ (vs.toArray.zip vs.toArray) #[] 7 none=DA e (xS vs.length):=by have q:=kas_range (Qb vs);rw[pairsOf_size] at q;show Jv κ (Qb vs) #[] 7 none=Jv κ ((List.toArray (Bb vs.length)).map (Jt (Qb vs))) #[] 7 none;rw[q]
   rw[est];have ny:(e.of y.p).map (·.2)=((srt vs.length ck).map λi=>vs.getD i Value.none).toArray:=by apply Qx.mp;rw[lu,Array.map_map,Array.toList_map];exact Kf λi _=>by show(Jt (Qb vs) i).2=_;rw[Sa]
   have run:=spec.2 e eok E (λ_ st' s'=>st'=DA e y/\s'=e.s) ⟨rfl,rfl⟩;refine(Aa (Bj run ?_ λ_ _ x=>x));rintro ⟨⟨⟩,st'⟩ s' ⟨rfl,rfl⟩;show(Uq (Ur prog w) A _ P E {s with heap:=(((s.heap.update a (Fj λ_=> #[])).push (Ho "tuple" vs.toArray 0)).push (Ho "list" #[] 0))});dsimp only;rw[show(arrOf (DA e y))=e.of y.p from rfl,ny];refine(Aa (Rz ho6 rfl (Aa (Pe ho6 rfl ?_ (hsz2:=by rw[Am];lia)))));rw[show failedOf (DA e y)=none from rfl];simp only[bne_self_eq_false,Eu,if_false];exact Ah h
end
section
variable{prog:As}{w:Uu}{A:Bt}{E:Ul->Ad->Prop}{s:Ad}
theorem IW{l:Um}{vs:List Ul}{κ:Ri}{ck:Nat->Nat->Bool}{Q:Ul->Ad->Prop}(hl:s.heap.IsList l vs.toArray)(hz:vs.length<=sizeLine)(hk:2<=vs.length->∀(A:Bt) (E:Ul->Ad->Prop) (h':Uw),(∀b o,s.heap.get? b=some o->h'.get? b=some o)->∀Q':Ri->Ad->Prop,Q' κ {s with heap:=h'}->Uq (Ur prog w) A (keyKind' vs.toArray) Q' E {s with heap:=h'})(hc:∀(A:Bt) (h':Uw),(∀b o,s.heap.get? b=some o->h'.get? b=some o)->∀i j,i<vs.length->j<vs.length->∀C:Bool->Ad->Prop,C (ck i j) {s with heap:=h'}->Uq (Ur prog w) A (keyLt' κ (vs.getD i Value.none) (vs.getD j Value.none)) C (λ_ _=>False) {s with heap:=h'})(h:Q (.ref (s.heap.objs.size+1)) {s with heap:=sortedAll s.heap vs ((srt vs.length ck).map λi=>vs.getD i Value.none).toArray}):Uq (Ur prog w) A (call (.builtin "sorted") [.ref l]) Q E s:=by
 refine(Calls.call_function_entry kind_sorted plain_sorted entry_sorted (args_sorted1 _) ?_);unfold Du.«sorted»;refine(Aa (m:=checkCount "sorted" 1 1 _) (Ah (Aa (collect_list hl (Aa (wpAny_newList ?_ (by exact hz))) hz))));have hs1:((s.heap.push (Ho "list" #[] 0)).update s.heap.objs.size (Fj (· ++vs.toArray))).objs.size=s.heap.objs.size+1:=by rw[Qv,size_push']
 have hoL:(((s.heap.push (Ho "list" #[] 0)).update s.heap.objs.size (Fj (· ++vs.toArray))).push (Ho "list" vs.toArray 0)).get? (s.heap.objs.size+1)=some (Ho "list" vs.toArray 0):=by rw[<-hs1];exact Aq _ rfl
 have keep:∀b o,s.heap.get? b=some o->(((s.heap.push (Ho "list" #[] 0)).update s.heap.objs.size (Fj (· ++vs.toArray))).push (Ho "list" vs.toArray 0)).get? b=some o/\b≠s.heap.objs.size+1:=λb o q=>by have hlt:b<s.heap.objs.size:=Aj q;refine⟨?_,Au (Li hlt)⟩;rw[Ja _ _ _ (by rw[hs1];exact(Au (Li hlt))),Oh _ _ _ _ (Au hlt),Ja _ _ _ (Au hlt)];exact q
 show(Uq _ _ _ _ _ {s with heap:=((s.heap.push (Ho "list" #[] 0)).update s.heap.objs.size (Fj (· ++vs.toArray))).push (Ho "list" vs.toArray 0)});rw[hs1];refine(Aa (Bq (El slot_list_sort ⟨_,hoL,rfl⟩ entry_list_sort (C8 (κ:=κ) (ck:=ck) hoL hz (λn2 h' k'=>hk n2 _ _ h' λb o q=>k' b o (keep b o q).2 (keep b o q).1) (λh' k'=>hc _ h' λb o q=>k' b o (keep b o q).2 (keep b o q).1) ⟨_,rfl,?_⟩) (args_list_sort _))));exact(Ah ⟨_,rfl,h⟩)
noncomputable def HQ(p q:Int×Int):Bool:=if p.1=q.1 then decide (p.2<q.2) else decide (p.1<q.1)
theorem fU{x y:Um}{a b c d:Int}{t u t' u':Vh}{C:Bool->Ad->Prop}(hx:IsTup s.heap x #[.int a t,.int b u])(hy:IsTup s.heap y #[.int c t',.int d u'])(h:C (HQ (a,b) (c,d)) s):Uq (Ur prog w) A (keyLt' (tuples' true) (.ref x) (.ref y)) C E s:=by
 obtain⟨ox,hx,_,n,dx⟩:=hx;obtain⟨oy,hy,_,m,dy⟩:=hy;refine kat_lt hx dx hy dy ?_;refine kat_cons (Lz (kat_go (λe=>kat_yes ?_) λe=>kat_no ?_))
 ·have e : a = c := by simpa using e
  refine kat_cons (Lz (kat_go (λe2=>kat_yes (kat_nil ?_)) λe2=>kat_no ?_))
  ·have e2 : b = d := by simpa using e2
   have:HQ (a,b) (c,d)=false:=by simp[HQ,e,e2]
   rw[this] at h;exact h
  ·refine kat_one _ _ (lt_int ?_)
   have:HQ (a,b) (c,d)=decide (b<d):=by simp[HQ,e]
   rw[this] at h;exact h
 ·have e : ¬ a = c := by simpa using e
  have:HQ (a,b) (c,d)=decide (a<c):=by simp[HQ,e]
  rw[this] at h;exact oneLt_int h
def PrI(h:Uw):List Ul->List (Int×Int)->Prop
 |[],[]=>True
 |v::vs,p::ps=>(∃a t u,v=.ref a/\IsTup h a #[.int p.1 t,.int p.2 u])/\PrI h vs ps
 |_,_=>False
theorem PrI.keep{h h':Uw}(k:∀b o,h.get? b=some o->h'.get? b=some o):∀{vs:List Ul} {ps:List (Int×Int)},PrI h vs ps->PrI h' vs ps
 |[],[],_=>trivial
 |_::_,_::_,⟨⟨a,t,u,e,q⟩,r⟩=>⟨⟨a,t,u,e,q.keeps k⟩,PrI.keep k r⟩
 |[],_::_,r=>r.elim
 |_::_,[],r=>r.elim
theorem PrI.at{h:Uw}:∀{vs:List Ul} {ps:List (Int×Int)} {i:Nat},PrI h vs ps->i<vs.length->∃a t u,vs.getD i Value.none=.ref a/\IsTup h a #[.int (ps.getD i (0,0)).1 t,.int (ps.getD i (0,0)).2 u]
 |[],[],i,_,hi=>by simp at hi
 |_::_,_::_,0,r,_=>r.1
 |v::vs,p::ps,i+1,r,hi=>by have:=PrI.at (i:=i) r.2 (by simpa using hi);simpa using this
 |[],_::_,i,r,_=>r.elim
 |_::_,[],i,r,_=>r.elim
theorem PrI.tups{h:Uw}:∀{vs:List Ul} {ps:List (Int×Int)},PrI h vs ps->∃fs,KatTups h vs fs/\fs.length=vs.length/\∀v∈fs,∃i t,v=.int i t
 |[],[],_=>⟨[],trivial,rfl,λ_ h=>by cases h⟩
 |_::_,_::_,⟨⟨a,t,u,e,o,ho,hcl,n,hd⟩,r⟩=>by
  obtain⟨fs,h1,h2,h3⟩:=PrI.tups r;subst e;refine⟨.int _ t::fs,KatTups.cons ho hcl hd rfl h1,by simp[h2],λv hv=>?_⟩;rcases Ak.mp hv with rfl|hv
  ·exact⟨_,_,rfl⟩
  ·exact h3 v hv
 |[],_::_,r=>r.elim
 |_::_,[],r=>r.elim
noncomputable def ckP(ps:List (Int×Int))(i j:Nat):Bool:=HQ (ps.getD i (0,0)) (ps.getD j (0,0))
theorem KY{l:Um}{vs:List Ul}{ps:List (Int×Int)}{Q:Ul->Ad->Prop}(hl:s.heap.IsList l vs.toArray)(hz:vs.length<=sizeLine)(hp:PrI s.heap vs ps)(h:Q (.ref (s.heap.objs.size+1)) {s with heap:=sortedAll s.heap vs ((srt vs.length (ckP ps)).map λi=>vs.getD i Value.none).toArray}):Uq (Ur prog w) A (call (.builtin "sorted") [.ref l]) Q E s:=by
 refine IW (κ:=tuples' true) hl hz (λn2 A E h' k' Q' q=>?_) (λA h' k' i j hi hj C q=>?_) h
 ·obtain⟨fs,h1,h2,h3⟩:=(hp.keep k').tups
  refine kat_kind (s:={s with heap:=h'}) (T:=.type "int") h1 (by lia) (λv hv=>?_) (by decide) q;obtain⟨i,t,rfl⟩:=h3 v hv;exact Looks.now
 ·obtain⟨a,t,u,e1,t1⟩:=(hp.keep k').at hi
  obtain⟨b,t',u',e2,t2⟩:=(hp.keep k').at hj;rw[e1,e2];exact fU (s:={s with heap:=h'}) t1 t2 q
end
end TS
namespace L2
open PySem PySem.Spec PyProof.Rows
variable{X:Cx}{K:Ai}
noncomputable def prD:cO->Option (Int×Int)
 |.tup [.int a,.int b]=>some (a,b)
 |_=>none
noncomputable def OH:List cO->Option (List (Int×Int))
 |[]=>some []
 |d::ds=>(prD d).bind λp=>(OH ds).map λps=>p::ps
def PrV(K:Ai)(H:Hp):List V->List (Int×Int)->Prop
 |[],[]=>True
 |v::vs,p::ps=>(∃a,v=.ref a/\WF K H a [.int p.1,.int p.2])/\PrV K H vs ps
 |_,_=>False
theorem nB{d:cO}{p:Int×Int}(h:prD d=some p):d=.tup [.int p.1,.int p.2]:=by
 unfold prD at h;split at h
 ·cases h;rfl
 ·cases h
theorem EN{H:Hp}{N:Um->Prop}:∀{xs:List V} {ds:List cO} {ps:List (Int×Int)},bY K N H xs ds->OH ds=some ps->PrV K H xs ps
 |_,_,_,.nil,h=>by cases h;trivial
 | _,_,ps,@bY.cons _ _ _ v vs d ds h t,e => by
  have e:(prD d).bind (λp=>(OH ds).map λps=>p::ps)=some ps:=e;cases h1:prD d with
  |none=>rw[h1] at e;cases e
  |some p=>
   rw[h1] at e;have e:(OH ds).map (λps=>p::ps)=some ps:=e;cases h2:OH ds with
   |none=>rw[h2] at e;cases e
   |some qs=>
    rw[h2] at e;cases e;have:=nB h1;subst this;refine⟨?_,EN t h2⟩;cases h with
    |tup sq r=>
     cases r with
     |cons r1 r=>
      cases r1;cases r with
      |cons r2 r=>
       cases r2;cases r;exact⟨_,rfl,sq⟩
theorem PrV.prI{H:Hp}{aa:List (Um×Uy)}{σ:St}{s:Ad}(I:b9 X aa σ H s):∀{xs:List V} {us:List Ul} {ps:List (Int×Int)},PrV X.K H xs ps->bE xs us->TS.PrI s.heap us ps
 |[],_,[],_,.nil=>trivial
 | _ :: _,_,_ :: _,⟨⟨a,e,q⟩,r⟩,.cons h t => by
  subst e;cases h;obtain⟨its,rv,ht,_⟩:=I.tuple q;cases rv with
  |cons r1 rv=>
   obtain⟨t1,rfl⟩:=r1;cases rv with
   |cons r2 rv=>
    obtain⟨t2,rfl⟩:=r2;cases rv;exact⟨⟨a,t1,t2,rfl,ht⟩,PrV.prI I r t⟩
 |[],_,_::_,h,_=>h.elim
 |_::_,_,[],h,_=>h.elim
theorem PrV.len{H:Hp}:∀{xs:List V} {ps:List (Int×Int)},PrV K H xs ps->xs.length=ps.length
 |[],[],_=>rfl
 |_::_,_::_,r=>by simp[PrV.len r.2]
 |[],_::_,r=>r.elim
 |_::_,[],r=>r.elim
theorem MW{xs:List V}{us:List Ul}(r:bE xs us):∀l:List Nat,(∀i∈l,i<xs.length)->bE (l.map λi=>xs.getD i .non) (l.map λi=>us.getD i Value.none)
 |[],_=>.nil
 |i::l,h=>by
  have hi:=h i Ar;obtain⟨u,h1,h2⟩:=bE.get (i:=i) (x:=xs[i]) r (by simp[hi]);refine .cons ?_ (MW r l λj hj=>h j (An _ hj));have e1:xs.getD i .non=xs[i]:=by simp[hi]
  have e2:us.getD i Value.none=u:=by simp[h1]
  show bS (xs.getD i .non) (us.getD i Value.none);rw[e1,e2];exact h2
noncomputable def IZ(ps:List (Int×Int)):List Nat:=TS.srt ps.length (TS.ckP ps)
theorem UA(ps:List (Int×Int)):(IZ ps).Perm (Bb ps.length):=TS.JA _ _
def Xr(K:Ai):RC:=λxs H Q=>∃(p:Um) (ys:List V) (ps:List (Int×Int)),xs=[.ref p]/\X6 K H p ys/\PrV K H ys ps/\∀l:Um,H l=none->Q (.ref l) (upd H l (.lst ((IZ ps).map λi=>ys.getD i .non)))
theorem gX(h:X.K=K):Z1 X (.builtin "sorted") (Xr K):=by
 subst h;intro aa s σ H xs us Q I r h;obtain⟨p,ys,ps,rfl,hq,hp,q⟩:=h;obtain⟨u,rfl,rx⟩:=TC r;cases rx;obtain⟨its,rv,pl,hz⟩:=I.list hq;have ag:=rv.length;have hpl:=hp.len;have hn:H (s.heap.objs.size+1)=none:=I.hok.fresh (Fu _);refine TS.KY pl.isList (by lia) (hp.prI I rv) ?_;rw[show its.length=ps.length by lia];obtain⟨e,he⟩:=sortedAll_at s.heap its ((TS.srt ps.length (TS.ckP ps)).map λi=>its.getD i Value.none).toArray;refine⟨.ref (s.heap.objs.size+1),_,I.laid (a:=s.heap.objs.size+1) (o:=.lst ((IZ ps).map λi=>ys.getD i .non)) (t':=s.toks) (λb o=>sortedAll_old) (Fu _) ?_,rfl,q _ hn⟩;refine⟨by rw[Bx,(UA ps).length_eq,Iz];lia,(IZ ps).map λi=>its.getD i Value.none,e,MW rv _ λi hi=>?_,?_⟩
 ·have:=Cn.mp ((UA ps).mem_iff.mp hi)
  lia
 ·rw[he]
  rfl
noncomputable def F6:cO->Option cO
 |.lst ds=>(OH ds).bind λps=>some (.lst ((IZ ps).map λi=>ds.getD i .non))
 |_=>none
theorem MJ{H:Hp}{N:Um->Prop}{xs:List V}{ds:List cO}(r:bY K N H xs ds):∀l:List Nat,bY K N H (l.map λi=>xs.getD i .non) (l.map λi=>ds.getD i .non)
 |[]=>.nil
 | i :: l => by
  have one:∀{xs:List V} {ds:List cO} (i:Nat),bY K N H xs ds->bB K N H N (xs.getD i .non) (ds.getD i .non):=by
   intro xs ds i r;induction r using bY.rec (motive_1:=λ_ _ _ _=>True) generalizing i with
   |nil=>simpa using bB.non
   |cons h t _ ih=>cases i with
    |zero=>simpa using h
    |succ i=>simpa using ih i
   |_=>trivial
  exact .cons (one i r) (MJ r l)
theorem nF:CalN K (Xr K) F6:=by
 intro H N M x d c Q hx h k;cases d with
 |lst ds=>
  have h:((OH ds).bind λps=>some (cO.lst ((IZ ps).map λi=>ds.getD i .non)))=some c:=h;cases h1:OH ds with
  |none=>rw[h1] at h;cases h
  |some ps=>
   rw[h1] at h;cases h;obtain⟨a,xs,rfl,sq,r⟩:=hx.lstE;exact⟨a,xs,ps,rfl,sq,EN r h1,λl hl'=>k l _ _ hl' (MJ r _) rfl⟩
 |_=>cases h
theorem CO:typeLookup (.type "list") ("keys":Us)=pure none:=am_miss_of_fast (by decide+kernel)
section
variable{prog:As}{w:Uu}{A:Bt}{E:Ul->Ad->Prop}{s:Ad}
theorem CL{a:Um}{o:Uy}{xs:Array Ul}{k:Nat}{Q:Option Ul->Ad->Prop}(hx:s.heap.get? a=some o)(hc:o.cls=.type "list")(aw:o.data=.seq xs k)(hd:o.dict=none)(hA:A.handled=none)(h:∀h' tk,(∀b ob,s.heap.get? b=some ob->h'.get? b=some ob)->Q none {s with heap:=h',toks:=tk}):Uq (Ur prog w) A (To (.ref a) "keys") Q E s:=by
 obtain⟨c,dct,dat,sl⟩:=o;simp only at hc aw hd;subst hc aw hd;obtain⟨hp,g,d,tk,os⟩:=s;have hT:∀tk',(⟨hp,g,d,tk',os⟩:Ad).TypeIs (.ref a) "list":=λ_=>⟨_,hx,rfl⟩;have f1:=sub_AttributeError;have f3:=F.slot_list_getattribute.lookup;have f4:=F.slot_list_getattribute.bind (.ref a);have f5:=am_list_getattr_none;unfold To getAttrBy? getAttrBy
 (repeat (any_goals (first|assumption|exact hT _|((with_reducible show Uq _ _ (call (Tl "list.__getattribute__") _ _) _ _ _);refine Gc F.slot_list_getattribute (hT _) am_entry_list_getattribute (F.args_list_getattribute_2 _ _) (meets_getattribute_miss_list a xs k sl "keys" _ CO (by decide) (by size_fits)) ⟨hx,hA,λh' tk' e hx'=>?_⟩)|wp_step)))
 obtain⟨t1,u1,he⟩:=hx'.there;show(Uq _ _ (Pf _ _ _ _ _ _ _) _ _ _);unfold Pf
 (repeat (any_goals (first|assumption|wp_step)))
 exact h _ _ hx'.keeps
end
theorem LQ:entryFor table "dict.update.loop"=some Du.«dict.update.loop» :=entryFor_of_tree (by kernel_rfl)
theorem T7:plainId "dict.update.loop"=true:=by decide+kernel
def PrK(prog:As)(w:Uu)(h:Uw):List Ul->List (aG×Ul)->Prop
 |[],[]=>True
 |v::vs,p::ps=>(∃a key,v=.ref a/\IsTup h a #[key,p.2]/\(aQ prog w).is p.1 key=true)/\PrK prog w h vs ps
 |_,_=>False
section
variable{prog:As}{w:Uu}{A:Bt}{E:Ul->Ad->Prop}{s:Ad}
theorem PrK.keep{h h':Uw}{C:Um->Prop}(k:∀b o,C b->h.get? b=some o->h'.get? b=some o):∀{vs:List Ul} {ps:List (aG×Ul)},(∀a,Ba a∈vs->C a)->PrK prog w h vs ps->PrK prog w h' vs ps
 |[],[],_,_=>trivial
 |_::_,_::_,hC,⟨⟨a,key,e,⟨o,ho,r⟩,q⟩,r2⟩=>⟨⟨a,key,e,⟨o,k a o (hC a (by rw[e];exact Ar)) ho,r⟩,q⟩,PrK.keep k (λa ha=>hC a (An _ ha)) r2⟩
 |[],_::_,_,r=>r.elim
 |_::_,[],_,r=>r.elim
theorem F9{a:Um}{k v:Ul}{Q:List Ul->Ad->Prop}(h:IsTup s.heap a #[k,v])(q:Q [k,v] s):Uq (Ur prog w) A (Mk (.ref a)) Q E s:=by obtain⟨o,ho,hc,n,hd⟩:=h;unfold Mk;refine(Aa (Kt (T:= "tuple") ⟨o,ho,hc⟩ ?_));rw[if_pos (by decide)];exact(Aa (Ez ho hd (Ah q)))
theorem Xg{R:Tu->Ad->Prop}{I D:Um}{fp wr:List Um}{items:Array Ul}{St:Nat->Uw->Prop}(W:Walks prog w A.in1 I fp wr items.size (λi v=>items[i]?=some v) St)(hDf:D∉fp):∀(vs:List Ul) (ps:List (aG×Ul)) (j:Nat) (i:Int) (s:Ad) (kvs:List (aG×Ul)),items.toList.drop j=vs->j+vs.length=items.size->St j s.heap->s.heap.DictOf (aQ prog w) D kvs->kvs.length+vs.length<=sizeLine->PrK prog w s.heap vs ps->(∀a,Ba a∈vs->a∉wr/\a≠D)->(∀g tk,g.DictOf (aQ prog w) D (ps.foldl (λl p=>Tv l p.1 p.2) kvs)->(∀b o,b∉wr->b≠D->s.heap.get? b=some o->g.get? b=some o)->R (.ok (.ret .none)) {s with heap:=g,toks:=tk})->Jm (Ur prog w) A (.builtin "dict.update.loop" ⟨[.ref D,.ref I,rawInt i,.none],[]⟩) R s
 | [],ps,j,i,s,kvs,e,hj,hst,hd,hz,hp,ha,hR => by
  have nDw:D∉wr:=λz=>hDf (W.sub _ z);cases ps with
  |cons p ps=>exact hp.elim
  |nil=>
   refine My LQ (by rw[Nh T7 _];show(Uq _ A.in1 (pyNext (.ref I)>>=_) _ _ s);refine(Aa (W.done s _ _ (by rw[show items.size=j by simpa using hj.symm];exact hst) λg tk kept=>?_));show(Uq _ A.in1 (Builtin.Dict.addKeywords D []>>=_) _ _ _);refine(Aa (Ah (Ah ?_)));obtain⟨o,es,ep,ho,r⟩:=hd;exact hR g tk ⟨o,es,ep,kept _ _ nDw ho,r⟩ λb o z1 _ e=>kept b o z1 e)
 | v :: vs,ps,j,i,s,kvs,e,hj,hst,hd,hz,hp,ha,hR => by
  have nDw:D∉wr:=λz=>hDf (W.sub _ z);cases ps with
  |nil=>exact hp.elim
  |cons p ps=>
   obtain⟨⟨a,key,rfl,ht,hk⟩,hp⟩:=hp;obtain⟨na,nD⟩:=ha a Ar;simp only[Bm] at hj hz;have ei:items[j]?=some (.ref a):=by have:=congrArg (λl=>l[0]?) e;simpa using this
   have ed:items.toList.drop (j+1)=vs:=by have:=congrArg List.tail e;simpa using this
   refine My LQ (by
    rw[Nh T7 _];show(Uq _ A.in1 (pyNext (.ref I)>>=_) _ _ s);refine(Aa (W.item j s _ _ (by lia) hst λv g tk pv nv kept=>?_));obtain rfl:v=.ref a:=by rw[ei] at pv;cases pv;rfl
    obtain⟨o,ho,r⟩:=ht;obtain⟨o2,es,ep,ho2,r2⟩:=hd;refine(Aa (Bq (Aa (wpAny_tryCatch (F9 (s:={s with heap:=g,toks:=tk}) ⟨o,kept _ _ na ho,r⟩ ?_)))));refine(Bq (wpAny_dictSet_pairs (s:={s with heap:=g,toks:=tk}) (kvs:=kvs) hk ⟨o2,es,ep,kept _ _ nDw ho2,r2⟩ (λg2 hd2 hs2=>?_) (by lia)));have jf:∀b o,b∉wr->b≠D->s.heap.get? b=some o->g2.get? b=some o:=λb o z1 z2 e=>(hs2.2 b z2).trans (kept b o z1 e);refine(Ah ⟨plainId_quiet T7 _,Xg W hDf vs ps (j+1) (i+1) _ (Tv kvs p.1 p.2) ed (by lia) (W.frame _ _ _ nv λb hb o e=>(hs2.2 b (λz=>hDf (by rw[<-z];exact hb))).trans e) hd2 ?_ (PrK.keep (C:=λb=>b∉wr/\b≠D) (λb o hb e=>jf b o hb.1 hb.2 e) (λa h=>ha a (An _ h)) hp) (λa h=>ha a (An _ h)) ?_⟩)
    ·have:=stored_length_le kvs p.1 p.2
     lia
    ·exact λg3 tk3 hd3 lp=>hR g3 tk3 hd3 λb o z1 z2 e=>lp b o z1 z2 (jf b o z1 z2 e))
end
section
variable{prog:As}{w:Uu}{A:Bt}{E:Ul->Ad->Prop}{s:Ad}
theorem FS{l:Um}{vs:List Ul}{ps:List (aG×Ul)}{Q:Ul->Ad->Prop}(hh:A.handled=none)(pl:PlainL s.heap l vs.toArray)(hz:vs.length<=sizeLine)(hp:PrK prog w s.heap vs ps)(h:∀g tk,g.DictOf (aQ prog w) s.heap.objs.size (ps.foldl (λl p=>Tv l p.1 p.2) [])->(∀b o,s.heap.get? b=some o->g.get? b=some o)->Q (.ref s.heap.objs.size) {s with heap:=g,toks:=tk}):Uq (Ur prog w) A (call (.type "dict") [.ref l]) Q E s:=by
 refine(callType_codes (Q₁:=λobj s₁=>obj=.ref s.heap.objs.size/\s₁={s with heap:=s.heap.push {cls:=.type "dict",data:=.dict #[]}}) F.kt_called_dict (F.kt_typeCall_dict_1 _) F.entry_dict_init (kt_code_dict_new _ ⟨rfl,rfl⟩) ?_);rintro obj s₁ ⟨rfl,rfl⟩;have fo:(s.heap.push {cls:=.type "dict",data:=.dict #[]}).DictOf (aQ prog w) s.heap.objs.size []:=Rq s.heap;obtain⟨o,n,ho,hc,hd,aw⟩:=pl;have ho':(s.heap.push {cls:=.type "dict",data:=.dict #[]}).get? l=some o:=Ac _ ho;refine⟨fo.typeIs,F.args_dict_init_2 _ _,?_⟩;unfold Du.«dict.__init__»;refine(Aa ?_);unfold Builtin.Dict.selfAndRest;refine(Aa (wpAny_notOrdered_dict fo.typeIs ?_));show(Uq _ _ (pure (s.heap.objs.size,[Ba l])) _ _ _);refine(Ah ?_);show(Uq _ _ (Ly "dict.__init__" s.heap.objs.size (.ref l) [] .none) _ _ _);unfold Ly;refine(Aa (Kt (T:= "list") ⟨o,ho',hc⟩ ?_));rw[if_pos (by decide)];refine(Aa (CL ho' hc aw hd (by simp[hh]) λg1 tk1 k1=>?_));simp only[Option.isNone_none,if_true];refine(Aa (Ir ?_));have o1:g1.get? l=some o:=k1 _ _ ho';have od:g1.get? s.heap.objs.size=some {cls:=.type "dict",data:=.dict #[]}:=k1 _ _ (Aq _ rfl);have lts:s.heap.objs.size<g1.objs.size:=Aj od;have ltl:l<s.heap.objs.size:=Aj ho;have hl1:g1.IsList l vs.toArray:=⟨o,o1,hc,n,aw⟩;have l7:∀b ob,s.heap.get? b=some ob->g1.get? b=some ob:=λb ob q=>k1 b ob (Ac _ q);have ne1:∀b ob,s.heap.get? b=some ob->b∉[g1.objs.size]/\b≠s.heap.objs.size:=λb ob q=>by have:=Aj q;exact⟨λz=>by rw[Az.mp z] at this;exact absurd (Qj this lts) (Cb _),λz=>by rw[z] at this;exact Cb _ this⟩
 have hin:∀{vs:List Ul} {ps:List (aG×Ul)},PrK prog w s.heap vs ps->∀a,Ba a∈vs->∃ob,s.heap.get? a=some ob:=by
  intro vs;induction vs with
  |nil=>intro ps _ a ha;cases ha
  |cons v vs ih=>
   intro ps hp a ha;cases ps with
   |nil=>exact hp.elim
   |cons p ps=>
    rcases Ak.mp ha with e|ha
    ·obtain⟨⟨b,key,e2,⟨ob,hob,_⟩,_⟩,_⟩:=hp
     rw[e2] at e;cases e;exact⟨ob,hob⟩
    ·exact ih hp.2 a ha
 refine(Aa (Gv (s:={s with heap:=g1,toks:=tk1}) hl1 ?_));have W:=Walks.list (prog:=prog) (w:=w) (A:=A.in1.in1) (by simp[hh]) g1.objs.size l (Au (Qj ltl lts)) vs.toArray;refine(Ah ⟨plainId_quiet T7 _,Xg (A:=A.in1) W (λz=>?_) vs ps 0 0 _ [] (by simp) (by simp) ⟨⟨_,Aq _ rfl,rfl,rfl⟩,hl1.push _⟩ ?_ (by simpa using hz) (PrK.keep (C:=λ_=>True) (λb ob _ q=>Ac _ (l7 b ob q)) (λ_ _=>trivial) hp) (λa ha=>?_) λg tk hdd kept=>⟨rfl,h g tk hdd λb ob q=>?_⟩⟩)
 ·rcases Ak.mp z with z|z
  ·exact absurd lts (by rw[<-z];exact Cb _)
  ·rw[<- Az.mp z] at ltl
   exact Cb _ ltl
 ·obtain⟨o2,es,ep,ho2,r2⟩:=fo
  exact⟨o2,es,ep,Ac _ (k1 _ _ ho2),r2⟩
 ·obtain⟨ob,hob⟩:=hin hp a ha
  exact ne1 a ob hob
 ·exact kept b ob (ne1 b ob q).1 (ne1 b ob q).2 (Ac _ (l7 b ob q))
end
variable{X:Cx}{K:Ai}{H:Hp}{σ:St}{s:Ad}{aa:List (Um×Uy)}{ml:List Nat}{pa ta ia:Bool}{fa:VF}{a:Ut}{p' pos:Pos}
noncomputable def CM:cO->Option (aG×cO)
 |.tup [k,v]=>(V9 k).map λkk=>(kk,v)
 |_=>none
noncomputable def UH:List cO->Option (List (aG×cO))
 |[]=>some []
 |d::ds=>(CM d).bind λp=>(UH ds).map λps=>p::ps
def JQ(K:Ai)(H:Hp):List V->List (aG×V)->Prop
 |[],[]=>True
 |v::vs,p::ps=>(∃a,v=.ref a/\WF K H a [kV p.1,p.2])/\JQ K H vs ps
 |_,_=>False
theorem eV{d:cO}{p:aG×cO}(h:CM d=some p):∃k,d=.tup [k,p.2]/\V9 k=some p.1:=by
 unfold CM at h;split at h
 ·rename_i k v
  cases e:V9 k with
  |none=>rw[e] at h;cases h
  |some kk=>rw[e] at h;cases h;exact⟨k,rfl,e⟩
 ·cases h
theorem HN{N:Um->Prop}:∀{xs:List V} {ds:List cO} {kds:List (aG×cO)},bY K N H xs ds->UH ds=some kds->∃kvs:List (aG×V),JQ K H xs kvs/\kvs.map Dj=kds.map Dj/\bY K N H (kvs.map Er) (kds.map Er)
 |_,_,_,.nil,h=>by cases h;exact⟨[],trivial,rfl,.nil⟩
 | _,_,kds,@bY.cons _ _ _ v vs d ds h t,e => by
  have e:(CM d).bind (λp=>(UH ds).map λps=>p::ps)=some kds:=e;cases h1:CM d with
  |none=>rw[h1] at e;cases e
  |some p=>
   rw[h1] at e;have e:(UH ds).map (λps=>p::ps)=some kds:=e;cases h2:UH ds with
   |none=>rw[h2] at e;cases e
   |some qs=>
    rw[h2] at e;cases e;obtain⟨kvs,r1,r2,r3⟩:=HN t h2;obtain⟨k,rfl,hk⟩:=eV h1;cases h with
    |tup sq r=>
     cases r with
     |cons w1 r=>
      cases r with
      |cons w2 r=>
       cases r;have ek:=w1.key hk;subst ek;exact⟨(p.1,_)::kvs,⟨⟨_,rfl,sq⟩,r1⟩,by simp[r2],.cons w2 r3⟩
theorem JQ.prK(I:b9 X aa σ H s):∀{xs:List V} {us:List Ul} {kvs:List (aG×V)},JQ X.K H xs kvs->bE xs us->∃ps:List (aG×Ul),KV kvs ps/\PrK X.prog X.w s.heap us ps
 |[],_,[],_,.nil=>⟨[],.nil,trivial⟩
 | _ :: _,_,p :: _,⟨⟨b,e,q⟩,r⟩,.cons h t => by
  subst e;cases h;obtain⟨ps,r1,r2⟩:=JQ.prK I r t;obtain⟨its,rv,ht,_⟩:=I.tuple q;cases rv with
  |cons w1 rv=>
   cases rv with
   |cons w2 rv=>
    cases rv;exact⟨(p.1,_)::ps,.cons ⟨rfl,w2⟩ r1,⟨b,_,rfl,ht,LZ w1⟩,r2⟩
 |[],_,_::_,h,_=>h.elim
 |_::_,_,[],h,_=>h.elim
theorem JQ.len:∀{xs:List V} {ps:List (aG×V)},JQ K H xs ps->xs.length=ps.length
 |[],[],_=>rfl
 |_::_,_::_,r=>by simp[JQ.len r.2]
 |[],_::_,r=>r.elim
 |_::_,[],r=>r.elim
def Ye(K:Ai):RC:=λxs H Q=>∃(p:Um) (ys:List V) (kvs:List (aG×V)),xs=[.ref p]/\X6 K H p ys/\JQ K H ys kvs/\(kvs.map Dj).Nodup/\∀l:Um,H l=none->Q (.ref l) (upd H l (.dK kvs))
theorem iV(h:X.K=K)(hc:X.calm=true):Z1 X (.type "dict") (Ye K):=by subst h;intro aa s σ H xs us Q I r h;obtain⟨p,ys,kvs,rfl,hq,hp,nd,q⟩:=h;obtain⟨u,rfl,rx⟩:=TC r;cases rx;obtain⟨its,rv,pl,hz⟩:=I.list hq;have ag:=rv.length;have hpl:=hp.len;obtain⟨ps,r1,r2⟩:=hp.prK I rv;refine FS (I.ok.hd hc) pl (by lia) r2 λg tk hd kept=>?_;have hm:N6 [] kvs=kvs:=L8 (acc:=[]) (by simpa using nd);have rel:=KV.merge r1 (kvs:=[]) (vs:=[]) .nil;rw[hm] at rel;exact⟨.ref s.heap.objs.size,_,I.laid (a:=s.heap.objs.size) (o:=.dK kvs) (t':=tk) kept (Ap _) (Wh (by lia) (beq_eq_false_iff_ne.mpr (Dm (Au I.big))) rel hd),rfl,q _ (I.hok.fresh (Ap _))⟩
noncomputable def EC:cO->Option cO
 |.lst ds=>(UH ds).bind λkds=>if(kds.map Dj).Nodup then some (.dct (kds.map Dj) (kds.map Er)) else none
 |_=>none
def CalD(K:Ai)(r:RC)(o:cO->Option cO):Prop:=∀(H:Hp) (N M:Um->Prop) (x:V) (d c:cO) (Q:VK),bB K N H M x d->o d=some c->
 (∀p (kvs:List (aG×V)) ds,H p=none->bY K N H (kvs.map Er) ds->c=.dct (kvs.map Dj) ds->Q (.ref p) (upd H p (.dK kvs)))->r [x] H Q
theorem eD:CalD K (Ye K) EC:=by
 intro H N M x d c Q hx h k;cases d with
 |lst ds=>
  have h:((UH ds).bind λkds=>if(kds.map Dj).Nodup then some (cO.dct (kds.map Dj) (kds.map Er)) else none)=some c:=h;cases h1:UH ds with
  |none=>rw[h1] at h;cases h
  |some kds=>
   rw[h1] at h;have h:(if(kds.map Dj).Nodup then some (cO.dct (kds.map Dj) (kds.map Er)) else none)=some c:=h;split at h
   ·rename_i nd
    cases h;obtain⟨a,xs,rfl,sq,r⟩:=hx.lstE;obtain⟨kvs,r1,r2,r3⟩:=HN r h1;exact⟨a,xs,kvs,rfl,sq,r1,by rw[r2];exact nd,λl hl'=>k l kvs _ hl' r3 (by rw[r2])⟩
   ·cases h
 |_=>cases h
theorem mkDK{B:Bs}{O:Nat->Option Um}{H1:Hp}{δ':Ev}{p:Um}{pu:Bool}{kvs:List (aG×V)}{ds:List cO}(S:aN K ml B O H1 σ δ')(f:Fr (OA O) H H1)(s:pu=true->aL H H1)(hp:H1 p=none)(r:bY K (Nn B O) H1 (kvs.map Er) ds):ResN K ml B O H σ pu (upd H1 p (.dK kvs)) δ' p (.dct (kvs.map Dj) ds):=
 ⟨S.laid hp,f.trans (cJ hp).fr,λz=>(s z).trans (cJ hp),.dct b5 ((r.away hp _ _ WL).same (cJ hp)),S.new hp,S.fresh hp⟩
theorem DL(hK:X.K=K)(hc:X.calm=true)(hg:Gl X "dict")(hm:X.mg "dict"=none)(hv:Be "dict"=some (.type "dict"))(ha:PE X a (TV K ml pa ta true fa))(hn:("dict":Us)≠ "__name__":=by decide)(hdb:(("dict":Us)==("__debug__":Us))=false:=by decide)(he:Uo (a::[]) X.env=(false,eval a X.env)::Uo [] X.env:=by rfl):PE X (.Call (.Name "dict" p') [a] [] pos) (TN K ml pa (f1 EC fa)):=
 (V3 (iV hK hc) hg hm hv (bD ha ZO he) hn hdb he).imp λσ H Q h=>by obtain⟨B,O,δ,d,δ',S,q,k⟩:=h;obtain⟨x,h1,h2⟩:=QK q;refine⟨B,O,δ,x,δ',S,h1,λv1 H1 R1=>eD H1 _ _ v1 x d Q R1.rep h2 λp kvs ds hp hr he=>?_⟩;subst he;exact k p _ (mkDK R1.sta R1.frm R1.pur hp hr)
theorem ZR.alive{P:As}{w:Uu}{H:Hp}{h:Uw}{a:Um}{o:HO}(x:ZR P w H h a o):∃u,h.get? a=some u:=by
 cases o with
 |lst xs=>obtain⟨_,_,_,_,e⟩:=x;exact⟨_,e⟩
 |tup xs=>obtain⟨_,_,_,ob,e,_⟩:=x;exact⟨_,e⟩
 |dK kvs=>obtain⟨_,_,_,_,o,_,_,e,_⟩:=x;exact⟨_,e⟩
 |dT kvs=>obtain⟨_,_,_,_,o,_,_,e,_⟩:=x;exact⟨_,e⟩
 |set S n=>obtain⟨o,_,_,_,e,_⟩:=x;exact⟨_,e⟩
 |ins C dx fs=>obtain⟨_,_,_,e,_⟩:=x;exact⟨_,e⟩
 |own y=>exact x
 |xd fs=>obtain⟨_,⟨_,_,_,e,_⟩,_⟩:=x;exact⟨_,e⟩
 |rng lo hi=>obtain⟨_,_,_,e⟩:=x;exact⟨_,e⟩
 |frz ob u=>obtain⟨e,_⟩:=x;exact⟨_,e⟩
 |tbl ps=>exact⟨_,(show h.get? a=some _ from x)⟩
 |met f y=>exact⟨_,(show h.get? a=some _ from x)⟩
 |ext φ=>exact x.2.1
structure XP(K:Ai)(C Cp:Um):Prop where
 at_:Et K Up "PackError"=some (some (.ref Cp))
 ty:W.typeIn K (.ref Cp)=some (.type "type")
 cls:(Sb K Cp).isSome=true
 base:Pz K (.ref Cp) (.type "BaseException")=some true
 sub:Pz K (.ref C) (.ref Cp)=some true
structure XC(K:Ai)(x:Us)(C:Um):Prop where
 at_:Et K Up x=some (some (.ref C))
 att:XA K C
 cls:(Sb K C).isSome=true
 pk:∃Cp,XP K C Cp
structure XE(K:Ai)(x:Us)(C:Um):Prop where
 xc:XC K x C
 exc:W.excIn K C AN "ValueError.__new__"=true
def ExcF(l:List Env)(g:Uw)(H:Hp)(C:Um)(p:Option Um)(e:Ul)(h:Uw):Prop:=
 ∃a a0 B,e=.ref a/\Kv B l a (.ref C) a0 h/\Dc a p h/\(∀b o,g.get? b=some o->b∉U0 l->∃o',h.get? b=some o'/\B.get? b=some o')/\∀b u,H b=some u->∃o,h.get? b=some o/\B.get? b=some o
def G1(P:As)(w:Uu):BL:=λouter H s E e s'=>∃C p H1,s'.os=s.os/\Lo s'.gens/\Un (U0 outer) [] H H1 s.heap s'.heap/\TF P w H1 s'.heap/\ExcF outer s.heap H1 C p e s'.heap/\E (.ref C) p H1
theorem D3{P:As}{w:Uu}{H:Hp}{h h' B:Uw}(ok:TF P w H h)(st:B.StaysIn h')(c2:∀b u,H b=some u->∃o,h.get? b=some o/\B.get? b=some o):TF P w H h':=λb u e=>
 (ok b u e).stay (λc v hc q => by
  have:∃u,H c=some u:=by
   rcases hc with rfl|hc
   ·exact⟨u,e⟩
   ·exact⟨_,hc⟩
  obtain⟨u',e'⟩:=this;obtain⟨o,e1,e2⟩:=c2 c u' e';rw[q] at e1;cases e1;exact st c v e2) (λ_ q=>q) λ_ _ q=>q
section
variable{X:Cx}{aa:List (Um×Uy)}{σ:St}{H H1:Hp}{s s':Ad}{g h' B:Uw}{C a:Um}{a0:Ul}
theorem b9.fly(I:b9 X aa σ H s)(st:B.StaysIn h')(up:s.heap.UpToSlots h')(c1:∀b o,X.s₀.heap.get? b=some o->b∉U0 X.stack->∃o',s.heap.get? b=some o'/\B.get? b=some o')(cp:∀p∈X.pn++aa,B.get? p.1=some p.2)(c2:∀b u,H b=some u->∃o,s.heap.get? b=some o/\B.get? b=some o):b9 X aa σ H {s with heap:=h'}:=by
 have neL:∀b o,X.s₀.heap.get? b=some o->b≠X.env.locals:=λb o e=>Au (Av (Aj e) I.ok.above);have out:∀b o,X.s₀.heap.get? b=some o->b∉X.fs->b∉U0 X.stack:=λb o e hb z=>(Ak.mp (I.stkSub b z)).elim (neL b o e) hb;have dw:∀b∈X.fs,∀o,s.heap.get? b=some o->∃sl,h'.get? b=some {o with slots:=sl}:=λb hb o e=>by obtain⟨_,o',e',nf⟩:=I.funs.mem hb;rw[e] at e';cases e';exact up b o e nf
 have f9:∀x c,X.env.cells.lookup x=some c->∀v,s.heap.IsCell c v->h'.IsCell c v:=λx c _ v q0=>by
  obtain⟨o,ho,hd⟩:=q0;obtain⟨sl,e⟩:=up c o ho λvs q=>by rw[hd] at q;cases q
  exact⟨_,e,hd⟩
 refine⟨I.ok,I.os,I.bare,⟨λb o e n hb hx=>?_,λb o e n hb hx=>?_,I.base.free,λb o e hx=>?_,I.base.tups,I.base.frzs,I.base.tbls⟩,?_,λx c e=>?_,I.free,I.freeC,λp hp=>?_,D3 I.hok st c2,I.len⟩
 ·obtain⟨o',e1,e2⟩:=c1 b o e (out b o e hb)
  rw[I.base.keep b o e n hb hx] at e1;cases e1;exact st b o e2
 ·obtain⟨sl,e1⟩:=I.base.slot b o e n hb hx
  obtain⟨sl',e2⟩:=dw b hb _ e1;exact⟨sl',e2⟩
 ·by_cases hb:b∈X.fs
  ·obtain⟨o',e1⟩:=I.base.there b o e hx
   obtain⟨sl',e2⟩:=dw b hb _ e1;exact⟨_,e2⟩
  ·obtain⟨o',e1,e2⟩:=c1 b o e (out b o e hb)
   exact⟨o',st b o' e2⟩
 ·obtain⟨m,hn,hl⟩:=I.loc
  refine⟨m,up.ns hn,λi x v e1 e2 e3=>?_⟩;obtain⟨u,r,l⟩:=hl i x v e1 e2 e3;refine⟨u,r,?_⟩;rcases l with l|⟨k,c,e,z⟩
  ·exact .inl l
  ·exact .inr ⟨k,c,e,f9 x c e _ z⟩
 ·obtain⟨v,z⟩:=I.cell x c e
  exact⟨v,f9 x c e v z⟩
 ·obtain⟨e,n,ne,nf,d⟩:=I.pin p hp
  exact⟨st _ _ (cp p hp),n,ne,nf,d⟩
structure Low(X:Cx)(aa:List (Um×Uy))(g:Uw):Prop where
 s0:∀b o,X.s₀.heap.get? b=some o->b∉U0 X.stack->∃o',g.get? b=some o'
 pin:∀p∈X.pn++aa,∃o,g.get? p.1=some o
theorem b9.low(I:b9 X aa σ H s)(hx:X.ex=[]):Low X aa s.heap:=
 ⟨λb o e _=>I.base.there b o e (by rw[hx];simp),λp hp=>⟨_,(I.pin p hp).1⟩⟩
theorem b9.flyG(I:b9 X aa σ H s)(lo:Low X aa g)(st:B.StaysIn h')(up:s.heap.UpToSlots h')(c1:∀b o,g.get? b=some o->b∉U0 X.stack->∃o',s.heap.get? b=some o'/\B.get? b=some o')(c2:∀b u,H b=some u->∃o,s.heap.get? b=some o/\B.get? b=some o):b9 X aa σ H {s with heap:=h'}:=by
 refine I.fly st up (λb o e hb=>?_) (λp hp=>?_) c2
 ·obtain⟨o',e'⟩:=lo.s0 b o e hb
  exact c1 b o' e' hb
 ·obtain⟨o,e⟩:=lo.pin p hp
  obtain⟨e1,_,ne,nf,_⟩:=I.pin p hp;obtain⟨o',e2,e3⟩:=c1 p.1 o e λz=>(Ak.mp (I.stkSub _ z)).elim ne nf;rw[e1] at e2;cases e2;exact e3
def RzF(X:Cx)(R:Us->Option Um->St->Hp->Prop):Prop:=∀(aa:List (Um×Uy)) (x:Us) (C:Um) (p:Option Um) (σ:St) (H1:Hp) (e:Ul) (s':Ad) (g:Uw),XC X.K x C->b9 X aa σ H1 s'->ExcF X.stack g H1 C p e s'.heap->Low X aa g->R x p σ H1->X.xe e s'
def RzM(X:Cx)(R:Us->Option Um->St->Hp->Prop):Prop:=∀(aa:List (Um×Uy)) (x:Us) (C a:Um) (args:List Ul) (σ:St) (H1:Hp) (h:Uw) (s':Ad),XC X.K x C->b9 X aa σ H1 {s' with heap:=h}->Heap.MadeExcOf h s'.heap a (.ref C) args->R x none σ H1->X.xe (.ref a) s'
def RzP(X:Cx)(R:Us->Option Um->St->Hp->Prop):Prop:=∀(aa:List (Um×Uy)) (x nm:Us) (C a:Um) (v:V) (u:Ul) (σ:St) (H1:Hp) (h:Uw) (s':Ad),XC X.K x C->b9 X aa σ H1 {s' with heap:=h}->DQ h s'.heap a C nm u->bS v u->(∀D,H1 D=none->R x (some D) σ (upd H1 D (.xd [(nm,v)])))->X.xe (.ref a) s'
end
section
variable{P:As}{w:Uu}{K:Ai}{mg:Us->Option Ul}{base:Uw}{N:List Us}{qual:Us}{scope:Vd}{f:Um}{cd:Ul}{A:Bt}{outer:List Env}{s:Ad}{H:Hp}{E:XK}
def rE(K:Ai)(E:XK):Us->Option Um->St->Hp->Prop:=λx p _ H1=>∀C,XC K x C->E (.ref C) p H1
theorem KL{aa:List (Um×Uy)}{σ:St}{H1:Hp}{s':Ad}{g h' B:Uw}{C a:Um}{p:Option Um}{a0:Ul}{d:Drawn}{tk:Nat}(dc:Dc a p h')(I:b9 (TJ (G1 P w) P w K mg base N qual scope f cd A outer s H E) aa σ H1 s')(lo:∀b o,s.heap.get? b=some o->b∉U0 (envOfC qual scope s.heap.objs.size f cd::outer)->∃o',g.get? b=some o')(fl:Kv B outer a (.ref C) a0 h')(up:s'.heap.UpToSlots h')(c1:∀b o,g.get? b=some o->b∉U0 (envOfC qual scope s.heap.objs.size f cd::outer)->∃o',s'.heap.get? b=some o'/\B.get? b=some o')(c2:∀b u,H1 b=some u->∃o,s'.heap.get? b=some o/\B.get? b=some o)(hE:E (.ref C) p H1):G1 P w outer H s E (.ref a) {s' with heap:=h',drawn:=d,toks:=tk}:=by
 have bs:Un (U0 outer) [] H H1 s.heap s'.heap:=I.base;have stk:s'.heap.FunFrames base (envOfC qual scope s.heap.objs.size f cd::outer):=I.stack;have got:∀b o,s.heap.get? b=some o->b∉U0 outer->∃o',s'.heap.get? b=some o'/\B.get? b=some o':=λb o q hb=>by
  have nL:b∉U0 (envOfC qual scope s.heap.objs.size f cd::outer):=λz=>by
   rcases Ak.mp (show b∈s.heap.objs.size::U0 outer from z) with z|z
   ·have:=Aj q
    rw[z] at this;exact absurd this (Cb _)
   ·exact hb z
  obtain⟨o',e⟩:=lo b o q nL;exact c1 b o' e nL
 have dw:∀b∈U0 outer,∀o,s'.heap.get? b=some o->∃sl,h'.get? b=some {o with slots:=sl}:=λb hb o e=>by obtain⟨_,o',e',nf⟩:=stk.mem (An _ hb:b∈s.heap.objs.size::U0 outer);rw[e] at e';cases e';exact up b o e nf
 refine⟨C,p,H1,I.os,I.bare,⟨λb o q n hb hx=>?_,λb o q n hb hx=>?_,bs.free,λb o q hx=>?_,bs.tups,bs.frzs,bs.tbls⟩,D3 I.hok fl.1 c2,⟨a,a0,B,rfl,fl,dc,λb o e hn=>?_,λb u e=>?_⟩,hE⟩
 ·obtain⟨o',e1,e2⟩:=got b o q hb
  rw[bs.keep b o q n hb hx] at e1;cases e1;exact fl.1 b o e2
 ·obtain⟨sl,e1⟩:=bs.slot b o q n hb hx
  obtain⟨sl',e3⟩:=dw b hb _ e1;exact⟨sl',e3⟩
 ·by_cases hb:b∈U0 outer
  ·obtain⟨o',e1⟩:=bs.there b o q hx
   obtain⟨sl',e3⟩:=dw b hb _ e1;exact⟨_,e3⟩
  ·obtain⟨o',e1,e2⟩:=got b o q hb
   exact⟨o',fl.1 b o' e2⟩
 ·obtain⟨o',e1,e2⟩:=got b o e hn
  exact⟨o',fl.1 b o' e2,e2⟩
 ·obtain⟨o,e1,e2⟩:=c2 b u e
  exact⟨o,fl.1 b o e2,e2⟩
theorem E2:RzF (TJ (G1 P w) P w K mg base N qual scope f cd A outer s H E) (rE K E):=by intro aa x C p σ H1 e s' g hx I F lo hR;obtain⟨a,a0,B,rfl,fl,dc,c1,c2⟩:=F;exact QG (KD.leave _ _) dc (wpAny_leaves_onW (I.ok.frames.trans rfl) rfl fl λh' fl' up dc'=>KL (d:=s'.drawn) (tk:=s'.toks) dc' I lo.s0 fl' up c1 c2 (hR C hx))
theorem jU:RzM (TJ (G1 P w) P w K mg base N qual scope f cd A outer s H E) (rE K E):=by
 intro aa x C a args σ H1 h s' hx I M hR;have stk:h.FunFrames base (envOfC qual scope s.heap.objs.size f cd::outer):=I.stack;have hin:∀env∈(envOfC qual scope s.heap.objs.size f cd::outer),∀b,env.frame=some b->b∈U0 (envOfC qual scope s.heap.objs.size f cd::outer):=λenv he b hb=>Hy.mpr ⟨env,he,hb⟩;have dc:Dc a none s'.heap:=by obtain⟨t,e,_⟩:=M.there;exact Dc.of e
 refine QG (KD.leave _ _) dc (wpAny_leaves_madeW (base:=Rm h (U0 (envOfC qual scope s.heap.objs.size f cd::outer))) (h:=h) (I.ok.frames.trans rfl) rfl (λb o q=>Qh _ q) (Qy stk hin) M λh' t fl _ _ up dc'=>?_);have up':h.UpToSlots h':=(Tp M.keeps).trans up;exact KL (s':={s' with heap:=h}) (g:=h) (d:=s'.drawn) (tk:=s'.toks) dc' I (λb o q _=>I.base.there b o q (λz=>nomatch z)) fl up' (λb o e hb=>⟨o,e,Ln _ e hb⟩) (λb u e=>by obtain⟨o,q⟩:=(I.hok b u e).alive;exact⟨o,q,Ln _ q λz=>by have:=I.stkFree b z;rw[e] at this;cases this⟩) (hR C hx)
theorem gI:RzP (TJ (G1 P w) P w K mg base N qual scope f cd A outer s H E) (rE K E):=by
 intro aa x nm C a v u σ H1 h s' hx I M rv hR;obtain⟨t,D,oe,ht,hD,hDa,nsD⟩:=M.there;have fD:H1 D=none:=I.hok.fresh hD;have I2:=I.laid (a:=D) (o:=.xd [(nm,v)]) (h':=s'.heap) (t':=s'.toks) M.keeps hD ⟨_,nsD,λf=>by
  show TH (Hj f [(nm,v)]) (if f=nm then some u else none);by_cases z:f=nm
  ·subst z
   simp[TH,rv]
  ·rw[if_neg z]
   simp[Hj,beq_eq_false_iff_ne.mpr z,TH]⟩
 have stk:s'.heap.FunFrames base (envOfC qual scope s.heap.objs.size f cd::outer):=I2.stack;have naf:a∉U0 (envOfC qual scope s.heap.objs.size f cd::outer):=λz=>by obtain⟨_,o',e',nf⟩:=stk.mem z;rw[oe] at e';cases e';exact nf _ rfl
 have hin:∀env∈(envOfC qual scope s.heap.objs.size f cd::outer),∀b,env.frame=some b->b∈a::U0 (envOfC qual scope s.heap.objs.size f cd::outer):=λenv he b hb=>An _ (Hy.mpr ⟨env,he,hb⟩);refine QG (KD.leave _ _) (Dc.of oe) (wpAny_leaving_firstW (base:=Rm s'.heap (a::U0 (envOfC qual scope s.heap.objs.size f cd::outer))) (I.ok.frames.trans rfl) (Qy stk hin) rfl oe (λb o q=>Qh _ q) (Nk _ (Ar ..)) rfl rfl rfl λh' L dc'=>?_);obtain⟨l1,⟨_,_,l2⟩,l3,l4⟩:=L;have m8:∀b o,s'.heap.get? b=some o->b≠a->b∉U0 (envOfC qual scope s.heap.objs.size f cd::outer)->(Rm s'.heap (a::U0 (envOfC qual scope s.heap.objs.size f cd::outer))).get? b=some o:=λb o e n1 n2=>Ln _ e λz=>(Ak.mp z).elim n1 n2;refine KL (s':=s') (g:=h) (d:=s'.drawn) (tk:=s'.toks) dc' I2 (λb o q _=>I.base.there b o q (λz=>nomatch z)) ⟨l1,Nk _ (Ar ..),l2,l3⟩ l4 (λb o e hb=>⟨o,M.keeps b o e,m8 b o (M.keeps b o e) (λz=>by rw[z,M.new] at e;cases e) hb⟩) (λb w e=>?_) (hR D fD C hx);obtain⟨o,q⟩:=(I2.hok b w e).alive;refine⟨o,q,m8 b o q (λz=>?_) λz=>by have:=I2.stkFree b z;rw[e] at this;cases this⟩;by_cases hb:b=D
 ·exact hDa (hb▸z)
 ·rw[bM hb] at e
  obtain⟨o2,q2⟩:=(I.hok b w e).alive;rw[z,show({s' with heap:=h}:Ad).heap.get? a=none from M.new] at q2;cases q2
end
theorem CV{K:Ai}{h:Uw}{C:Um}{bmB:List Ul}{je:String}(X:K.In h)(q:W.excIn K C bmB je=true):∃bm N nm q bs hdct sn sub ab col dd k0 k1 k2 k3 k5 mN,h.get? C=some (Gr nm q C N bs bm hdct sn sub ab col dd k0 k1 k2 k3 k5 je)/\h.Ns N mN/\mN "__init__"=none/\Of h bmB bm:=by
 unfold W.excIn at q;split at q
 ·rename_i dd cd sl ho
  split at q
  ·rename_i C' bm k0 k1 k2 k3 n k5 hm hs
   simp only[Ae,beq_iff_eq,Qc] at q;obtain⟨⟨⟨⟨⟨rfl,rfl⟩,i9⟩,ht⟩,hok⟩,hni⟩:=q;obtain⟨nm,bs,mro,ns,qn,hd,sn,sub,ab,col,del⟩:=cd;dsimp only at hm i9 hok hni;subst hm i9;obtain⟨sl⟩:=sl;simp only at hs;subst hs;exact⟨bm,ns,nm,qn,bs,hd,sn,sub,ab,col,dd,k0,k1,k2,k3,k5,_,X _ _ ho,.of_isNs (W.isNs_of_in X hok),W.nsMap_none_of_in X hok hni,W.tail_of_in X ht⟩
  ·cases q
 ·cases q
abbrev Xw:=Us×Option (Us×cO)
abbrev VZ:=Ev->Option (Xw×Ev)
noncomputable def Pay(K:Ai)(N:Um->Prop)(H:Hp):Option Um->Option (Us×cO)->Prop
 |none,none=>True
 |some D,some (n,d)=>∃v,H D=some (.xd [(n,v)])/\bB K N H N v d
 |_,_=>False
theorem Pay.mono{K:Ai}{N N':Um->Prop}{H:Hp}{p:Option Um}{y:Option (Us×cO)}(h:Pay K N H p y)(hN:∀a,N' a->N a):Pay K N' H p y:=by
 unfold Pay at h⊢;split at h
 ·trivial
 ·obtain⟨v,e,r⟩:=h
  exact⟨v,e,r.mono hN hN⟩
 ·exact h
def TZ(R:Us->Option Um->St->Hp->Prop)(K:Ai)(ml:List Nat)(z:VZ)(σ:St)(H:Hp):Prop:=∃B O δ x δ',aN K ml B O H σ δ/\z δ=some (x,δ')/\∀σ' H' O' p,aN K ml B O' H' σ' δ'->Pay K (Nn B O') H' p x.2->R x.1 p σ' H'
abbrev ZE(R:Us->Option Um->St->Hp->Prop)(K:Ai)(ml:List Nat)(z:VZ):TE:=λσ H _=>TZ R K ml z σ H
abbrev ZS(R:Us->Option Um->St->Hp->Prop)(K:Ai)(ml:List Nat)(z:VZ):TS:=λ_ σ H=>TZ R K ml z σ H
section
variable{X:Cx}{K:Ai}{ml:List Nat}{e a b c:Ut}{es:List Ut}{pa ta ia pb tb ib pc tc ic pu bt bi ps bs:Bool}{fa fb fc f:VF}{B B':Bs}{O:Nat->Option Um}{H H1 H':Hp}{σ:St}{δ δ':Ev}{v:V}{d:cO}{pos:Pos}{st:Ux}{rest:List Ux}{g g':VS}{z z':VZ}{R:Us->Option Um->St->Hp->Prop}
def zNo:VZ:=λ_=>none
theorem A5{sts:List Ux}:WZ X sts (ZS R K ml zNo):=λ_ _ _ _ _ _ h=>by obtain⟨_,_,_,_,_,_,q,_⟩:=h;cases q
def A9(z z':VZ):VZ:=λδ=>match z δ with
 |some r=>some r
 |none=>z' δ
theorem dW(h:TZ R K ml (A9 z z') σ H):TZ R K ml z σ H∨TZ R K ml z' σ H:=by
 obtain⟨B,O,δ,x,δ',S,q,k⟩:=h;unfold A9 at q;cases h1:z δ with
 |some r=>rw[h1] at q;exact .inl ⟨B,O,δ,x,δ',S,h1.trans q,k⟩
 |none=>rw[h1] at q;exact .inr ⟨B,O,δ,x,δ',S,q,k⟩
theorem Zy{sts:List Ux}(h1:WZ X sts (ZS R K ml z))(h2:WZ X sts (ZS R K ml z')):WZ X sts (ZS R K ml (A9 z z')):=λaa s σ H D I h=>
 (dW h).elim (h1 aa s σ H D I) (h2 aa s σ H D I)
noncomputable def BA(g:VS)(z:VZ):VZ:=λδ=>match g δ with
 |some (.nx δ')=>z δ'
 |_=>none
theorem FI(h1:PS X st (V6 K ml g))(h2:WZ X rest (ZS R K ml z)):WZ X (st::rest) (ZS R K ml (BA g z)):=(RU h1 h2).imp λD σ H q0=>by
 obtain⟨B,O,δ,x,δ',S,q,k⟩:=q0;unfold BA at q;split at q
 ·rename_i δ1 hg
  exact⟨B,O,δ,.nx δ1,S,hg,λσ' H' O' S'=>⟨B,O',δ1,x,δ',S',q,k⟩⟩
 ·cases q
theorem WX(h:PS X st (ZS R K ml z)):WZ X (st::rest) (ZS R K ml z):=(RU h C2).imp λ_ _ _ h=>h
noncomputable def zIf(t:VB)(z z':VZ):VZ:=λδ=>(t δ).bind λp=>if p.1=true then z p.2 else z' p.2
theorem Wi{x y:List Ux}{t:VB}(ht:PT X c (TB K ml pc t))(ha:WZ X x (ZS R K ml z))(hb:WZ X y (ZS R K ml z')):PS X (.If c x y pos) (ZS R K ml (zIf t z z')):=(We ht ha hb).imp λD σ H q0=>by
 obtain⟨B,O,δ,x,δ',S,q,k⟩:=q0;unfold zIf at q;cases h1:t δ with
 |none=>rw[h1] at q;cases q
 |some p=>
  obtain⟨kk,δ1⟩:=p;rw[h1] at q;refine⟨B,O,δ,kk,δ1,S,h1,λH1 R1=>?_⟩;cases kk with
  |true=>exact NA ⟨B,O,δ1,x,δ',R1.sta,q,k⟩
  |false=>exact M9 ⟨B,O,δ1,x,δ',R1.sta,q,k⟩
theorem GZ(h:PE X e (ZE R K ml z)):PS X (.Return (some e) pos) (ZS R K ml z):=(GG h).imp λ_ _ _ h=>h
theorem A3{x:Us}{np af p1:Pos}{t:Us}{j:Nat}(hK:X.K=K)(hz:RzM X R)(hc:X.calm=true)(hg:Gl X x)(hx:∃C,XE K x C/\X.mg x=some (.ref C))(hdb:(x==("__debug__":Us))=false:=by decide)(hpl:(Dq af (Uo [.Constant (.str t) j p1] X.env)).any (·.1)=false:=by rfl):PS X (.Raise (some (.Call (.Name x np) [.Constant (.str t) j p1] [] af)) none pos) (ZS R K ml λδ=>some ((x,none),δ)):=by intro aa s σ H D I h;obtain⟨B,O,δ,x',δ',S,q,k⟩:=h;cases q;subst hK;obtain⟨C,hC,hm⟩:=hx;obtain⟨bm,N,nm,q,bs,hdct,sn,sub,ab,col,dd,k0,k1,k2,k3,k5,mN,o1,o2,o3,o4⟩:=CV I.ok.mod.kin hC.exc;refine wpAny_Raise_call_subT (C:=C) (nm:=nm) (q:=q) (N:=N) (bs:=bs) (bm:=bm) (hdct:=hdct) (sn:=sn) (sub:=sub) (ab:=ab) (col:=col) (dd:=dd) (k0:=k0) (k1:=k1) (k2:=k2) (k3:=k3) (k5:=k5) (mN:=mN) Hb (o4.hasType (by decide)) (I.ok.hd hc) hpl o3 (WK I hg hm ⟨rfl,?_⟩ hdb);have pa:PA X [.Constant (.str t) j p1] _:=bD Xy ZO;refine Ek (Bj (pa af aa s σ H (λvs H'=>H'=H/\vs.length=1) I ⟨rfl,rfl⟩) (λus s2 hq=>?_) λ_ _ z=>z);obtain⟨vs,H2,I2,rv,rfl,hl⟩:=hq;have kp:∀b o,X.base.get? b=some o->s2.heap.get? b=some o:=λb o e=>(I2.bs b o e).1;refine⟨rfl,?_,kp _ _ o1,o2.keeps kp,o4.keeps kp,λh' a hm'=>hz aa x C a us σ H2 s2.heap _ hC.xc I2 hm' (k σ H2 O none S trivial)⟩;show us.length<=sizeLine;rw[<-rv.length,hl];decide
theorem eW{x:Us}{kk:Nat}{qs:List Us}{sp:Sp}{ff:Um}{fd:Cu}{p':Pos}{t:TA}{CX:BL}(F:Z7 X.prog X.w X.K X.mg X.base CX kk ff fd qs sp)(hr:Y7 kk X.A)(hg:Gl X x)(hm:X.mg x=some (.ref ff))(hk:Hh X.K (.ref ff)=true)(hb:U2 X.K fd qs [])(ha:PA X (e::es) t)(hdb:(x==("__debug__":Us))=false:=by decide)(he:Uo (e::es) X.env=(false,eval e X.env)::Uo es X.env:=by rfl)(hpl:(Dq pos (Uo es X.env)).any (·.1)=false:=by rfl):PE X (.Call (.Name x p') (e::es) [] pos) (λσ H Q=>t σ H λvs H1=>∃E,(∀(aa:List (Um×Uy)) (s:Ad) (e':Ul) (s':Ad),b9 X aa σ H1 s->CX X.stack H1 s E e' s'->X.xe e' s')/\sp vs H1 Q E):=by
 intro aa s σ H Q I h;refine Eg (WK I hg hm (Jh (h₀:=X.base) I.ok.mod.kin hk (ZD (ha pos aa s σ H _ I h) λus s1 hq=>?_) he hpl) hdb);obtain⟨vs,H1,I1,rv,E,hE,hs⟩:=hq;have hl:us.length=qs.length:=by rw[<-rv.length];exact F.len _ _ _ _ hs
 have hb:=hb s1 us I1.kIn (by simpa using hl);rw[Cw] at hb;refine⟨I1.kIn,Hl (Jg (F.run X.A X.stack s1 H1 ⟨us,[]⟩ us vs Q E hr I1.env0 hb rv hs) λr s' hq=>?_)⟩;cases r with
 |error e'=>exact hE aa s1 e' s' I1 hq
 |ok fl=>cases fl with
  |ret u=>exact I1.after hq
  |next=>cases hq
  |brk=>cases hq
  |cont=>cases hq
def spX(K:Ai)(n:Nat)(XF:List cO->Option Xw):Sp:=λvs H _ E=>∃(Z:Um->Prop) (ds:List cO) (x:Xw),ds.length=n/\Vz K [] Z H vs ds/\XF ds=some x/\∀C H' p,XC K x.1 C->aL H H'->Pay K Z H' p x.2->E (.ref C) p H'
structure M0(P:As)(w:Uu)(K:Ai)(mg:Us->Option Ul)(base:Uw)(x:Us)(k:Nat)(ps:List Us)(XF:List cO->Option Xw)(f:Um):Prop where
 at_:mg x=some (.ref f)
 ok:∃fd,Z7 P w K mg base (G1 P w) k f fd ps (spX K ps.length XF)/\U2 K fd ps []
 kp:Hh K (.ref f)=true
noncomputable def VO:List AV->Option (List cO)
 |[]=>some []
 |.d d::as=>(VO as).map λds=>d::ds
 |.o _::_=>none
theorem ME{N:Um->Prop}:∀{vs:List V} {as:List AV} {ds:List cO},VU K N H σ vs as->VO as=some ds->vs.length=ds.length/\∀(i:Nat) (d:cO),ds[i]?=some d->∃v,vs[i]?=some v/\bB K N H N v d
 |_,_,_,.nil,h=>by cases h;exact⟨rfl,λi d e=>by simp at e⟩
 | _,.d d0 :: as,_,.d r t,h => by
  unfold VO at h;cases e:VO as with
  |none=>rw[e] at h;cases h
  |some ds=>
   rw[e] at h;cases h;obtain⟨h1,h2⟩:=ME t e;refine⟨by simp[h1],λi d q=>?_⟩;cases i with
   |zero=>simp at q;subst q;exact⟨_,rfl,r⟩
   |succ i=>exact h2 i d (by simpa using q)
 |_,.o _::_,_,.o _ _,h=>by cases h
noncomputable def QC(n:Nat)(XF:List cO->Option Xw)(fs:PX):VZ:=λδ=>(fs δ).bind λp=>(VO p.1).bind λds=>if ds.length=n then(XF ds).map λx=>(x,p.2) else none
theorem FE{fs:PX}{XF:List cO->Option Xw}{n:Nat}{Q:VK}(hz:RzF X R)(hK:X.K=K)(hex:X.ex=[])(h:TZ R K ml (QC n XF fs) σ H):FK K ml ps fs σ H λvs H1=>∃E,(∀(aa:List (Um×Uy)) (s:Ad) (e':Ul) (s':Ad),b9 X aa σ H1 s->G1 X.prog X.w X.stack H1 s E e' s'->X.xe e' s')/\spX K n XF vs H1 Q E:=by
 subst hK;obtain⟨B,O,δ,x,δ',S,q,k⟩:=h;unfold QC at q;cases h1:fs δ with
 |none=>rw[h1] at q;cases q
 |some p=>
  obtain⟨as,δ1⟩:=p;rw[h1,Af] at q;cases h2:VO as with
  |none=>rw[h2] at q;cases q
  |some ds=>
   rw[h2,Af] at q;split at q
   ·rename_i hn
    cases h3:XF ds with
    |none=>rw[h3] at q;cases q
    |some x'=>
     rw[h3] at q;cases q;refine⟨B,O,δ,as,δ1,S,h1,λvs H1 G=>⟨λv p H2=>∃x C,v=.ref C/\XC X.K x C/\R x p σ H2,λaa s e' s' I hc=>?_,?_⟩⟩
     ·obtain⟨C,p,H2,os,bare,un,ok,F,x1,C1,hv,hx,hR⟩:=hc
      cases hv;exact hz aa x1 C p σ H2 e' s' s.heap hx (I.call' os un ok bare λb hb=>nomatch hb) F (I.low hex) hR
     ·obtain⟨g1,g2⟩:=ME G.rep h2
      have zp:∀a,Zp (Nn B O) [] vs a->Nn B O a:=λa z=>z.elim id λ⟨i,hi,_⟩=>nomatch hi;refine⟨Nn B O,ds,x,hn,⟨g1,λi hi=>(nomatch hi),λi d _ e=>?_,λi d hi=>(nomatch hi),λi j a hi=>(nomatch hi),λa z=>G.sta.nin z⟩,h3,λC H2 p hx hs hp=>⟨x.1,C,rfl,hx,k σ H2 O p (G.sta.same hs) hp⟩⟩;obtain⟨v,e1,r⟩:=g2 i d e;exact⟨v,e1,r.mono zp zp⟩
   ·cases q
theorem FH{x:Us}{kk j:Nat}{qs:List Us}{XF:List cO->Option Xw}{ff:Um}{p':Pos}{fs:PX}(hz:RzF X R)(hK:X.K=K)(D:M0 X.prog X.w K X.mg X.base x kk qs XF ff)(hr:Y7 j X.A)(hk:kk<=j)(hg:Gl X x)(hex:X.ex=[])(ha:PA X (e::es) (FK K ml ps fs))(hdb:(x==("__debug__":Us))=false:=by decide)(he:Uo (e::es) X.env=(false,eval e X.env)::Uo es X.env:=by rfl)(hpl:(Dq pos (Uo es X.env)).any (·.1)=false:=by rfl):PE X (.Call (.Name x p') (e::es) [] pos) (ZE R K ml (QC qs.length XF fs)):=by obtain⟨fd,F,Bd⟩:=D.ok;subst hK;exact(eW F (hr.mono hk) hg D.at_ D.kp Bd ha hdb he hpl).imp λσ H Q h=>FE hz rfl hex h
end
noncomputable def KS(n:Nat)(z:VZ):List cO->Option Xw:=λds=>(z (bF [] n ds)).map (·.1)
theorem X8.okX{P:As}{w:Uu}{K:Ai}{mg:Us->Option Ul}{base:Uw}{x qual:Us}{st:Ux}{f:Um}{fd:Cu}{N ps:List Us}{k:Nat}{z:VZ}(F:X8 K x qual st f fd)(S:bX N ps (cL st))(hps:ps.length<=N.length)(aq:∀(cdv:Ul) (A:Bt) (outer:List Env) (s:Ad) (H:Hp) (E:XK),Y7 k (A.deeper (envOfC qual (cL st) s.heap.objs.size f cdv))->WZ (TJ (G1 P w) P w K mg base N qual (cL st) f cdv A outer s H E) (aP st) (ZS (rE K E) K [] z)):Z7 P w K mg base (G1 P w) (k+1) f fd ps (spX K ps.length (KS N.length z)):=by
 obtain⟨oc,od,kV,doc,pm,an,cdv,ct,osl,rfl,lk,hcd⟩:=F.ex;refine Wt lk hcd S (λvs H Q E h=>?_) λA outer s H vs Q E hr hsp=>⟨_,aq cdv A outer s H E hr,?_⟩
 ·obtain⟨Z,ds,x,hn,AV,_⟩:=h
  rw[AV.len,hn]
 ·obtain⟨Z,ds,x,hn,AV,hX,hE⟩:=hsp
  obtain⟨mu,hmu,S0⟩:=MO (N:=N) AV (by rw[hn];exact hps);unfold KS at hX;cases h1:z (bF [] N.length ds) with
  |none=>rw[h1] at hX;cases hX
  |some p=>
   obtain⟨x',δ'⟩:=p;rw[h1] at hX;cases hX;exact⟨_,mu,_,x',δ',S0,h1,λσ' H' O' p S' hp C hC=>hE C H' p hC (λb o q=>S'.frm b o q λ⟨i,hi,_⟩=>nomatch hi) (hp.mono λa z=>.inl z)⟩
end L2
namespace L2
open PySem PySem.Spec PyProof.Rows PySem.W PySem.Calls PySem.Builtin PySem.Builtin.ObjectAttr PySem.Builtin.Getset_descriptor
section
variable{prog:As}{w:Uu}{A:Bt}{E:Ul->Ad->Prop}{s:Ad}{K:Vg}{x C:Um}{o:Uy}{R:Tu->Ad->Prop}
theorem dX{tp:Ul}(X:K.In s.heap)(hx:s.heap.get? x=some o)(hc:o.cls=.ref C)(F:XA K C)(h:R (.ok (.ret (.ref C))) s):Jm (Ur prog w) A (.call (.builtin "getset_descriptor.__get__") ⟨[.builtin "object.__class__",.ref x,tp],[]⟩) R s:=by
 obtain⟨hh,g,dr,t,os⟩:=s;have L0:Looks (Ur prog w) hh (Nl (.ref x)) (.ref C):=hc▸(Nd hx).andThen .now;have L1:=looks_mroIn (M:=Ur prog w) X F.mro;refine Fw KF.slot_gs.plain KF.entry_gs (KF.slot_gs.check _ _ _ _ _ _ _ _ KF.type_class (KF.args_gs _ _ _) ?_);unfold Du.«getset_descriptor.__get__» descrGet;rw[dga_obj];refine Aa (Ah ?_);unfold descrGetter descrCheckInstance descrNameAndClass Lg;simp only[KF.owner_class];repeat lk
 refine⟨Ku _ (by decide+kernel),My KF.entry_class ?_⟩;unfold Du.«object.__class__» shownTypeOf;repeat lk
 exact h
theorem B8{tk:Vh}{Q:Fin->Ad->Prop}(X:K.In s.heap)(hx:s.heap.get? x=some o)(hc:o.cls=.ref C)(F:XA K C)(h:Q (.done (.ret (.ref C))) s):Uq (Ur prog w) A (Du.«object.__getattribute__» ⟨[.ref x,.str "__class__" tk],[]⟩) Q E s:=by
 obtain⟨hh,g,dr,t,os⟩:=s;have L0:Looks (Ur prog w) hh (Nl (.ref x)) (.ref C):=hc▸(Nd hx).andThen .now;have L1:=Hn (M:=Ur prog w) X F.cls;have L2:Looks (Ur prog w) hh (getOf (some (.builtin "object.__class__"))) (some (.builtin "getset_descriptor.__get__")):=looks_specialIn X F.get;have L3:=looks_takesIn (M:=Ur prog w) X F.tak;have LF:Looks (Ur prog w) hh (find (.ref x) (.ref C) "__class__") (.bind (.builtin "getset_descriptor.__get__") (.builtin "object.__class__")):=
  L1.andThen (L2.andThen ((show Looks (Ur prog w) hh (dataDescriptor? (some (.builtin "object.__class__")) (some (.builtin "getset_descriptor.__get__"))) (some (.builtin "getset_descriptor.__get__",.builtin "object.__class__")) from L3.andThen .now).andThen (Looks.tag .now)))
 unfold Du.«object.__getattribute__»;repeat (any_goals (first|assumption|with_reducible refine Looks.at L0 ?_|with_reducible refine Looks.at LF ?_|wp_step))
 refine dX (s:=⟨hh,g,dr,t,os⟩) X hx hc F ?_;exact Ah h
theorem eM{tk:Vh}(X:K.In s.heap)(hx:s.heap.get? x=some o)(hc:o.cls=.ref C)(F:XA K C)(h:R (.ok (.ret (.ref C))) s):Jm (Ur prog w) A (.call (.builtin "BaseException.__getattribute__") ⟨[.ref x,.str "__class__" tk],[]⟩) R s:=by
 obtain⟨hh,g,dr,t,os⟩:=s;have L0:Looks (Ur prog w) hh (Nl (.ref x)) (.ref C):=hc▸(Nd hx).andThen .now;have L1:=looks_subIn (M:=Ur prog w) X F.sub;have hk:builtinKind "BaseException.__getattribute__"=some .slot:=by decide+kernel
 have hs:splitId "BaseException.__getattribute__"=some ("BaseException","__getattribute__"):=by decide+kernel
 have ha:=Ng (.ref x) (.str "__class__" tk);refine Fw PySem.F.excAttr_ValueError.ga.plain Mx (Bj (Q:=λ_ s'=>s'=⟨hh,g,dr,t,os⟩) ?_ (λ_ s' z=>?_) λ_ _ z=>z)
 ·simp only[Me,hk,hs]
  unfold Lg;repeat (any_goals (first|rfl|assumption|with_reducible refine Looks.at L0 ?_|with_reducible refine Looks.at L1 ?_|wp_step))
 ·subst z
  refine B8 (s:=⟨hh,g,dr,t,os⟩) X hx hc F ?_;exact h
theorem B7{Q:Option Ul->Ad->Prop}(X:K.In s.heap)(hx:s.heap.get? x=some o)(hc:o.cls=.ref C)(F:XA K C)(h:Q (some (.ref C)) {s with toks:=s.toks+1}):Uq (Ur prog w) A (To (.ref x) "__class__") Q E s:=by
 obtain⟨hh,g,dr,t,os⟩:=s;have L0:Looks (Ur prog w) hh (Nl (.ref x)) (.ref C):=hc▸(Nd hx).andThen .now;have L1:=Hn (M:=Ur prog w) X F.ga;have L2:=Hn (M:=Ur prog w) X F.no;have fb:=PySem.F.excAttr_ValueError.ga.bind (.ref x);unfold To getAttrBy? getAttrBy;refine Aa (Qn (Aa (Lv (Bq (Aa (L0.at (Aa (L1.at ?_))))))));show Uq _ _ (Ki _ _ _ _ _ _) _ _ _;unfold Ki hookBefore callGetattribute boundAndCalled;repeat (any_goals (first|assumption|with_reducible refine Looks.at L0 ?_|with_reducible refine Looks.at L2 ?_|wp_step))
 refine eM (s:=⟨hh,g,dr,t+1,os⟩) X hx hc F ?_;refine handed_on rfl ?_;first|exact h|exact Ah h|exact Ah (Ah h)
theorem HL(F:XA K C)(hdct:(clsIn K C).isSome=true):KitX K (.ref x) (.ref C) (λh=>∃o,h.get? x=some o/\o.cls=.ref C) where
 ty:=λM h _ p=>by obtain⟨o,h1,h2⟩:=p;exact h2▸(Nd h1).andThen .now
 it:=λ_ _ X _=>by
  unfold clsIn at hdct;split at hdct
  ·rename_i ho
   intro A' Q' E' s' k q;unfold isType loadHead;exact Aa (Nt (k _ _ (X _ _ ho)) (Ah q))
  ·cases hdct
 ne:=λh tp dd its n sl X htp=>by
  refine Bool.eq_false_iff.mpr λq=>?_;have e:C=tp:=Value.ref.inj (beq_iff_eq.mp q);subst e;unfold clsIn at hdct;split at hdct
  ·rename_i ho
   have z:=(X _ _ ho).symm.trans htp;cases z
  ·cases hdct
 ca:=λX p k=>by obtain⟨o,h1,h2⟩:=p;exact B7 X h1 h2 F k
end
end L2
namespace L2
open PySem PySem.Spec PyProof.Rows
structure YA(k:Nat)(A:Bt):Prop where
 dp:A.depth+3*k+5<Ey
 un:A.units+16*k+200<cLine
theorem Y7.h{k:Nat}{A:Bt}(r:Y7 k A):YA k A:=⟨r.dp,r.un⟩
theorem YA.mono{j k:Nat}{A:Bt}(r:YA k A)(h:j<=k):YA j A:=⟨by have:=r.dp;lia,by have:=r.un;lia⟩
theorem YA.deeper{k:Nat}{A:Bt}(r:YA (k+1) A)(env:Env):YA k (A.deeper env):=
 ⟨by have:=r.dp;show A.depth+1+3*k+5<_;lia,by have:=r.un;show A.units+3+16*k+200<_;lia⟩
theorem YA.units{k:Nat}{A:Bt}(r:YA k A):A.units+64<cLine:=by have:=r.un;lia
theorem YA.unit{k:Nat}{A:Bt}(r:YA k A):A.units+1<cLine:=by have:=r.un;lia
noncomputable def cxH(P:As)(w:Uu)(K:Ai)(mg:Us->Option Ul)(base:Uw)(N:List Us)(qual:Us)(scope:Vd)(f:Um)(cd:Ul)(A:Bt)(outer:List Env)(s:Ad)(H:Hp):Cx:=
 {TJ CX0 P w K mg base N qual scope f cd A outer s H E0 with calm:=false,xe:=λ_ _=>False}
structure FnH(P:As)(w:Uu)(K:Ai)(mg:Us->Option Ul)(base:Uw)(k:Nat)(f:Um)(fd:Cu)(ps:List Us)(sp:Sp):Prop where
 len:∀vs H Q E,sp vs H Q E->vs.length=ps.length
 run:∀(A:Bt) (outer:List Env) (s:Ad) (H:Hp) (args:Args) (us:List Ul) (vs:List V) (Q:VK),YA k A->BM P w K mg base A outer s H->Po s fd args (ps.zip us)->bE vs us->sp vs H Q E0->
  Jm (Ur P w) A (.call (.ref f) args) (CR CX0 outer P w H s Q E0) s
theorem b9.around{X:Cx}{A':Bt}{aa:List (Um×Uy)}{σ:St}{H:Hp}{s:Ad}{xe:Ul->Ad->Prop}(I:b9 X aa σ H s)(hf:A'.frames=X.A.frames):b9 {X with A:=A',calm:=false,xe:=xe} aa σ H s:=
 ⟨⟨I.ok.mod,I.ok.kind,I.ok.glob,I.ok.blt,I.ok.above,I.ok.inj,I.ok.has,I.ok.cab,λz=>(nomatch z),hf.trans I.ok.frames,I.ok.stk,I.ok.exf,I.ok.bs,I.ok.bsz,I.ok.noex,I.ok.exfs,I.ok.funs,I.ok.frf⟩,I.os,I.bare,I.base,I.loc,I.cell,I.free,I.freeC,I.pin,I.hok,I.len⟩
theorem b9.back{X:Cx}{A':Bt}{aa:List (Um×Uy)}{σ:St}{H:Hp}{s:Ad}{xe:Ul->Ad->Prop}(ok:X.Ok)(I:b9 {X with A:=A',calm:=false,xe:=xe} aa σ H s):b9 X aa σ H s:=
 ⟨ok,I.os,I.bare,I.base,I.loc,I.cell,I.free,I.freeC,I.pin,I.hok,I.len⟩
theorem X8.okH{P:As}{w:Uu}{K:Ai}{mg:Us->Option Ul}{base:Uw}{x qual:Us}{st:Ux}{f:Um}{fd:Cu}{N ps:List Us}{k:Nat}{sp:Sp}(F:X8 K x qual st f fd)(S:bX N ps (cL st))(len:∀vs H Q E,sp vs H Q E->vs.length=ps.length)(aq:∀(cdv:Ul) (A:Bt) (outer:List Env) (s:Ad) (H:Hp) (vs:List V) (Q:VK),YA k (A.deeper (envOfC qual (cL st) s.heap.objs.size f cdv))->sp vs H Q E0->∃t,WZ (cxH P w K mg base N qual (cL st) f cdv A outer s H) (aP st) t/\t {nx:=λ_ H'=>Q .non H',rt:=Q} (start N vs) H):FnH P w K mg base (k+1) f fd ps sp:=by
 obtain⟨oc,od,kV,doc,pm,an,cdv,ct,osl,rfl,lk,hcd⟩:=F.ex;refine⟨len,λA outer s H args us vs Q hr e0 hb r hsp=>?_⟩;have hl:=len _ _ _ _ hsp;have KX:K.In s.heap:=e0.mod.kin.keeps λb o e=>(e0.bs b o e).1;have lim:s.heap.NoLimit:=e0.mod.nolimit.keeps λb o e=>(e0.bs b o e).1;have dz:∀y∈ps.zip us,(cL st).names.lookup y.1=some .local∨((cL st).names.lookup y.1=some .cell/\((Va (s.heap.objs.size+1) (cL st).names []).lookup y.1).isSome=true):=λ⟨n,v⟩ hy=>by
  rcases S.par n (Ia hy).1 with q|q
  ·exact .inl q
  ·exact .inr ⟨q,Mb _ _ _ (.inl q)⟩
 have i8:A.depth<Ey:=by have:=hr.dp;lia
 refine Ji i8 (KX _ _ lk) rfl S.co S.gen rfl (W.codeRec_of KX hcd) (hb _ _ _ _ ?_);refine Ha S.kind dz λenv he s1 x=>?_;subst he;refine⟨lim.keeps x.toInCall.keep,Qi ?_⟩;obtain⟨t,ht,hq⟩:=aq cdv A outer s H vs Q (hr.deeper _) hsp;have e1:BM P w K mg base {A with handled:=none} outer s H:=⟨e0.frames,e0.mod,e0.bs,e0.bsz,e0.funs,e0.frf,e0.hok,e0.bare⟩;have I0:b9 (TJ CX0 P w K mg base N qual (cL st) f cdv {A with handled:=none} outer s H E0) [] (start N vs) H s1:=LW S rfl e1 hl r x;have I:b9 (cxH P w K mg base N qual (cL st) f cdv A outer s H) [] (start N vs) H s1:=I0.around rfl;refine Bj (ht [] s1 (start N vs) H _ I hq) (λfl s' hs=>?_) λe s' hs=>(show False from hs).elim;have fin:∀{σ':St} {H':Hp} {v:V} {u:Ul},b9 (cxH P w K mg base N qual (cL st) f cdv A outer s H) [] σ' H' s'->bS v u->Q v H'->CE outer P w H s Q u s':=
  λ{σ' H' v u} J rv q=>⟨v,H',J.os,J.bare,J.base,J.hok,rv,q⟩
 cases fl with
 |ret u=>
  obtain⟨v,σ',H',J,rv,q⟩:=hs;exact fin J rv q
 |next=>
  obtain⟨σ',H',J,q⟩:=hs;exact fin (v:=V.non) (u:=Value.none) J rfl q
 |brk=>
  obtain⟨_,_,_,q⟩:=hs;cases q
 |cont=>
  obtain⟨_,_,_,q⟩:=hs;cases q
structure DefH(P:As)(w:Uu)(K:Ai)(mg:Us->Option Ul)(base:Uw)(x:Us)(k:Nat)(ps:List Us)(sp:Sp)(f:Um):Prop where
 at_:mg x=some (.ref f)
 ok:∃fd,FnH P w K mg base k f fd ps sp/\U2 K fd ps []
 kp:Hh K (.ref f)=true
section
variable{X:Cx}{K:Ai}{ml:List Nat}{e a b c:Ut}{es:List Ut}{ps:Bool}{pos:Pos}
theorem Wr{x:Us}{kk j n:Nat}{qs:List Us}{mF:List Nat}{F:aS}{ff:Um}{p':Pos}{fs:PX}(D:DefH X.prog X.w K X.mg X.base x kk qs (spV K mF n F) ff)(hr:YA j X.A)(ha:PA X (e::es) (FK K ml ps fs))(hK:X.K=K:=by rfl)(hk:kk<=j:=by decide)(hg:Gl X x:=by rfl)(hdb:(x==("__debug__":Us))=false:=by decide)(he:Uo (e::es) X.env=(false,eval e X.env)::Uo es X.env:=by rfl)(hpl:(Dq pos (Uo es X.env)).any (·.1)=false:=by rfl):PE X (.Call (.Name x p') (e::es) [] pos) (TV K ml (ps&&mF.isEmpty) true true (cA n mF F fs)):=by
 subst hK;obtain⟨fd,F',Bd⟩:=D.ok;refine PE.imp (t:=E8 (spV X.K mF n F) [] E0 (FK X.K ml ps fs)) (λaa s σ H Q I h=>?_) λ_ _ _ h=>K1 h;refine Eg (WK I hg D.at_ (Jh (h₀:=X.base) I.ok.mod.kin D.kp (ZD (ha pos aa s σ H _ I h) λus s1 hq=>?_) he hpl) hdb);obtain⟨vs,H1,I1,rv,hs⟩:=hq;rw[Cw] at hs;have hl:us.length=qs.length:=by rw[<-rv.length];exact F'.len _ _ _ _ hs
 have hb:=Bd s1 us I1.kIn (by simpa using hl);rw[Cw] at hb;refine⟨I1.kIn,Hl (Jg (F'.run X.A X.stack s1 H1 ⟨us,[]⟩ us vs Q (hr.mono hk) I1.env0 hb rv hs) λr s' hq=>?_)⟩;cases r with
 |error e'=>cases hq
 |ok fl=>cases fl with
  |ret u=>exact I1.after hq
  |next=>cases hq
  |brk=>cases hq
  |cont=>cases hq
end
theorem X8.okVH{P:As}{w:Uu}{K:Ai}{mg:Us->Option Ul}{base:Uw}{x qual:Us}{st:Ux}{f:Um}{fd:Cu}{N ps:List Us}{k:Nat}{ml:List Nat}{g:VS}(F:X8 K x qual st f fd)(S:bX N ps (cL st))(hps:ps.length<=N.length)(aq:∀(cdv:Ul) (A:Bt) (outer:List Env) (s:Ad) (H:Hp),YA k (A.deeper (envOfC qual (cL st) s.heap.objs.size f cdv))->WZ (cxH P w K mg base N qual (cL st) f cdv A outer s H) (aP st) (V6 K ml g)):FnH P w K mg base (k+1) f fd ps (spV K ml ps.length (ZH N.length ml g)):=by refine F.okH S (λvs H Q E h=>?_) (λcdv A outer s H vs Q hr h=>⟨_,aq cdv A outer s H hr,Yb (E:=E0) hps h⟩);obtain⟨Z,ds,r,os,hn,AV,_⟩:=h;rw[AV.len,hn]
structure XQ(K:Ai)(C Cp:Um)(r:Bool):Prop where
 ty:W.typeIn K (.ref Cp)=some (.type "type")
 cls:(Sb K Cp).isSome=true
 base:Pz K (.ref Cp) (.type "BaseException")=some true
 sub:Pz K (.ref C) (.ref Cp)=some r
theorem XP.q{K:Ai}{C Cp:Um}(h:XP K C Cp):XQ K C Cp true:=⟨h.ty,h.cls,h.base,h.sub⟩
theorem B9{r:Bool}{prog:As}{w:Uu}{A:Bt}{E:Ul->Ad->Prop}{s:Ad}{K:Ai}{x C Cp:Um}{o:Uy}{Q:Bool->Ad->Prop}(X:K.In s.heap)(hx:s.heap.get? x=some o)(hc:o.cls=.ref C)(F:XQ K C Cp r)(h:Q r s):Uq (Ur prog w) A (excMatches (.ref x) (.ref Cp)) Q E s:=by
 obtain⟨hh,g,dr,t,os⟩:=s;cases r
 all_goals
  have L0:W.Looks (Ur prog w) hh (Nl (.ref x)) (.ref C):=hc▸(W.Looks.ld hx).andThen .now;have L1:=W.looks_typeIn (M:=Ur prog w) X F.ty;have L2:=W.looks_subIn (M:=Ur prog w) X F.base;have L3:=W.looks_subIn (M:=Ur prog w) X F.sub;have L4:W.Looks (Ur prog w) hh (isType (.ref Cp)) true:=by
   have hd:=F.cls;unfold Sb at hd;split at hd
   ·rename_i ho
    intro A' Q' E' s' k q;unfold isType loadHead;exact Aa (Nt (k _ _ (X _ _ ho)) (Ah q))
   ·cases hd
  have f:=tc_notTuple;unfold excMatches isExcClass Lg;repeat (any_goals (first|assumption|with_reducible refine W.Looks.at L0 ?_|with_reducible refine W.Looks.at L1 ?_|with_reducible refine W.Looks.at L2 ?_|with_reducible refine W.Looks.at L3 ?_|with_reducible refine W.Looks.at L4 ?_|wp_step))
def excP(a C:Um):Option Um->Uw->Prop
 |none=>λh=>DP h a C
 |some D=>λh=>Wg h a C D
section
variable{X:Cx}{aa:List (Um×Uy)}{σ:St}{H:Hp}{s:Ad}{h':Uw}{a C:Um}
theorem b9.track{o:Uy}{vs:Array Ul}{p:Option Um}(I:b9 X aa σ H s)(ha:H a=none)(he:s.heap.get? a=some o)(hc:o.cls=.ref C)(hd:o.data=.fields vs)(hdc:o.dict=p)(hs:X.s₀.heap.get? a=none)(hp:∀p∈X.pn++aa,p.1≠a):b9 X aa σ (upd H a (.ext (excP a C p))) s:=by
 have neS:∀b o,X.s₀.heap.get? b=some o->b≠a:=λb o e z=>by rw[z,hs] at e;cases e
 have neH:∀b u,H b=some u->b≠a:=λb u e z=>by rw[z,ha] at e;cases e
 refine⟨I.ok,I.os,I.bare,⟨I.base.keep,I.base.slot,λb o e n hx=>?_,I.base.there,λb xs e=>?_,λb o u e=>?_,λb ps e=>?_⟩,I.loc,I.cell,?_,λx c e=>?_,λp hq=>?_,λb u e=>?_,I.len⟩
 ·rw[bM (neS b o e)];exact I.base.free b o e n hx
 ·have q:=I.base.tups b xs e
  rw[bM (neH b _ q)];exact q
 ·have q:=I.base.frzs b o u e
  rw[bM (neH b _ q)];exact q
 ·obtain⟨more,q⟩:=I.base.tbls b ps e
  exact⟨more,by rw[bM (neH b _ q)];exact q⟩
 ·obtain⟨m,⟨oL,_,_,hoL,hdL,_⟩,_⟩:=I.loc
  have:X.env.locals≠a:=λz=>by rw[z,he] at hoL;cases hoL;rw[hd] at hdL;cases hdL
  rw[bM this];exact I.free
 ·obtain⟨v,oc,hoc,hdc⟩:=I.cell x c e
  have:c≠a:=λz=>by rw[z,he] at hoc;cases hoc;rw[hd] at hdc;cases hdc
  rw[bM this];exact I.freeC x c e
 ·obtain⟨e,n,ne,nf,d⟩:=I.pin p hq
  exact⟨e,by rw[bM (hp p hq)];exact n,ne,nf,d⟩
 ·by_cases hb:b=a
  ·subst hb
   rw[b5] at e;cases e;cases p with
   |none=>exact⟨⟨o,vs,he,hc,hd⟩,⟨o,he⟩,λh1 h2 q k=>by obtain⟨o1,vs1,e1,e2,e3⟩:=q;exact⟨o1,vs1,k o1 e1,e2,e3⟩⟩
   |some D0=>exact⟨⟨o,vs,he,hc,hd,hdc⟩,⟨o,he⟩,λh1 h2 q k=>by obtain⟨o1,vs1,e1,e2,e3,e4⟩:=q;exact⟨o1,vs1,k o1 e1,e2,e3,e4⟩⟩
  ·rw[bM hb] at e
   exact(I.hok b u e).stay (λ_ _ _ q=>q) (λc q=>by rw[bM (neH c _ q)];exact q) λc xs q=>by rw[bM (neH c _ q)];exact q
theorem b9.unbound{m':Us->Option Ul}{t':Nat}(I:b9 X aa σ H s)(ns:h'.Ns X.env.locals m')(sb:Fl X.env.locals s.heap h'):b9 X aa (At X.N.length none) H {s with heap:=h',toks:=t'}:=by
 have neL:∀b o,X.s₀.heap.get? b=some o->b≠X.env.locals:=λb o e=>Au (Av (Aj e) I.ok.above);have neH:∀b u,H b=some u->b≠X.env.locals:=λb u e z=>by rw[z,I.free] at e;cases e
 refine⟨I.ok,I.os,I.bare,⟨λb o e n hb hx=>(sb.2 b (neL b o e)).trans (I.base.keep b o e n hb hx),λb o e n hb hx=>?_,I.base.free,λb o e hx=>?_,I.base.tups,I.base.frzs,I.base.tbls⟩,⟨m',ns,λi x v _ e2 _=>?_⟩,λx c e=>?_,I.free,I.freeC,λp hp=>?_,λb u e=>?_,by simp⟩
 ·obtain⟨sl,e1⟩:=I.base.slot b o e n hb hx
  exact⟨sl,(sb.2 b (neL b o e)).trans e1⟩
 ·obtain⟨o',e1⟩:=I.base.there b o e hx
  exact⟨o',(sb.2 b (neL b o e)).trans e1⟩
 ·rw[Dg] at e2
  split at e2<;>cases e2
 ·obtain⟨v,z⟩:=I.cell x c e
  exact⟨v,z.sameBut sb (I.cne x c e)⟩
 ·obtain⟨e,n,ne,nf,d⟩:=I.pin p hp
  exact⟨(sb.2 p.1 ne).trans e,n,ne,nf,d⟩
 ·refine (I.hok b u e).stay (λc v hc q => (sb.2 c ?_).trans q) (λ_ q => q) λ_ _ q => q
  rcases hc with rfl|hc
  ·exact neH _ u e
  ·exact neH c _ hc
end
theorem Cx.Ok.pns{X:Cx}(ok:X.Ok)(pn:List (Um×Uy))(xe:Ul->Ad->Prop):Cx.Ok {X with pn:=pn,xe:=xe}:=
 ⟨ok.mod,ok.kind,ok.glob,ok.blt,ok.above,ok.inj,ok.has,ok.cab,ok.hd,ok.frames,ok.stk,ok.exf,ok.bs,ok.bsz,ok.noex,ok.exfs,ok.funs,ok.frf⟩
abbrev Cx.hnd(X:Cx)(a:Um):Cx:={X with A:=X.A.mark (some (.ref a)),calm:=false,xe:=λ_ _=>False}
noncomputable def HH:Xw->cO
 |(x,none)=>.exn x
 |(x,some (n,d))=>.exr x n d
section
variable{X:Cx}{K:Ai}{ml:List Nat}{pos:Pos}{g k kA:VS}{z:VZ}
theorem AF{n:Us}{bu:Pos}{b0:Ux}{cf:List Ux}{i:Nat}{aa:List (Um×Uy)}{D:M3}{B:Bs}{O':Nat->Option Um}{δ1 δ2:Ev}{d:cO}{x0:Xw}{C a:Um}{a0:Ul}{p:Option Um}{σ2:St}{H2:Hp}{s':Ad}{gh h5 Bh:Uw}(hN:X.N.Nodup)(hi:X.N[i]?=some n)(hl:X.env.kindOf n=some .local)(him:i∉ml)(hst:X.stack=X.env::X.outer)(hk:∀a,WZ (X.hnd a) (b0::cf) (V6 X.K ml k))(hx:XC X.K x0.1 C)(J':b9 X aa σ2 H2 s')(lo':Low X aa gh)(fl5:Kv Bh (X.env::X.outer) a (.ref C) a0 h5)(dc5:Dc a p h5)(up5:s'.heap.UpToSlots h5)(c1:∀b o,gh.get? b=some o->b∉U0 X.stack->∃o',s'.heap.get? b=some o'/\Bh.get? b=some o')(c2:∀b u,H2 b=some u->∃o,s'.heap.get? b=some o/\Bh.get? b=some o)(S1:aN X.K ml B O' H2 σ2 δ1)(pay:Pay X.K (Nn B O') H2 p x0.2)(h3:k (δ1.set i (.va (HH x0)))=some (.rt d δ2))(post:Post X.K ml B D (.rt d δ2)):Jm (Ur X.prog X.w) (X.A.mark (some (.ref a))) (.handlers (.ref a) [.ExceptHandler none (some n) (b0::cf) bu] X.env) (λr s₂=>match r with
   |.ok f=>Uq (Ur X.prog X.w) X.A (do Je X.env n .none;unbindBehindTheSuite X.env n bu) (λ_ s₃=>SP X aa D f s₃) X.xe s₂
   |.error x=>cameBackBy (Ur X.prog X.w) X.A X.env X.xe x s₂) {s' with heap:=h5}:=by
 refine codeAny_handlers_suite_as (QG (KD.flight _ _) dc5 (lands_againW fl5 λh6 fl6 up6 dc6=>?_));have I6:b9 X aa σ2 H2 {s' with heap:=h6}:=J'.flyG lo' fl6.1 (up5.trans up6) c1 c2;obtain⟨oe,vs,_,_,_,he,hcl,hdt,_⟩:=id fl6.2.2.2;have dct:oe.dict=p:=dc6.at he;have Bn:Bh.get? a=none:=fl6.2.1;have nfr:a∉U0 X.stack:=λhb=>by rw[hst] at hb;obtain⟨_,o',e',nf⟩:=fl6.2.2.1.mem hb;rw[he] at e';cases e';exact nf vs hdt
 have na:∀b o,gh.get? b=some o->b≠a:=λb o e z=>by subst z;obtain⟨o',_,e2⟩:=c1 b o e nfr;rw[Bn] at e2;cases e2
 have ha:H2 a=none:=by
  cases e:H2 a with
  |none=>rfl
  |some u=>
   obtain⟨o',_,e2⟩:=c2 a u e;rw[Bn] at e2;cases e2
 have hs0:X.s₀.heap.get? a=none:=by
  cases e:X.s₀.heap.get? a with
  |none=>rfl
  |some o'=>
   obtain⟨o2,e2⟩:=lo'.s0 a o' e nfr;exact absurd rfl (na a o2 e2)
 have I7:=I6.track (p:=p) (C:=C) ha he hcl.1 hdt dct hs0 λq hq=>by obtain⟨o2,e2⟩:=lo'.pin q hq;exact na _ o2 e2
 have S7:aN X.K ml B O' (upd H2 a (.ext (excP a C p))) σ2 δ1:=S1.same (cJ ha);refine YY (X:=X.hnd a) (I7.around rfl) hN hi (.inl hl) (v:=.ref a) rfl (λs8 I8=>?_) (.inr hl);have rx:∀M,bB X.K (Nn B O') (upd H2 a (.ext (excP a C p))) M (.ref a) (HH x0):=λM=>by
  obtain⟨xn,y⟩:=x0;cases p with
  |none=>
   cases y with
   |none=>exact .exn hx.at_ b5 λh z=>z
   |some y=>exact pay.elim
  |some D0=>
   cases y with
   |none=>exact pay.elim
   |some y=>
    obtain⟨yn,yd⟩:=y;obtain⟨v,e,r⟩:=pay;have nD:D0≠a:=λq=>by rw[q,ha] at e;cases e
    exact .exr hx.at_ b5 (λh z=>z) (by rw[bM nD];exact e) (r.same (cJ ha))
 have S8:=S7.setVa (i:=i) (v:=.ref a) (d:=HH x0) him (rx _);refine Bj (hk a aa s8 _ _ ⟨λ_ _=>False,D.rt,λ_ _=>False,λ_ _=>False⟩ I8 ⟨B,_,_,.rt d δ2,S8,h3,post⟩) (λf s9 hf=>?_) λe s9 he=>(show False from he).elim;cases f with
 |next=>obtain⟨_,_,_,z⟩:=hf;cases z
 |brk=>obtain⟨_,_,_,z⟩:=hf;cases z
 |cont=>obtain⟨_,_,_,z⟩:=hf;cases z
 |ret u=>
  obtain⟨v,σ9,H9,I9,r9,hD⟩:=hf;have I9:=I9.back J'.ok;obtain⟨m,hn,_⟩:=id I9.loc;refine wpAny_nameGoes hl hn (by rw[I9.ok.kind];rfl) λh' m' ns' sb=>?_;exact⟨v,_,H9,I9.unbound ns' sb,r9,hD⟩
noncomputable def IS(g:VS)(z:VZ)(i:Nat)(kk:Us->VS):VS:=λδ=>match g δ with
 |some o=>some o
 | none => match z δ with
  |some (x,δ1)=>match kk x.1 (δ1.set i (.va (HH x))) with
   |some (.rt d δ2)=>some (.rt d δ2)
   |_=>none
  |none=>none
noncomputable def E5(g:VS)(z:VZ)(i:Nat)(cs:List Us)(y:Us)(kA k:VS):VS:=IS g z i λx=>if x∈cs then(if x=y then kA else k) else λ_=>none
structure Ws(X:Cx)(ml:List Nat)(i:Nat)(kk:Us->VS)(aa:List (Um×Uy))(D:M3)(C a:Um)(x:Xw)(s':Ad)(h5:Uw):Prop where
 xc:XC X.K x.1 C
 ex:∃B O' δ1 δ2 d a0 p σ2 H2 gh Bh,b9 X aa σ2 H2 s'/\Low X aa gh/\Kv Bh (X.env::X.outer) a (.ref C) a0 h5/\Dc a p h5/\s'.heap.UpToSlots h5/\(∀b o,gh.get? b=some o->b∉U0 X.stack->∃o',s'.heap.get? b=some o'/\Bh.get? b=some o')∧
  (∀b u,H2 b=some u->∃o,s'.heap.get? b=some o/\Bh.get? b=some o)/\aN X.K ml B O' H2 σ2 δ1/\Pay X.K (Nn B O') H2 p x.2/\kk x.1 (δ1.set i (.va (HH x)))=some (.rt d δ2)/\Post X.K ml B D (.rt d δ2)
theorem pK{body:List Ux}{h0:Pg}{hs:List Pg}{i:Nat}{kk:Us->VS}(hK:X.K=K)(hst:X.stack=X.env::X.outer)(hfr:X.env.frame=some X.env.locals)(hg:WZ X.nox body (V6 K ml g))(hz:∀(pn:List (Um×Uy)) (xe:Ul->Ad->Prop) (R:Us->Option Um->St->Hp->Prop),RzF {X with pn:=pn,xe:=xe} R->WZ {X with pn:=pn,xe:=xe} body (ZS R K ml z))(hh:∀aa D C a x s' h5,Ws X ml i kk aa D C a x s' h5->Uq (Ur X.prog X.w) X.A (handleBy (.ref a) X.env (h0::hs)) (λf s=>SP X aa D f s) X.xe {s' with heap:=h5}):PS X (.Try body (h0::hs) [] [] pos) (V6 K ml (IS g z i kk)):=by
 intro aa s σ H D I h;obtain⟨B,O,δ,o,S,q,post⟩:=h;refine wpAny_Try_except ?_;unfold IS at q;cases h1:g δ with
 |some o'=>
  rw[h1] at q;cases q;refine Bj (hg aa s σ H D (I.wish _) ⟨B,O,δ,o,S,h1,post⟩) (λf s1 hf=>?_) λe s1 he=>(show False from he).elim;have hf:=hf.unwish;cases f with
  |next=>exact Hu hf
  |_=>exact hf
 |none=>
  rw[h1] at q;dsimp only at q;cases h2:z δ with
  |none=>rw[h2] at q;cases q
  |some p=>
   obtain⟨x0,δ1⟩:=p;rw[h2] at q;dsimp only at q;cases h3:kk x0.1 (δ1.set i (.va (HH x0))) with
   |none=>rw[h3] at q;cases q
   |some ok=>
    rw[h3] at q;cases ok with
    |nx _=>cases q
    |bk _=>cases q
    |ct _=>cases q
    |rt d δ2=>
     cases q;subst hK;have I1:∀{xe:Ul->Ad->Prop} {σ:St} {H:Hp} {s:Ad},b9 X aa σ H s->b9 {X with pn:=X.pn++aa,xe:=xe} [] σ H s:=λI=>⟨I.ok.pns _ _,I.os,I.bare,I.base,I.loc,I.cell,I.free,I.freeC,λp hp=>I.pin p (by simpa using hp),I.hok,I.len⟩;have I2:∀{xe:Ul->Ad->Prop} {ps:List (Um×Uy)} {σ:St} {H:Hp} {s:Ad},b9 {X with pn:=X.pn++aa,xe:=xe} ps σ H s->b9 X aa σ H s:=λJ=>⟨I.ok,J.os,J.bare,J.base,J.loc,J.cell,J.free,J.freeC,λp hp=>J.pin p (Bw _ hp),J.hok,J.len⟩;refine Bj (hz (X.pn++aa) _ (λx p σ' H'=>x=x0.1/\∃O',aN X.K ml B O' H' σ' δ1/\Pay X.K (Nn B O') H' p x0.2) (λps x C p σ2 H2 e s' gh hx J F lo hR=>?_) [] s σ H ⟨λ_ _=>False,λ_ _=>False,λ_ _=>False,λ_ _=>False⟩ (I1 I) ⟨B,O,δ,x0,δ1,S,h2,λσ' H' O' p S' hp=>⟨rfl,O',S',hp⟩⟩) (λf s1 hf=>?_) λe s1 he=>he;rotate_left
     ·cases f with
      |next=>obtain⟨_,_,_,z⟩:=hf;cases z
      |brk=>obtain⟨_,_,_,z⟩:=hf;cases z
      |cont=>obtain⟨_,_,_,z⟩:=hf;cases z
      |ret u=>obtain⟨_,_,_,_,_,z⟩:=hf;cases z
     obtain⟨rfl,O',S1,pay⟩:=hR;have J':=I2 J;have lo':Low X aa gh:=⟨lo.s0,λp hp=>lo.pin p (Bw _ hp)⟩;obtain⟨a,a0,Bh,rfl,fl,dc,c1,c2⟩:=F;have fl:Kv Bh (X.env::X.outer) a (.ref C) a0 s'.heap:=hst▸fl;refine QG (KD.note _ _) dc (wpAny_looks_onW (J'.ok.frames.trans (by rw[hst])) hfr fl λh4 hd4 up4 dc4=>QG (KD.flight _ _) dc4 (wpAny_landsW hd4 λh5 fl5 up5 dc5=>?_));exact hh aa D C a x0 s' h5 ⟨hx,B,O',δ1,δ2,d,a0,p,σ2,H2,gh,Bh,J',lo',fl5,dc5,up4.trans up5,c1,c2,S1,pay,h3,post⟩
theorem LM{n yn:Us}{np bu:Pos}{b0:Ux}{cf:List Ux}{rest:List Pg}{i:Nat}{kk:Us->VS}{aa:List (Um×Uy)}{D:M3}{C a Cy:Um}{x:Xw}{s':Ad}{h5:Uw}{r:Bool}(hst:X.stack=X.env::X.outer)(hN:X.N.Nodup)(hi:X.N[i]?=some n)(hl:X.env.kindOf n=some .local)(him:i∉ml)(hg0:Gl X yn)(hm:X.mg yn=some (.ref Cy))(hq:XQ X.K C Cy r)(hdb:(yn==("__debug__":Us))=false)(L:Ws X ml i kk aa D C a x s' h5)(hk:r=true->(∀a,WZ (X.hnd a) (b0::cf) (V6 X.K ml k))/\kk x.1=k)(hr:r=false->Uq (Ur X.prog X.w) X.A (handleBy (.ref a) X.env rest) (λf s=>SP X aa D f s) X.xe {s' with heap:=h5}):Uq (Ur X.prog X.w) X.A (handleBy (.ref a) X.env (.ExceptHandler (some (.Name yn np)) (some n) (b0::cf) bu::rest)) (λf s=>SP X aa D f s) X.xe {s' with heap:=h5}:=by
 obtain⟨hx,B,O',δ1,δ2,d,a0,p,σ2,H2,gh,Bh,J',lo',fl5,dc5,up5,c1,c2,S1,pay,h3,post⟩:=L;have I5:b9 X aa σ2 H2 {s' with heap:=h5}:=J'.flyG lo' fl5.1 up5 c1 c2;have I5h:b9 (X.hnd a) aa σ2 H2 {s' with heap:=h5}:=I5.around rfl;refine wpAny_handleBy_cons (codeAny_handlers_test (WK (X:=X.hnd a) I5h hg0 hm ?_ hdb)) (by intro q;cases q);obtain⟨oe5,vs5,_,_,_,he5,ph,_⟩:=id fl5.2.2.2;refine B9 I5.kIn he5 ph.1 hq ?_;cases r with
 |false=>exact hr rfl
 |true=>
  obtain⟨hk,ek⟩:=hk rfl;rw[ek] at h3;exact AF hN hi hl him hst hk hx J' lo' fl5 dc5 up5 c1 c2 S1 pay h3 post
theorem pF{body:List Ux}{n y:Us}{cs:List Us}{np bu np2 lw:Pos}{b0 b2:Ux}{cf gw:List Ux}{i:Nat}(hK:X.K=K)(hst:X.stack=X.env::X.outer)(hfr:X.env.frame=some X.env.locals)(hN:X.N.Nodup)(hi:X.N[i]?=some n)(hl:X.env.kindOf n=some .local)(him:i∉ml)(hg0:Gl X "PackError")(hm:∀C,Et K Up "PackError"=some (some (.ref C))->X.mg "PackError"=some (.ref C))(hy:Gl X y)(hdy:(y==("__debug__":Us))=false)(hY:∃Cy,X.mg y=some (.ref Cy)/\∀x∈cs,∀C,Et K Up x=some (some (.ref C))->XQ K C Cy (decide (x=y)))(hg:WZ X.nox body (V6 K ml g))(hz:∀(pn:List (Um×Uy)) (xe:Ul->Ad->Prop) (R:Us->Option Um->St->Hp->Prop),RzF {X with pn:=pn,xe:=xe} R->WZ {X with pn:=pn,xe:=xe} body (ZS R K ml z))(hkA:∀a,WZ (X.hnd a) (b0::cf) (V6 K ml kA))(hk:∀a,WZ (X.hnd a) (b2::gw) (V6 K ml k)):PS X (.Try body [.ExceptHandler (some (.Name y np)) (some n) (b0::cf) bu,.ExceptHandler (some (.Name "PackError" np2)) (some n) (b2::gw) lw] [] [] pos) (V6 K ml (E5 g z i cs y kA k)):=by
 subst hK;refine pK rfl hst hfr hg hz λaa D C a x s' h5 L=>?_;obtain⟨Cp,hP⟩:=L.xc.pk;obtain⟨Cy,hmy,hQ⟩:=hY;have hc:x.1∈cs:=by
  obtain⟨_,_,_,_,_,_,_,_,_,_,_,_,_,_,_,_,_,_,_,_,q,_⟩:=L.ex;by_cases z:x.1∈cs
  ·exact z
  ·rw[if_neg z] at q
   cases q
 refine LM (r:=decide (x.1=y)) (k:=kA) hst hN hi hl him hy hmy (hQ _ hc _ L.xc.at_) hdy L (λz=>⟨hkA,by rw[if_pos hc,if_pos (of_decide_eq_true z)]⟩) λz=>?_;exact LM (r:=true) (k:=k) hst hN hi hl him hg0 (hm Cp hP.at_) hP.q (by decide) L (λ_=>⟨hk,by rw[if_pos hc,if_neg (of_decide_eq_false z)]⟩) λz=>nomatch z
end
section
variable{X:Cx}{K:Ai}{ml:List Nat}{e a b c fx:Ut}{es:List Ut}{pa ta ia pb tb ib pf ft fi ps:Bool}{fa fb fe:VF}{B:Bs}{O:Nat->Option Um}{H H1 H':Hp}{σ:St}{δ δ':Ev}{v:V}{d:cO}{pos:Pos}{R:Us->Option Um->St->Hp->Prop}
noncomputable def WS:List cO->Option (List Bool)
 |[]=>some []
 |.bl i::ds=>(WS ds).map λns=>i::ns
 |_=>none
theorem LI{N:Um->Prop}:∀{xs:List V} {ds:List cO} {ns:List Bool},bY K N H xs ds->WS ds=some ns->xs=ns.map V.bl
 |_,_,_,.nil,h=>by cases h;rfl
 | _,_,_,@bY.cons _ _ _ v vs d ds h t,e => by
  cases d with
  |bl k=>
   cases h;have e:(WS ds).map (λks=>k::ks)=some _:=e;cases h2:WS ds with
   |none=>rw[h2] at e;cases e
   |some ks=>
    rw[h2] at e;cases e;rw[LI t h2];rfl
  |_=>cases e
noncomputable def GD(n:Bool):List Bool->Option Nat
 |[]=>none
 |i::ns=>if i=n then some 0 else(GD n ns).map (· +1)
theorem MF{n:Bool}:∀{ns:List Bool} {j:Nat},GD n ns=some j->ns[j]?=some n/\∀m,m<j->ns[m]? ≠some n
 |[],_,h=>by cases h
 | i :: ns,j,h => by
  unfold GD at h;split at h
  ·rename_i hi
   cases h;exact⟨by rw[hi];rfl,λm hm=>absurd hm (Mw _)⟩
  ·rename_i hi
   cases h1:GD n ns with
   |none=>rw[h1] at h;cases h
   |some k=>
    rw[h1] at h;cases h;obtain⟨h2,h3⟩:=MF h1;refine⟨by simpa using h2,λm hm=>?_⟩;cases m with
    |zero=>simpa using hi
    |succ m=>simpa using h3 m (Mj hm)
noncomputable def HJ(n:Bool):Ul->Bool
 |.bool i=>i==n
 |_=>false
theorem NK:∀{ns:List Bool} {us:List Ul},bE (ns.map V.bl) us->us=ns.map Gj
 |[],_,.nil=>rfl
 |i::ns,_,.cons r t=>by rw[NK t];cases r;rfl
def KO(K:Ai):V->List V->Hp->VK->Prop:=λx vs H Q=>∃(l:Um) (ns:List Bool) (n:Bool) (j:Nat),x=.ref l/\vs=[.bl n]/\X6 K H l (ns.map V.bl)/\GD n ns=some j/\Q (.int j) H
def KN(K:Ai):V->List V->Hp->VK->Prop:=λx vs H Q=>∃(l:Um) (ns:List Bool) (n:Bool),x=.ref l/\vs=[.bl n]/\X6 K H l (ns.map V.bl)/\Q (.int (ns.count n:Nat)) H
theorem Yp{us:List Ul}{n:Bool}(r:bE [V.bl n] us):us=[.bool n]:=by
 cases r with
 |cons r t=>cases t;cases r;rfl
theorem CS:MtM X "list.index" (KO X.K):=by
 intro aa s σ H x vs v us Q I rx rv h;obtain⟨l,ns,n,j,rfl,rfl,hq,hj,q⟩:=h;cases rx;obtain rfl:=Yp rv;obtain⟨its,r,⟨o,c,e,hc,hd,aw⟩,hz⟩:=I.list hq;obtain⟨cls,dd,data,sl⟩:=o;simp only at hc hd aw;subst hc hd aw;have hl:=r.length;obtain rfl:=NK r;obtain⟨h1,h2⟩:=MF hj;have hj':j<ns.length:=(Ag.mp h1).1;have hsz:ns.length<=16777216:=by rw[Bx] at hz;rw[<-Bu];exact hz
 refine Gc Py ⟨_,e,rfl⟩ Ox (Ob _ _) (Oy l (ns.map Gj).toArray c none sl (.bool n) (HJ n) j (by simpa using hj') (by lia) ?_ ?_) ⟨e,?_,?_⟩
 ·have : ns[j] = n := by have := Cd hj';rw [h1] at this;exact (Bv this).symm
  simp[HJ,this]
 ·intro m hm hmj
  have hm':m<ns.length:=by simpa using hm
  have:=h2 m hmj;rw[Cd hm'] at this;simp only[List.getElem_toArray,List.getElem_map,HJ];exact beq_eq_false_iff_ne.mpr λz=>this (by rw[z])
 ·intro y hy
  have hy:y∈ns.map Gj:=by simpa using hy
  obtain⟨i,_,rfl⟩:=Cz.mp hy;exact Ni i n
 ·exact⟨.int j,H,I.tok _,⟨_,rfl⟩,q⟩
theorem CP:MtM X "list.count" (KN X.K):=by
 intro aa s σ H x vs v us Q I rx rv h;obtain⟨l,ns,n,rfl,rfl,hq,q⟩:=h;cases rx;obtain rfl:=Yp rv;obtain⟨its,r,⟨o,c,e,hc,hd,aw⟩,hz⟩:=I.list hq;obtain⟨cls,dd,data,sl⟩:=o;simp only at hc hd aw;subst hc hd aw;obtain rfl:=NK r;refine Gc F.slot_list_count ⟨_,e,rfl⟩ F.entry_list_count (F.args_list_count_2 _ _) (SeqAt.list_countAt l (ns.map Gj).toArray c none sl (.bool n) (HJ n)) ⟨e,?_,?_⟩
 ·intro y hy
  have hy:y∈ns.map Gj:=by simpa using hy
  obtain⟨i,_,rfl⟩:=Cz.mp hy;exact Ni i n
 ·have ou:(ns.map Gj).toArray.toList.countP (HJ n)=ns.count n:=by rw[List.toList_toArray,List.countP_map];rfl
  refine⟨.int (ns.count n:Nat),H,I.tok _,⟨s.toks,?_⟩,q⟩;rw[ou]
noncomputable def KG:cO->cO->Option cO
 |.lst ds,.bl n=>(WS ds).bind λns=>(GD n ns).map λj=>.int j
 |_,_=>none
noncomputable def KB:cO->cO->Option cO
 |.lst ds,.bl n=>(WS ds).map λns=>.int (ns.count n:Nat)
 |_,_=>none
theorem Xa{ao af:Pos}{name:Us}{id:String}{r:V->List V->Hp->VK->Prop}{o:cO->cO->Option cO}(hK:X.K=K)(sl:Slot "list" name id)(ty:Nl (.builtin id)=pure (.type "method_descriptor"))(mt:MtM X id r)(ho:∀{x y d:cO},o x y=some d->∃ds n ns i,x=.lst ds/\y=.bl n/\WS ds=some ns/\d=.int i/\∀(H:Hp) (l:Um) (Q:VK),X6 K H l (ns.map V.bl)->Q (.int i) H->r (.ref l) [.bl n] H Q)(ha:PE X a (TV K ml pa ta ia fa))(hb:PE X b (TV K ml pb tb ib fb))(c8:Fo a name X.env (eval a X.env)=eval a X.env:=by rfl)(di:((Dq af (Uo (b::[]) X.env)).all (λx=> !x.1)&&(Ic af (Fc [] X.env)).all (λx=>x.1.isSome)&&decide ((b::([]:List Ut)).length+([]:List Iy).length+(if([]:List Iy).isEmpty then 0 else 1)<30))=true:=by rfl)(bz:(ao.endLine==af.line)=true:=by rfl)(hs:Uo (b::[]) X.env=(false,eval b X.env)::Uo [] X.env:=by rfl)(ax:(Dq af (Uo [] X.env)).any (·.1)=false:=by rfl)(hl:(pb || (ta&&ia))=true:=by rfl):PE X (.Call (.Attribute a name ao) [b] [] af) (TV K ml (pa&&pb) true true (f2 o fa fb)):=
 (kBm (K := K) hK Ii sl ty mt ha (bD hb ZO hs) c8 di bz hs ax).imp λσ H Q q0 => by
  obtain⟨B,O,δ,d,δ2,S,q,k⟩:=q0;obtain⟨x,δ1,y,h1,h2,h3⟩:=R9 q;obtain⟨ds,n,ns,i,rfl,rfl,h4,rfl,h5⟩:=ho h3;refine⟨B,O,δ,_,δ1,S,h1,λv1 H1 R1=>?_⟩;obtain⟨l,xs,rfl,sq,_⟩:=R1.rep.lstE;refine⟨.inl ⟨rfl,xs,sq⟩,B,O,δ1,_,δ2,R1.sta,h2,λv2 H2 R2=>?_⟩;have r2:=R2.rep;cases r2;obtain⟨l',xs',e1,sq',r'⟩:=(R2.live hl R1.rep).lstE;cases e1;have:=LI r' h4;subst this;exact h5 H2 l Q sq' (k _ H2 ⟨R2.sta,R1.frm.trans R2.frm,λz=>by obtain⟨z1,z2⟩:=(Ae _ _).mp z;exact(R1.pur z1).trans (R2.pur z2),.int _⟩)
theorem fW{x y d:cO}(h:KG x y=some d):∃ds n ns i,x=.lst ds/\y=.bl n/\WS ds=some ns/\d=.int i/\∀(H:Hp) (l:Um) (Q:VK),X6 K H l (ns.map V.bl)->Q (.int i) H->KO K (.ref l) [.bl n] H Q:=by
 unfold KG at h;split at h
 ·rename_i ds n
  cases h1:WS ds with
  |none=>rw[h1] at h;cases h
  |some ns=>
   rw[h1,Af] at h;cases h2:GD n ns with
   |none=>rw[h2] at h;cases h
   |some j=>
    rw[h2] at h;cases h;exact⟨ds,n,ns,j,rfl,rfl,h1,rfl,λH l Q sq q=>⟨l,ns,n,j,rfl,rfl,sq,h2,q⟩⟩
 ·cases h
theorem lD{x y d:cO}(h:KB x y=some d):∃ds n ns i,x=.lst ds/\y=.bl n/\WS ds=some ns/\d=.int i/\∀(H:Hp) (l:Um) (Q:VK),X6 K H l (ns.map V.bl)->Q (.int i) H->KN K (.ref l) [.bl n] H Q:=by
 unfold KB at h;split at h
 ·rename_i ds n
  cases h1:WS ds with
  |none=>rw[h1] at h;cases h
  |some ns=>
   rw[h1] at h;cases h;exact⟨ds,n,ns,_,rfl,rfl,h1,rfl,λH l Q sq q=>⟨l,ns,n,rfl,rfl,sq,q⟩⟩
 ·cases h
theorem gL(h:X.K=K):MtM X "list.index" (KO K):=by subst h;exact CS
theorem fE(h:X.K=K):MtM X "list.count" (KN K):=by subst h;exact CP
def rIsx(K:Ai):RC:=λxs H Q=>∃a C φ u k,xs=[.ref a,u]/\H a=some (.ext φ)/\(∀h,φ h->DP h a C)/\XA K C/\(Sb K C).isSome=true/\((∃D,u=.ref D/\Hg K (.ref C) (.ref D)=some k)∨∃n,u=.ty n/\Hg K (.ref C) (.type n)=some k)/\Q (.bl k) H
theorem gC:Z1 X (.builtin "isinstance") (rIsx X.K):=by
 intro aa s σ H xs us Q I r h;obtain⟨a,C,φ,u,k,rfl,hH,hφ,xa,hc,hk,q⟩:=h;obtain⟨v,c,rfl,rx,rc⟩:=JE r;cases rx;obtain⟨o,vs,e1,e2,_⟩:=hφ _ (I.hok a _ hH).1;have fin:∀tk,EP X aa σ Q (.bool k) {s with toks:=tk}:=λtk=>⟨.bl k,H,I.tok tk,rfl,q⟩;rcases hk with⟨D,rfl,hk⟩|⟨n,rfl,hk⟩
 ·cases rc
  exact Fb (HL xa hc) I.kIn ⟨o,e1,e2⟩ hk (λz=>nomatch z) fin
 ·cases rc
  exact Fb (HL xa hc) I.kIn ⟨o,e1,e2⟩ hk (λz=>nomatch z) fin
theorem SK(h:X.K=K):Z1 X (.builtin "isinstance") (rIsx K):=by subst h;exact gC
structure XI(K:Ai)(cs all:List Us):Prop where
 own:∀c∈cs,∃C,XC K c C
 isi:∀c∈cs,∀C,Et K Up c=some (some (.ref C))->∀x∈all,∃D,Et K Up x=some (some (.ref D))/\Hg K (.ref C) (.ref D)=some (decide (c=x))
 val:∀c∈cs,∀C,Et K Up c=some (some (.ref C))->Hg K (.ref C) (.type "ValueError")=some true
 pke:∀c∈cs,∀C,Et K Up c=some (some (.ref C))->∃D,Et K Up "PackError"=some (some (.ref D))/\Hg K (.ref C) (.ref D)=some true
noncomputable def EE(cs all:List Us)(c:Us):cO->Option cO
 |.fn x=>if c∈cs/\x∈all then some (.bl (decide (c=x))) else if c∈cs/\x= "PackError" then some (.bl true) else none
 |.ty n=>if c∈cs/\n= "ValueError" then some (.bl true) else none
 |_=>none
noncomputable def UK(cs all:List Us):cO->cO->Option cO
 |.exn c,y=>EE cs all c y
 |.exr c _ _,y=>EE cs all c y
 |_,_=>none
theorem Yi{cs all:List Us}(F:XI K cs all){N M:Um->Prop}{c0:Us}{C a:Um}{φ:Uw->Prop}{y d:cO}{u:V}{Q:VK}(hn:Et K Up c0=some (some (.ref C)))(hH:H a=some (.ext φ))(hφ:∀h,φ h->DP h a C)(hy:bB K N H M u y)(h:EE cs all c0 y=some d)(k:∀b:Bool,d=.bl b->Q (.bl b) H):rIsx K [.ref a,u] H Q:=by
 unfold EE at h;split at h
 ·rename_i x0
  cases hy with
  |fn hf=>
   split at h
   ·rename_i hm
    cases h;obtain⟨C',hC⟩:=F.own _ hm.1;have:=hn.symm.trans hC.at_;cases this;obtain⟨D,hD,hk⟩:=F.isi _ hm.1 _ hn _ hm.2;have:=hf.symm.trans hD;cases this;exact⟨_,_,_,_,_,rfl,hH,hφ,hC.att,hC.cls,.inl ⟨_,rfl,hk⟩,k _ rfl⟩
   ·split at h
    ·rename_i hm
     cases h;obtain⟨hm,rfl⟩:=hm;obtain⟨C',hC⟩:=F.own _ hm;have:=hn.symm.trans hC.at_;cases this;obtain⟨D,hD,hk⟩:=F.pke _ hm _ hn;have:=hf.symm.trans hD;cases this;exact⟨_,_,_,_,_,rfl,hH,hφ,hC.att,hC.cls,.inl ⟨_,rfl,hk⟩,k _ rfl⟩
    ·cases h
 ·rename_i n0
  cases hy;split at h
  ·rename_i hm
   cases h;obtain⟨hm,rfl⟩:=hm;obtain⟨C',hC⟩:=F.own _ hm;have:=hn.symm.trans hC.at_;cases this;exact⟨_,_,_,_,_,rfl,hH,hφ,hC.att,hC.cls,.inr ⟨_,rfl,F.val _ hm _ hn⟩,k _ rfl⟩
  ·cases h
 ·cases h
theorem WU{cs all:List Us}(F:XI K cs all):NE K (rIsx K) (UK cs all):=by
 intro H N N' M M' x y d e c Q hx hy h k;unfold UK at h;split at h
 ·cases hx with
  |exn hn hH hφ=>exact Yi F hn hH hφ hy h λb e=>k (.bl b) λ_ _ _=>by rw[e];exact .bl b
 ·cases hx with
  |exr hn hH hφ _ _=>exact Yi F hn hH (λh z=>by obtain⟨o,vs,e1,e2,e3,_⟩:=hφ h z;exact⟨o,vs,e1,e2,e3⟩) hy h λb e=>k (.bl b) λ_ _ _=>by rw[e];exact .bl b
 ·cases h
noncomputable def N9(cs:List Us)(nm:Us):cO->Option cO
 |.exr x n d=>if x∈cs/\n=nm then some d else none
 |_=>none
theorem lN{v:V}{u:Ul}(h:bS v u):W.handedIn u=true:=by
 cases v<;>first|(cases h;rfl)|(obtain⟨_,h⟩:=h;cases h;rfl)
theorem mJ{cs:List Us}{nm:Us}(hK:X.K=K)(hG:∀x∈cs,∀C,Et K Up x=some (some (.ref C))->∃Cp,XG K C Cp nm/\XA K C)(ha:PE X a (TV K ml pa ta ia fa))(hb:Fo a nm X.env (eval a X.env)=eval a X.env:=by rfl):PE X (.Attribute a nm pos) (TV K ml pa ia ia (f1 (N9 cs nm) fa)):=by
 subst hK;intro aa s σ H Q I h;obtain⟨B,O,δ,d,δ',S,q,k⟩:=h;obtain⟨x,h1,h2⟩:=QK q;unfold N9 at h2;split at h2
 ·rename_i xn n y
  split at h2
  ·rename_i hc
   cases h2;obtain⟨hc,rfl⟩:=hc;refine cY hb (Bj (ha aa s σ H (λv H1=>∃B O δ',BD X.K ml B O H σ pa ta ia H1 δ' v (.exr xn n d)/\∀v H',BD X.K ml B O H σ pa ia ia H' δ' v d->Q v H') I ⟨B,O,δ,_,δ',S,h1,λv H1 R=>⟨B,O,δ',R,k⟩⟩) (λu s1 hq=>?_) λ_ _ z=>z);obtain⟨v,H1,I1,rv,B,O,δ',R,k⟩:=hq;have r:=R.rep;cases r with
   |exr hn hH hφ hD rp=>
    cases rv;obtain⟨Cp,hXG,hXA⟩:=hG _ hc _ hn;obtain⟨o,vs,e1,e2,e3,e4⟩:=hφ _ (I1.hok _ _ hH).1;obtain⟨mA,ns,hr⟩:=(I1.hok _ _ hD);have hr:=hr n;have el:∀y:V,Hj n [(n,y)]=some y:=λy=>by unfold Hj;rw[beq_self_eq_true]
    rw[el] at hr;cases hm:mA n with
    |none=>rw[hm] at hr;cases hr
    |some u=>
     rw[hm] at hr;have hr:bS _ u:=hr;exact lH I1.kIn e1 e2 e3 e4 ns hm (lN hr) hXG hXA ⟨_,H1,I1.tok _,hr,k _ H1 ⟨R.sta,R.frm,R.pur,rp.mono (λ_ z=>z) Vs⟩⟩
  ·cases h2
 ·cases h2
theorem kO{tf:TE}{t:TA}(hf:PE X fx tf)(ha:PA X (e::es) t)(hc:eval (.Call fx (e::es) [] pos) X.env=(do Pb pos (<-eval fx X.env) [] (Dq pos (Uo (e::es) X.env)) (Ic pos (Fc [] X.env))):=by rfl)(he:Uo (e::es) X.env=(false,eval e X.env)::Uo es X.env:=by rfl)(hpl:(Dq pos (Uo es X.env)).any (·.1)=false:=by rfl):PE X (.Call fx (e::es) [] pos) (kW X tf t):=by intro aa s σ H Q I h;rw[hc];refine Aa (ZD (hf aa s σ H _ I h) λu s1 ⟨x,H1,I1,rx,f,sp,ex,F,q⟩=>?_);subst ex;obtain rfl:u=Ba f:=rx;obtain⟨k,fd,qs,F,hr,hk,hb⟩:=F;refine Jh (h₀:=X.base) I.ok.mod.kin hk (ZD (ha pos aa s1 σ H1 _ I1 q) λus s2 ⟨vs,H2,I2,r,q2⟩=>⟨I2.kIn,Yh (dvs:=[]) (ds:=[]) F hr hb .nil Wd I2 r ?_⟩) he hpl;rwa[Cw]
noncomputable def NT(n:Nat)(mF:List Nat)(tb:List (Us×aS))(fe:VF)(fs:PX):VF:=λδ=>match fe δ with
 |some (.fn x,δ1)=>(OQ tb x).bind λF=>cA n mF F fs δ1
 |_=>none
theorem AO{n:Nat}{mF:List Nat}{tb:List (Us×aS)}{fs:PX}(ht:DS X K mF n tb)(hf:PE X fx (TV K ml pf ft fi fe))(ha:PA X (e::es) (FK K ml ps fs))(hc:eval (.Call fx (e::es) [] pos) X.env=(do Pb pos (<-eval fx X.env) [] (Dq pos (Uo (e::es) X.env)) (Ic pos (Fc [] X.env))):=by rfl)(he:Uo (e::es) X.env=(false,eval e X.env)::Uo es X.env:=by rfl)(hpl:(Dq pos (Uo es X.env)).any (·.1)=false:=by rfl):
  PE X (.Call fx (e::es) [] pos) (TV K ml false true true (NT n mF tb fe fs)):=(kO hf ha hc he hpl).imp λσ H Q h=>by
 obtain⟨B,O,δ,d,δ',S,q,k⟩:=h;unfold NT at q;split at q
 ·rename_i x δ1 hx
  cases hF:OQ tb x with
  |none=>rw[hF] at q;cases q
  |some F=>
   rw[hF] at q;refine⟨B,O,δ,_,δ1,S,hx,λv H1 R1=>?_⟩;have r:=R1.rep;cases r with
   |fn h=>
    refine⟨_,_,rfl,ht x F _ hF h,?_⟩;obtain⟨B',O',δ2,as,δ3,S',q',k'⟩:=K1 (F:=F) (fs:=fs) (K:=K) (ml:=ml) (ps:=ps) (n:=n) (mF:=mF) (σ:=σ) (H:=H1) (Q:=Q) ⟨B,O,δ1,d,δ',R1.sta,q,λv H' R'=>k v H' ⟨R'.sta,R1.frm.trans R'.frm,(λz=>nomatch z),R'.rep⟩⟩;exact⟨B',O',δ2,as,δ3,S',q',λvs H' R=>by have z:spV K mF n F (vs++[]) H' Q E0:=k' vs H' R;rwa[Cw] at z⟩
 ·cases q
noncomputable def SU:List (Us×(List cO->Option Xw))->Us->Option (List cO->Option Xw)
 |[],_=>none
 |(y,F)::r,x=>if y=x then some F else SU r x
def TabX(X:Cx)(K:Ai)(n:Nat)(tb:List (Us×(List cO->Option Xw))):Prop:=∀x F a,SU tb x=some F->Et K Up x=some (some (.ref a))->
 ∃(k:Nat) (fd:Cu) (qs:List Us),Z7 X.prog X.w X.K X.mg X.base (G1 X.prog X.w) k a fd qs (spX K n F)/\Y7 k X.A/\Hh X.K (.ref a)=true/\U2 X.K fd qs []
theorem AH{n:Nat}:TabX X K n []:=λ_ _ _ h=>nomatch h
theorem MR{x:Us}{kk j:Nat}{qs:List Us}{F:List cO->Option Xw}{ff:Um}{tb:List (Us×(List cO->Option Xw))}(hK:X.K=K)(hm:∀x a,Et K Up x=some (some (.ref a))->X.mg x=some (.ref a))(hr:Y7 j X.A)
  (D:M0 X.prog X.w K X.mg X.base x kk qs F ff) (hk:kk<=j) (t:TabX X K qs.length tb):TabX X K qs.length ((x,F)::tb):=λy G a h1 h2=>by
 unfold SU at h1;split at h1
 ·rename_i hxy
  subst hxy;cases h1;have e:=(hm x a h2).symm.trans D.at_;cases e;subst hK;obtain⟨fd,F,Bd⟩:=D.ok;exact⟨kk,fd,qs,F,hr.mono hk,D.kp,Bd⟩
 ·exact t y G a h1 h2
noncomputable def OZ(n:Nat)(tb:List (Us×(List cO->Option Xw)))(fe:VF)(fs:PX):VZ:=λδ=>match fe δ with
 |some (.fn x,δ1)=>(SU tb x).bind λF=>QC n F fs δ1
 |_=>none
theorem A2{n:Nat}{tb:List (Us×(List cO->Option Xw))}{fs:PX}(hz:RzF X R)(hK:X.K=K)(hex:X.ex=[])(ht:TabX X K n tb)(hf:PE X fx (TV K ml pf ft fi fe))(ha:PA X (e::es) (FK K ml ps fs))(hc:eval (.Call fx (e::es) [] pos) X.env=(do Pb pos (<-eval fx X.env) [] (Dq pos (Uo (e::es) X.env)) (Ic pos (Fc [] X.env))):=by rfl)(he:Uo (e::es) X.env=(false,eval e X.env)::Uo es X.env:=by rfl)(hpl:(Dq pos (Uo es X.env)).any (·.1)=false:=by rfl):PE X (.Call fx (e::es) [] pos) (ZE R K ml (OZ n tb fe fs)):=by
 intro aa s σ H Q I h;obtain⟨B,O,δ,x0,δ',S,q,k⟩:=h;unfold OZ at q;split at q
 ·rename_i x δ1 hx
  cases hF:SU tb x with
  |none=>rw[hF] at q;cases q
  |some XF=>
   rw[hF,Af] at q;rw[hc];refine Aa (ZD (hf aa s σ H (λv H1=>∃a,v=.ref a/\Et K Up x=some (some (.ref a))/\aN K ml B O H1 σ δ1) I ⟨B,O,δ,_,δ1,S,hx,λv H1 R1=>?_⟩) λu s1 hq=>?_)
   ·have r:=R1.rep
    cases r with
    |fn h=>exact⟨_,rfl,h,R1.sta⟩
   ·obtain⟨v,H1,I1,rx,a,rfl,hn,S1⟩:=hq
    obtain rfl:u=Ba a:=rx;obtain⟨kk,fd,qs,F,hr,hkp,hb⟩:=ht x XF a hF hn;refine Jh (h₀:=X.base) I.ok.mod.kin hkp (ZD (ha pos aa s1 σ H1 _ I1 (FE (ps:=ps) (Q:=Q) hz hK hex ⟨B,O,δ1,x0,δ',S1,q,k⟩)) λus s2 hq=>?_) he hpl;obtain⟨vs,H2,I2,rv,E,hE,hs⟩:=hq;have hl:us.length=qs.length:=by rw[<-rv.length];exact F.len _ _ _ _ hs
    have hb:=hb s2 us I2.kIn (by simpa using hl);rw[Cw] at hb;refine⟨I2.kIn,Hl (Jg (F.run X.A X.stack s2 H2 ⟨us,[]⟩ us vs Q E hr I2.env0 hb rv hs) λr s' hq=>?_)⟩;cases r with
    |error e'=>exact hE aa s2 e' s' I2 hq
    |ok fl=>cases fl with
     |ret u=>exact I2.after hq
     |next=>cases hq
     |brk=>cases hq
     |cont=>cases hq
 ·cases q
end
end L2
namespace L2
open PySem PySem.Spec PyProof.Rows PySem.W
theorem F3{K:Vg}{h:Uw}{N:Um}{m:Us->Option Ul}{n:Us}{v:Ul}(X:K.In h)(G:h.Ns N m)(e:nsIn K N n=some (some v)):m n=some v:=by
 obtain⟨o,es,ep,ho,hd,_,hf⟩:=G;unfold nsIn at e;split at e
 ·rename_i c d es' n' sl q
  have:=X _ _ q;rw[ho] at this;cases this;cases hd;split at e
  ·rename_i he
   cases e;rw[<-hf];unfold nsFind findBy;rw[<-Oo,he];rfl
  ·split at e<;>cases e
 ·cases e
noncomputable def excI(K:Vg)(C fI:Um):Bool:=match K.lookup C with
 |some ⟨.type "type",_,.cls cd,sl⟩=>(match cd.mro,sl.toList with
  |.ref C'::bm,[_,_,_,_,some (.builtin n),_]=>C'==C&&(n== "ValueError.__new__"&&(!cd.hasDel&&(tailIn K AN bm&&(nsOkIn K cd.ns&&nsIn K cd.ns "__init__"==some (some (.ref fI))))))
  |_,_=>false)
 |_=>false
theorem gO{K:Vg}{h:Uw}{C fI:Um}(X:K.In h)(q:excI K C fI=true):∃bm N nm q bs hdct sn sub ab col dd k0 k1 k2 k3 k5 mN,h.get? C=some (Gr nm q C N bs bm hdct sn sub ab col dd k0 k1 k2 k3 k5 "ValueError.__new__")/\h.Ns N mN/\mN "__init__"=some (.ref fI)/\Of h AN bm:=by
 unfold excI at q;split at q
 ·rename_i dd cd sl ho;split at q
  ·rename_i C' bm k0 k1 k2 k3 n k5 hm hs
   simp only[Ae,beq_iff_eq,Qc] at q;obtain⟨rfl,rfl,i9,ht,hok,hni⟩:=q;obtain⟨nm,bs,mro,ns,qn,hd,sn,sub,ab,col,del⟩:=cd;dsimp only at hm i9 hok hni;subst hm i9;obtain⟨sl⟩:=sl;simp only at hs;subst hs;have G:=Heap.Ns.of_isNs (isNs_of_in X hok);exact⟨bm,ns,nm,qn,bs,hd,sn,sub,ab,col,dd,k0,k1,k2,k3,k5,_,X _ _ ho,G,F3 X G hni,tail_of_in X ht⟩
  ·cases q
 ·cases q
structure XZ(K:Vg)(x nm:Us)(C:Um):Prop where
 xc:XC K x C
 mak:∃Cp fI qual st txt fd,nsIn K Up "PackError"=some (some (.ref Cp))/\excI K C fI=true/\typeIn K (.ref fI)=some (.type "function")/\K8 K qual st nm txt fI fd/\XG K C Cp nm/\XH K Cp
noncomputable def PR(x nm:Us)(fs:PX):VZ:=λδ=>(fs δ).bind λp=>match p.1 with
 |[.d d]=>some ((x,some (nm,d)),p.2)
 |_=>none
section
variable{X:Cx}{K:Vg}{ml:List Nat}{R:Us->Option Um->St->Hp->Prop}{pos:Pos}
theorem DN{x nm:Us}{np af:Pos}{e:Ut}{ps:Bool}{fs:PX}{j:Nat}(hK:X.K=K)(hz:RzP X R)(hc:X.calm=true)(hr:Y7 j X.A)(hg:Gl X x)(hx:∃C,XZ K x nm C/\X.mg x=some (.ref C))(hm:∀C,nsIn K Up "PackError"=some (some (.ref C))->X.mg "PackError"=some (.ref C))(ha:PA X [e] (FK K ml ps fs))(hdb:(x==("__debug__":Us))=false:=by decide)(he:Uo [e] X.env=[(false,eval e X.env)]:=by rfl):PS X (.Raise (some (.Call (.Name x np) [e] [] af)) none pos) (ZS R K ml (PR x nm fs)):=by
 intro aa s σ H D I h;obtain⟨B,O,δ,x',δ',S,q,k⟩:=h;subst hK;unfold PR at q;cases h1:fs δ with
 |none=>rw[h1] at q;cases q
 |some p=>
  obtain⟨as,δ1⟩:=p;rw[h1,Af] at q;dsimp only at q;split at q
  ·rename_i d
   cases q;obtain⟨C,hC,hmC⟩:=hx;obtain⟨Cp,fI,qual,st,txt,fd,hPk,hE,hf,hI,hG,hH⟩:=hC.mak;obtain⟨bm,N,nm',q,bs,hdct,sn,sub,ab,col,dd,k0,k1,k2,k3,k5,mN,o1,o2,o3,o4⟩:=gO I.ok.mod.kin hE;have tr:Dq af (Uo [e] X.env)=[(false,eval e X.env)]:=by rw[he];rfl
   refine CA (C:=C) (cn:=nm') (q:=q) (N:=N) (bs:=bs) (bm:=bm) (hdct:=hdct) (sn:=sn) (sub:=sub) (ab:=ab) (col:=col) (dd:=dd) (k0:=k0) (k1:=k1) (k2:=k2) (k3:=k3) (k5:=k5) (mN:=mN) (mg:=X.mg) (Cp:=Cp) (fI:=fI) (K:=X.K) (nm:=nm) (qual:=qual) (st:=st) (txt:=txt) (fd:=fd) (o4.hasType (by decide)) (I.ok.hd hc) (by have:=hr.dp;lia) (by rw[tr];rfl) (WK I hg hmC ⟨rfl,?_⟩ hdb);rw[tr];refine Ek ?_;rw[<-tr];refine Bj (ha af aa s σ H (λvs H'=>aN X.K ml B O H' σ δ'/\VU X.K (Nn B O) H' σ vs [.d d]) I ⟨B,O,δ,_,δ',S,h1,λvs H' G=>⟨G.sta,G.rep⟩⟩) (λus s2 hq=>?_) λ_ _ z=>z;obtain⟨vs,H2,I2,rv,S2,rg⟩:=hq;cases rg with
   |d r t=>
    cases t;obtain⟨u,rfl,ru⟩:∃u,us=[u]/\bS _ u:=by
     cases rv with
     |cons a b=>cases b;exact⟨_,rfl,a⟩
    have kp:∀b o,X.base.get? b=some o->s2.heap.get? b=some o:=I2.bk;refine⟨u,rfl,I2.kIn,I2.nolimit,I2.mod.glob.keeps kp,hm Cp hPk,kp _ _ o1,o2.keeps kp,o3,hf,o4.keeps kp,hI,hG,hH,λh' a tk M=>hz aa x nm C a _ u σ H2 s2.heap _ hC.xc (I2.tok tk) M ru λD hD=>?_⟩;exact k σ _ O (some D) (S2.same (cJ hD)) ⟨_,b5,r.same (cJ hD)⟩
  ·cases q
theorem A1{x:Us}{ff:Um}{p':Pos}{e:Ut}{es:List Ut}{z:VZ}(hg:Gl X x)(hm:X.mg x=some (.ref ff))(hk:Hh X.K (.ref ff)=true)(h:PE X e (ZE R K ml z))(hdb:(x==("__debug__":Us))=false:=by decide)(he:Uo (e::es) X.env=(false,eval e X.env)::Uo es X.env:=by rfl)(hpl:(Dq pos (Uo es X.env)).any (·.1)=false:=by rfl):PE X (.Call (.Name x p') (e::es) [] pos) (ZE R K ml z):=by intro aa s σ H Q I hz;refine Eg (WK I hg hm (Jh (h₀:=X.base) I.ok.mod.kin hk ?_ he hpl) hdb);rw[he];show Uq _ _ (spliced ((false,eval e X.env)::Dq pos (Uo es X.env))) _ _ _;exact Ef (Bj (h aa s σ H (λ_ _=>False) I hz) (λu s1 ⟨_,_,_,_,f⟩=>f.elim) λ_ _ z=>z)
end
end L2
namespace L2
open PySem PySem.Spec PyProof.Rows
theorem CC(l b:Um)(u v:Array Ul)(n m:Nat)(sl:Array (Option Ul))(h0:¬(!u.isEmpty&&Gb (u.size+v.size))=true)(h1:u.size<=sizeLine)(h2:(u++v).size<=sizeLine+1):Meets (Du.«list.extend» ⟨[.ref l,.ref b],[]⟩) (λ_ R s=>s.heap.get? l=some ⟨.type "list",none,.seq u n,#[]⟩/\s.heap.get? b=some ⟨.type "list",none,.seq v m,sl⟩/\R (.ok (.ret .none)) {s with heap:=s.heap.update l (Fj λx=>x++v)}):=
 .of_wp λprog w A R s h=>by
  obtain⟨hp,g,d,tk,os⟩:=s;obtain⟨hl,hb,h⟩:=h;have f1:=Mf;have f2:=AutoSeq1.sub_tuple_tuple;have f3:=AutoSeq1.sub_list_list;have f4:=AutoSeq1.sub_tuple_list;have f5:=AutoSeq1.sub_list_tuple;wp_walk using(wpAny_updateSeq hl rfl (hz:=h1) (_hz':=h2)),Cm hl,Cm hb
  exact⟨_,rfl,h⟩
def Vn(K:Ai):V->List V->Hp->VK->Prop:=λx vs H Q=>∃l b xs zs,x=.ref l/\vs=[.ref b]/\H l=some (.lst xs)/\X6 K H b zs/\xs.length+zs.length<=sizeLine/\Q .non (upd H l (.lst (xs++zs)))
theorem dD{X:Cx}:MtM X "list.extend" (Vn X.K):=by
 intro aa s σ H x vs v us Q I rx rv h;obtain⟨l,b,xs,zs,rfl,rfl,hH,hB,hz,q⟩:=h;cases rx;obtain⟨u,rfl,ru⟩:=rv.one;cases ru;obtain⟨z,its,n,r,hl,e⟩:=I.lstM hH;obtain⟨dh,r2,⟨⟨cls,dd,data,sl⟩,n2,e2,hc,hd,aw⟩,_⟩:=I.list hB;simp only at hc hd aw;subst hc hd aw;have hl2:=r2.length;have hsz:its.toArray.size+dh.toArray.size<=sizeLine:=by rw[Am,Am];lia
 refine Gc F.slot_list_extend ⟨_,e,rfl⟩ F.entry_list_extend (F.args_list_extend_2 _ _) (CC l b its.toArray dh.toArray n n2 sl (by rw[pI hsz,Sq];exact Dr) (by rw[Am];lia) (by rw[Array.size_append];lia)) ⟨e,e2,?_⟩
 refine⟨.non,_,I.lset (its':=its++dh) hH e (by simp) (r.append r2) ?_,rfl,q⟩;rw[Cf];lia
theorem Vj{X:Cx}{K:Ai}(h:X.K=K):MtM X "list.extend" (Vn K):=by subst h;exact dD
noncomputable def mExt:List cO->List cO->Option (List cO)
 |ds,[.lst es]=>if ds.length+es.length<=16777216 then some (ds++es) else none
 |_,_=>none
theorem FX{K:Ai}:MuV K (Vn K) mExt:=by
 intro H N l xs vs ds es ds' Q hl hN rx re h k;cases re with
 |nil=>cases h
 | @cons v vs d es hd t=>
  cases t with
  |cons _ _=>cases d<;>cases h
  |nil=>
   cases d with
   |lst es=>
    simp only[mExt] at h;split at h
    ·rename_i hz
     cases h;obtain⟨b,zs,rfl,sq,r⟩:=hd.lstE;exact⟨l,b,xs,zs,rfl,rfl,hl,sq,by rw[rx.length,r.length,Bu];exact hz,k _ _ (rx.append r)⟩
    ·cases h
   |_=>cases h
theorem M6:Be "ValueError"=some (.type "ValueError"):=by decide+kernel
theorem YA.mark{k:Nat}{A:Bt}(r:YA k A)(h:Option Ul):YA k (A.mark h):=⟨r.dp,r.un⟩
noncomputable def xiOk(K:Ai)(cs all:List Us):Bool:=cs.all λc=>match Et K Up c with
 |some (some (.ref C))=>all.all (λx=>match Et K Up x with
  |some (some (.ref D))=>Hg K (.ref C) (.ref D)==some (decide (c=x))
  |_=>false)&&(Hg K (.ref C) (.type "ValueError")==some true&&match Et K Up "PackError" with
  |some (some (.ref D))=>Hg K (.ref C) (.ref D)==some true
  |_=>false)
 |_=>false
theorem XI.of{K:Ai}{cs all:List Us}(own:∀c∈cs,∃C,XC K c C)(h:xiOk K cs all=true):XI K cs all:=by
 have key:∀c∈cs,∀C,Et K Up c=some (some (.ref C))->(∀x∈all,∃D,Et K Up x=some (some (.ref D))/\Hg K (.ref C) (.ref D)=some (decide (c=x)))/\Hg K (.ref C) (.type "ValueError")=some true/\∃D,Et K Up "PackError"=some (some (.ref D))/\Hg K (.ref C) (.ref D)=some true:=by
  intro c hc C hn;have:=Fk.mp h c hc;rw[hn] at this;simp only[Ae,beq_iff_eq] at this;refine⟨λx hx=>?_,this.2.1,?_⟩;rotate_left
  ·have h2:=this.2.2
   split at h2
   ·rename_i D hD
    exact⟨D,hD,beq_iff_eq.mp h2⟩
   ·cases h2
  have h2:=Fk.mp this.1 x hx;split at h2
  ·rename_i D hD
   exact⟨D,hD,beq_iff_eq.mp h2⟩
  ·cases h2
 exact⟨own,λc hc C hn=>(key c hc C hn).1,λc hc C hn=>(key c hc C hn).2.1,λc hc C hn=>(key c hc C hn).2.2⟩
noncomputable def xqOk(K:Ai)(cs:List Us)(y:Us)(Cy:Um):Bool:=W.typeIn K (.ref Cy)==some (.type "type")&&((Sb K Cy).isSome&&(Pz K (.ref Cy) (.type "BaseException")==some true&&cs.all λc=>match Et K Up c with
 |some (some (.ref C))=>Pz K (.ref C) (.ref Cy)==some (decide (c=y))
 |_=>false))
theorem XQ.of{K:Ai}{cs:List Us}{y:Us}{Cy:Um}(h:xqOk K cs y Cy=true):∀x∈cs,∀C,Et K Up x=some (some (.ref C))->XQ K C Cy (decide (x=y)):=by intro x hx C hn;unfold xqOk at h;simp only[Ae,beq_iff_eq] at h;have h2:=Fk.mp h.2.2.2 x hx;rw[hn] at h2;exact⟨h.1,h.2.1,h.2.2.1,beq_iff_eq.mp h2⟩
theorem eR{K:Ai}{mg:Us->Option Ul}{x nm:Us}(h:∃C,XZ K x nm C/\mg x=some (.ref C)):∀y∈[x],∀C,Et K Up y=some (some (.ref C))->∃Cp,XG K C Cp nm/\XA K C:=by intro y hy C hn;obtain⟨C',hz,_⟩:=h;cases Az.mp hy;have:=hn.symm.trans hz.xc.at_;cases this;obtain⟨Cp,_,_,_,_,_,_,_,_,_,hG,_⟩:=hz.mak;exact⟨Cp,hG,hz.xc.att⟩
theorem Vp{P:As}{w:Uu}{K:Ai}{mg:Us->Option Ul}{base h:Uw}{x:Us}{st:Ux}{f:Um}{ps:List Us}{XF:List cO->Option Xw}{k:Nat}(X:K.In h)(G:h.Ns Up mg)(p:A4 K x st f)(ok:∀{fd:Cu},X8 K x x st f fd->Z7 P w K mg base (G1 P w) k f fd ps (spX K ps.length XF))(hb:∀{kV doc pm:Ul} {an:Option Um} {cdv ct:Ul} (us:List Ul),us.length=ps.length->Rg (Mc x x (YR st) (aP st) (cL st) .none kV doc pm an cdv ct) ⟨us,[]⟩=pure (ps.zip us)):M0 P w K mg base x k ps XF f:=by obtain⟨oc,od,kV,doc,pm,an,cdv,ct,osl,a,b,c,d⟩:=p;have U:=J3 (st:=st) b c d;exact⟨Dx X G a,⟨_,ok U,U.binds λ_ _ _ _ _ _=>hb⟩,d⟩
theorem cX{P:As}{w:Uu}{K:Ai}{mg:Us->Option Ul}{base h:Uw}{x:Us}{st:Ux}{f:Um}{ps:List Us}{sp:Sp}{k:Nat}(X:K.In h)(G:h.Ns Up mg)(p:A4 K x st f)(ok:∀{fd:Cu},X8 K x x st f fd->FnH P w K mg base k f fd ps sp)(hb:∀{kV doc pm:Ul} {an:Option Um} {cdv ct:Ul} (us:List Ul),us.length=ps.length->Rg (Mc x x (YR st) (aP st) (cL st) .none kV doc pm an cdv ct) ⟨us,[]⟩=pure (ps.zip us)):DefH P w K mg base x k ps sp f:=by obtain⟨oc,od,kV,doc,pm,an,cdv,ct,osl,a,b,c,d⟩:=p;have U:=J3 (st:=st) b c d;exact⟨Dx X G a,⟨_,ok U,U.binds λ_ _ _ _ _ _=>hb⟩,d⟩
theorem okZ(P:As)(w:Uu)(K:Ai)(mg:Us->Option Ul)(base:Uw){x qual:Us}{st:Ux}{f:Um}{fd:Cu}(N ps:List Us)(k:Nat)(z:VZ)(F:X8 K x qual st f fd)(S:bX N ps (cL st))(aq:∀(cdv:Ul) (A:Bt) (outer:List Env) (s:Ad) (H:Hp) (E:XK) (hr:Y7 k (A.deeper (envOfC qual (cL st) s.heap.objs.size f cdv))) (_:(A.deeper (envOfC qual (cL st) s.heap.objs.size f cdv)).units+64<cLine) (_:(A.deeper (envOfC qual (cL st) s.heap.objs.size f cdv)).units+1<cLine),WZ (TJ (G1 P w) P w K mg base N qual (cL st) f cdv A outer s H E) (aP st) (ZS (rE K E) K [] z))(hps:ps.length<=N.length:=by decide):Z7 P w K mg base (G1 P w) (k+1) f fd ps (spX K ps.length (KS N.length z)):=
 X8.okX F S hps λcdv A outer s H E hr=>aq cdv A outer s H E hr hr.units (Yd hr)
theorem okWH(P:As)(w:Uu)(K:Ai)(mg:Us->Option Ul)(base:Uw){x qual:Us}{st:Ux}{f:Um}{fd:Cu}(N ps:List Us)(k:Nat)(g:VS)(ml:List Nat)(F:X8 K x qual st f fd)(S:bX N ps (cL st))(aq:∀(cdv:Ul) (A:Bt) (outer:List Env) (s:Ad) (H:Hp) (hr:YA k (A.deeper (envOfC qual (cL st) s.heap.objs.size f cdv))) (_:(A.deeper (envOfC qual (cL st) s.heap.objs.size f cdv)).units+64<cLine) (_:(A.deeper (envOfC qual (cL st) s.heap.objs.size f cdv)).units+1<cLine),WZ (cxH P w K mg base N qual (cL st) f cdv A outer s H) (aP st) (V6 K ml g))(hps:ps.length<=N.length:=by decide):FnH P w K mg base (k+1) f fd ps (spV K ml ps.length (ZH N.length ml g)):=
 X8.okVH F S hps λcdv A outer s H hr=>aq cdv A outer s H hr hr.units hr.unit
noncomputable def WB{α:Type}(k:Nat)(xs:List α):List α:=(At k xs).flatten
theorem OK{α:Type}(k:Nat)(xs:List α):(WB k xs).length=xs.length*k:=by
 unfold WB;induction k with
 |zero=>simp
 |succ k ih=>rw[Dy,Gd,Cf,ih,Nat.mul_succ,Qk]
theorem bE.repV{xs:List V}{us:List Ul}(r:bE xs us)(k:Nat):bE (WB k xs) (WB k us):=by
 unfold WB;induction k with
 |zero=>exact .nil
 |succ k ih=>rw[Dy,Dy,Gd,Gd];exact r.append ih
theorem bY.rep{K:Ai}{N:Um->Prop}{H:Hp}{xs:List V}{ds:List cO}(r:bY K N H xs ds)(k:Nat):bY K N H (WB k xs) (WB k ds):=by
 unfold WB;induction k with
 |zero=>exact .nil
 |succ k ih=>rw[Dy,Dy,Gd,Gd];exact r.append ih
theorem QU:fillsNumberSlot (.type "tuple") "mul"=pure false:=
 PySem.fillsNumberSlot_seq (id:= "tuple.__mul__") (r:=some (.builtin "tuple.__rmul__")) F.slot_tuple_mul.lookup (by decide+kernel) F.slot_tuple_rmul.lookup (by decide+kernel)
theorem KQ:seqRepeat? (.type "tuple")=pure (some (.builtin "tuple.__mul__")):=by unfold seqRepeat?;rw[Qz (T:= "tuple") (name:= "__mul__") (id:= "tuple.__mul__") F.slot_tuple_mul.lookup (by decide+kernel),Qz (T:= "tuple") (name:= "__rmul__") (id:= "tuple.__rmul__") F.slot_tuple_rmul.lookup (by decide+kernel)];rfl
theorem GL(a:Int)(t:Vh)(l:Um)(u:Array Ul)(n:Nat)(dd:Option Um)(sl:Array (Option Ul)):Meets (Du.«int.__rmul__» ⟨[.int a t,.ref l],[]⟩) (λ_ R s=>s.heap.get? l=some ⟨.type "tuple",dd,.seq u n,sl⟩/\R (.ok (.ret Value.notImplemented)) s):=
 .of_wp λprog w A R s h=>by obtain⟨hp,g,d,tk,os⟩:=s;obtain⟨hl,h⟩:=h;wp_walk;exact⟨_,rfl,h⟩
theorem FY(l:Um)(t:Vh)(u:Array Ul)(n:Nat)(dd:Option Um)(sl:Array (Option Ul)):Meets (Du.«tuple.__mul__» ⟨[.ref l,.int 1 t],[]⟩) (λ_ R s=>s.heap.get? l=some ⟨.type "tuple",dd,.seq u n,sl⟩/\R (.ok (.ret (.ref l))) s):=
 .of_wp λprog w A R s h=>by
  obtain⟨hp,g,d,tk,os⟩:=s;obtain⟨hl,h⟩:=h;have f1:=Mf;unfold Du.«tuple.__mul__»;wp_walk using Cm hl
  exact⟨_,rfl,h⟩
theorem FZ(l:Um)(x:Int)(t:Vh)(u:Array Ul)(n:Nat)(dd:Option Um)(sl:Array (Option Ul))(h1:1<x)(h2:x<2 ^ 62)(hu:u.isEmpty=false)(hz:u.size*x.toNat<=16777216):Meets (Du.«tuple.__mul__» ⟨[.ref l,.int x t],[]⟩) (λ_ R s=>s.heap.get? l=some ⟨.type "tuple",dd,.seq u n,sl⟩/\R (.ok (.ret (.ref s.heap.objs.size))) {s with heap:=s.heap.push {cls:=.type "tuple",data:=.seq ((At x.toNat u).foldl (· ++ ·) #[])}}):=
 .of_wp λprog w A R s h=>by
  obtain⟨hp,g,d,tk,os⟩:=s;obtain⟨hl,h⟩:=h;have f1:=Mf;unfold Du.«tuple.__mul__»;have e1:(decide (x< -2 ^ 63) || decide (x≥2 ^ 63))=false:=by simp;lia
  have e2:(x==1)=false:=by simp;lia
  have e3:decide (x<=0)=false:=by simp;lia
  have e4:(u.size:Int)*x=((u.size*x.toNat:Nat):Int):=by rw[Int.natCast_mul,Oi (by lia)]
  have e5:¬((u.size:Int)*x>(2 ^ 63 - 1)/8):=by rw[e4];lia
  have e6:Kr ((u.size:Int)*x)=false:=by rw[e4];unfold Kr;simp only[Bu,decide_eq_false_iff_not];lia
  wp_walk using Cm hl
  rw[e1];wp_walk using Cm hl
  simp only[hu,e2,e3,Te];wp_walk;rw[e6,if_neg e5];have e7:¬(List.foldl (λx1 x2=>x1++x2) #[] (At x.toNat u)).size>sizeLine:=by have:=OK x.toNat u.toList;unfold WB at this;rw[listMul_foldl,Am];show¬([]++(At x.toNat u.toList).flatten).length>sizeLine;rw[Ff,this,Ge,Bu];lia
  wp_walk;exact⟨_,rfl,h⟩
section
variable{X:Cx}{K:Ai}
def Xq(K:Ai):R2:=λx y H Q=>∃l xs k,x=.ref l/\y=.int k/\X6 K H l xs/\(0<=k/\k<2 ^ 62)/\xs.length*k.toNat<=16777216/\∀p,H p=none->Q (.ref p) (upd H p (.lst (WB k.toNat xs)))
theorem zDW:W9 X (Fn .Mult) (Xq X.K):=by
 intro aa s σ H x y v u Q I rx ry h;obtain⟨l,xs,x,rfl,rfl,hq,⟨x0,x1⟩,hz,q⟩:=h;cases rx;obtain⟨t,rfl⟩:=ry;obtain⟨its,r,⟨⟨cls,dd,data,sl⟩,n,ho,hc,hd,aw⟩,_⟩:=I.list hq;simp only at hc hd aw;subst hc hd aw;have hl:=r.length;have hsz:its.toArray.size*x.toNat<=16777216:=by rw[Am,<-hl];exact hz
 refine Ky (T:= "list") (U:= "int") (by decide) ⟨_,ho,rfl⟩ (λs'=>Nb s' x t) noFill_list_mul Sc Kk repeat_list F.slot_int_index.lookup
  (Gc Kk (Nb s x t) Ra (Qd _ _) (lm_int_rmul_list_any x t l its.toArray n none sl) ⟨ho,rfl,⟨_,ho,rfl⟩,?_⟩)
 refine Gc F.slot_list_mul ⟨_,ho,rfl⟩ F.entry_list_mul (F.args_list_mul_2 _ _) (lm_list_mul_any l its.toArray n none sl x t (by simp[Builtin.List.listFitsIndex];lia) (by lia) (by simp[Gb,sizeLine];lia)) ⟨ho,?_⟩;rw[listMul_foldl_if];refine⟨.ref s.heap.objs.size,_,I.laid (t':=s.toks) (o:=.lst (WB x.toNat xs)) (λb ob e=>Ac _ e) (Ap _) ?_,rfl,q _ (I.hok.fresh (Ap _))⟩;exact⟨by rw[OK,Bu];exact hz,WB x.toNat its,0,r.repV _,Aq _ rfl⟩
def Xf(K:Ai):R2:=λx y H Q=>∃l xs k,x=.ref l/\y=.int k/\WF K H l xs/\xs≠[]/\(1<=k/\k<2 ^ 62)/\xs.length*k.toNat<=16777216/\(k=1->Q (.ref l) H)/\∀p,H p=none->Q (.ref p) (upd H p (.tup (WB k.toNat xs)))
theorem oY:W9 X (Fn .Mult) (Xf X.K):=by
 intro aa s σ H x y v u Q I rx ry h;obtain⟨l,xs,x,rfl,rfl,hq,hne,⟨x0,x1⟩,hz,q1,q⟩:=h;cases rx;obtain⟨t,rfl⟩:=ry;obtain⟨its,r,⟨⟨cls,dd,data,sl⟩,ho,hc,n,hd⟩,_⟩:=I.tuple hq;simp only at hc hd;subst hc hd;have hl:=r.length;have hsz:its.toArray.size*x.toNat<=16777216:=by rw[Am,<-hl];exact hz
 have hu:its.toArray.isEmpty=false:=by
  cases its with
  |nil=>exact absurd (r.nil_iff.mp rfl) hne
  |cons a b=>rfl
 refine Ky (T:= "tuple") (U:= "int") (by decide) ⟨_,ho,rfl⟩ (λs'=>Nb s' x t) QU Sc Kk KQ F.slot_int_index.lookup
  (Gc Kk (Nb s x t) Ra (Qd _ _) (GL x t l its.toArray n dd sl) ⟨ho,rfl,⟨_,ho,rfl⟩,?_⟩)
 by_cases hk:x=1
 ·subst hk
  exact Gc Rb ⟨_,ho,rfl⟩ Qe (Ph _ _) (FY l t its.toArray n dd sl) ⟨ho,⟨.ref l,H,I,rfl,q1 rfl⟩⟩
 ·refine Gc Rb ⟨_,ho,rfl⟩ Qe (Ph _ _) (FZ l x t its.toArray n dd sl (by lia) x1 hu hsz) ⟨ho,?_⟩
  rw[listMul_foldl];refine⟨.ref s.heap.objs.size,_,I.laid (t':=s.toks) (o:=.tup (WB x.toNat xs)) (λb ob e=>Ac _ e) (Ap _) ?_,rfl,q _ (I.hok.fresh (Ap _))⟩;exact⟨by rw[OK,Bu];exact hz,WB x.toNat its,r.repV _,Ka _ _⟩
def Xz(K:Ai):R2:=λx y H Q=>Xq K x y H Q∨Xf K x y H Q
theorem kRep(h:X.K=K):W9 X (Fn .Mult) (Xz K):=by subst h;exact zDW.or oY
noncomputable def RO:cO->cO->Option cO
 |.lst ds,.int k=>if(0<=k/\k<2 ^ 62)/\ds.length*k.toNat<=16777216 then some (.lst (WB k.toNat ds)) else none
 |.tup (d::ds),.int k=>if(1<=k/\k<2 ^ 62)/\(ds.length+1)*k.toNat<=16777216 then some (.tup (WB k.toNat (d::ds))) else none
 |_,_=>none
theorem Vk:OpC K (Xz K) RO:=by
 intro H N M M' x y d e c Q hx hy h k;cases d with
 |lst ds=>
  cases e with
  |int i=>
   simp only[RO] at h;split at h
   ·rename_i hz
    cases h;obtain⟨a,xs,rfl,q1,r1⟩:=hx.lstE;cases hy;exact .inl ⟨a,xs,i,rfl,rfl,q1,hz.1,by rw[r1.length];exact hz.2,λp hp=>k _ _ (cJ hp) λM hM=>.lst b5 (λz=>by obtain⟨o,q⟩:=hM _ z;rw[hp] at q;cases q) ((r1.rep _).same (cJ hp))⟩
   ·cases h
  |_=>cases h
 |tup ds=>
  cases ds with
  |nil=>cases h
  |cons d ds=>
   cases e with
   |int i=>
    simp only[RO] at h;split at h
    ·rename_i hz
     cases h;obtain⟨a,xs,rfl,q1,r1⟩:=hx.tupE;cases hy;refine .inr ⟨a,xs,i,rfl,rfl,q1,λz=>?_,hz.1,by rw[r1.length];exact hz.2,λz=>?_,λp hp=>k _ _ (cJ hp) λM hM=>.tup (WF.of b5) ((r1.rep _).same (cJ hp))⟩
     ·subst z
      cases r1
     ·subst z
      refine k _ _ (aL.refl _) λM hM=>?_;rw[show WB (1:Int).toNat (d::ds)=d::ds by simp[WB]];exact .tup q1 r1
    ·cases h
   |_=>cases h
 |_=>cases h
end
noncomputable def CN:Ut->Option cO
 |.Constant (.int i) _ _=>some (.int i)
 |.Constant (.bool i) _ _=>some (.bl i)
 |.Constant (.str i) _ _=>some (.str i)
 |.Constant .none _ _=>some .non
 |.UnaryOp .USub (.Constant (.int i) _ _) _=>some (.int (-i))
 |_=>none
noncomputable def NB(f:Ut->Option cO):List Ut->Option (List cO)
 |[]=>some []
 |e::es=>(f e).bind λd=>(NB f es).map λds=>d::ds
noncomputable def HR:Nat->Ut->Option cO
 |0,e=>CN e
 |k+1,e=>match e with
  |.Tuple es _ _=>(NB (HR k) es).bind λds=>if ds.length<=16777216 then some (.tup ds) else none
  |.List es _=>(NB (HR k) es).bind λds=>if ds.length<=16777216 then some (.lst ds) else none
  |e=>CN e
section
variable{X:Cx}{K:Ai}{ml:List Nat}
theorem D9{e:Ut}{d:cO}(h:CN e=some d):PE X e (TV K ml true true true (fC d)):=by
 unfold CN at h;split at h
 ·cases h;exact cM
 ·cases h;exact Y2
 ·cases h;exact cE
 ·cases h;exact Q3
 ·cases h;exact WD cM
 ·cases h
theorem L6{e:Ut}{es:List Ut}{d:cO}(h:CN e=some d):Uo (e::es) X.env=(false,eval e X.env)::Uo es X.env:=by
 unfold CN at h;split at h<;>first
  |rfl
  |cases h
theorem J9{f:Ut->Option cO}(hf:∀e d,f e=some d->PE X e (TV K ml true true true (fC d))/\∀es,Uo (e::es) X.env=(false,eval e X.env)::Uo es X.env):∀{es:List Ut} {ds:List cO},NB f es=some ds->PA X es (TAV K ml true true λδ=>some (ds,δ))
 |[],_,h=>by
  cases h;exact cF
 | e :: es,ds,h => by
  have h:((f e).bind λd=>(NB f es).map λds=>d::ds)=some ds:=h;cases h1:f e with
  |none=>rw[h1] at h;cases h
  |some d=>
   rw[h1] at h;have h:(NB f es).map (λds=>d::ds)=some ds:=h;cases h2:NB f es with
   |none=>rw[h2] at h;cases h
   |some ds'=>
    rw[h2] at h;cases h;obtain⟨a,b⟩:=hf e d h1;exact cP a (J9 hf h2) (b es)
theorem J8:∀{k:Nat} {e:Ut} {d:cO},HR k e=some d->PE X e (TV K ml true true true (fC d))/\∀es,Uo (e::es) X.env=(false,eval e X.env)::Uo es X.env
 |0,e,d,h=>⟨D9 h,λes=>L6 h⟩
 | k + 1,e,d,h => by
  have hl:∀(es:List Ut) (g:List cO->cO) (fg:O9->VF),(∀fs δ,fg fs δ=(fs δ).bind λp=>if p.1.length<=16777216 then some (g p.1,p.2) else none)->((NB (HR k) es).bind λds=>if ds.length<=16777216 then some (g ds) else none)=some d->∃ds,PA X es (TAV K ml true true λδ=>some (ds,δ))/\fg (λδ=>some (ds,δ))=fC d:=by
   intro es g fg hg h;cases h1:NB (HR k) es with
   |none=>rw[h1] at h;cases h
   |some ds=>
    rw[h1] at h;have h:(if ds.length<=16777216 then some (g ds) else none)=some d:=h;split at h
    ·rename_i hz
     cases h;refine⟨ds,J9 (λe d=>J8) h1,funext λδ=>?_⟩;rw[hg];show(if ds.length<=16777216 then some (g ds,δ) else none)=_;rw[if_pos hz];rfl
    ·cases h
  unfold HR at h;split at h
  ·rename_i es x1 pos
   obtain⟨ds,a,b⟩:=hl es .tup aT (λ_ _=>rfl) h;exact⟨b▸bN a,λ_=>rfl⟩
  ·rename_i es pos
   obtain⟨ds,a,b⟩:=hl es .lst ZT (λ_ _=>rfl) h;exact⟨b▸nI a,λ_=>rfl⟩
  ·exact⟨D9 h,λes=>L6 h⟩
theorem AT{k:Nat}{e:Ut}{d:cO}(h:HR k e=some d):PE X e (TV K ml true true true (fC d)):=(J8 h).1
theorem OT{k:Nat}{es:List Ut}{pos:Pos}{ds:List cO}(h:NB (HR k) es=some ds)(hz:ds.length<=16777216):PE X (.List es pos) (TN K ml true (fC (.lst ds))):=by
 have a:=aZ (pos:=pos) (J9 (X:=X) (K:=K) (ml:=ml) (λe d=>J8 (k:=k)) h);have b:ZT (λδ=>some (ds,δ))=fC (.lst ds):=funext λδ=>by show(if ds.length<=16777216 then some (cO.lst ds,δ) else none)=_;rw[if_pos hz];rfl
 exact b▸a
end
end L2
namespace L2
open PySem
section
variable{α β:Type}{d x y z c:cO}{δ δ1 δ':Ev}{fa fb fc:VF}{o o':cO->cO->Option cO}{i j k n:Nat}{s:Sl}{b:Bool}{ds:List cO}
noncomputable def q0(r:Option α)(δ:Ev):Option (α×Ev):=r.map λc=>(c,δ)
@[simp] theorem q0_s{a:α}:q0 (some a) δ=some (a,δ):=rfl
@[simp] theorem fC_e:fC d δ=some (d,δ):=rfl
noncomputable def qV:Option Sl->Ev->Option (cO×Ev)
 |some (.va d),δ=>some (d,δ)
 |_,_=>none
noncomputable def qO:Option Sl->Ev->Option (cO×Ev)
 |some (.va d),δ=>some (d,δ)
 |some (.ow d),δ=>some (d,δ)
 |_,_=>none
@[simp] theorem fV_e:fV i δ=qV δ[i]? δ:=by unfold fV qV;split<;>simp_all
@[simp] theorem fO_e:fO i δ=qO δ[i]? δ:=by unfold fO qO;split<;>simp_all
@[simp] theorem qV_s:qV (some (.va d)) δ=some (d,δ):=rfl
@[simp] theorem qO_v:qO (some (.va d)) δ=some (d,δ):=rfl
@[simp] theorem qO_o:qO (some (.ow d)) δ=some (d,δ):=rfl
noncomputable def q1(o:cO->Option cO)(r:Option (cO×Ev)):Option (cO×Ev):=r.bind λp=>q0 (o p.1) p.2
@[simp] theorem f1_e{o:cO->Option cO}:f1 o fa δ=q1 o (fa δ):=rfl
@[simp] theorem q1_s{o:cO->Option cO}:q1 o (some (x,δ))=q0 (o x) δ:=rfl
noncomputable def q2(o:cO->cO->Option cO)(r:Option (cO×Ev))(fb:VF):Option (cO×Ev):=r.bind λp=>(fb p.2).bind λq=>q0 (o p.1 q.1) q.2
noncomputable def q2b(o:cO->cO->Option cO)(x:cO)(r:Option (cO×Ev)):Option (cO×Ev):=r.bind λq=>q0 (o x q.1) q.2
@[simp] theorem f2_e:f2 o fa fb δ=q2 o (fa δ) fb:=rfl
@[simp] theorem q2_s:q2 o (some (x,δ)) fb=q2b o x (fb δ):=rfl
@[simp] theorem qN:q2b o x (some (y,δ))=q0 (o x y) δ:=rfl
noncomputable def q3(o o':cO->cO->Option cO)(r:Option (cO×Ev))(fb fc:VF):Option (cO×Ev):=r.bind λp=>(fb p.2).bind λq=>(o p.1 q.1).bind λz=>match z with
 |.bl true=>(fc q.2).bind λs=>(o' q.1 s.1).map λu=>(u,s.2)
 |.bl false=>some (.bl false,q.2)
 |_=>none
noncomputable def q3b(o o':cO->cO->Option cO)(x:cO)(r:Option (cO×Ev))(fc:VF):Option (cO×Ev):=q3 o o' (some (x,[])) (λ_=>r) fc
noncomputable def q3c(o':cO->cO->Option cO)(y:cO)(δ:Ev)(fc:VF):Option cO->Option (cO×Ev)
 |some (.bl true)=>q2b o' y (fc δ)
 |some (.bl false)=>some (.bl false,δ)
 |_=>none
@[simp] theorem f3_e:f3 o o' fa fb fc δ=q3 o o' (fa δ) fb fc:=rfl
@[simp] theorem q3_s:q3 o o' (some (x,δ)) fb fc=q3b o o' x (fb δ) fc:=rfl
@[simp] theorem uC:q3b o o' x (some (y,δ)) fc=q3c o' y δ fc (o x y):=by
 simp only[q3b,q3,Af];cases o x y with
 |none=>rfl
 |some z=>cases z with
  |bl b=>cases b<;>rfl
  |_=>rfl
@[simp] theorem qL:q3c o' y δ fc (some (.bl true))=q2b o' y (fc δ):=rfl
@[simp] theorem uv:q3c o' y δ fc (some (.bl false))=some (.bl false,δ):=rfl
noncomputable def qc(r:Option (cO×Ev))(fs:O9):Option (List cO×Ev):=r.bind λp=>(fs p.2).map λq=>(p.1::q.1,q.2)
noncomputable def qcb(x:cO)(r:Option (List cO×Ev)):Option (List cO×Ev):=r.map λq=>(x::q.1,q.2)
@[simp] theorem tJ:b6 δ=some ([],δ):=rfl
@[simp] theorem pZ{fs:O9}:cN fa fs δ=qc (fa δ) fs:=rfl
@[simp] theorem qc_s{fs:O9}:qc (some (x,δ)) fs=qcb x (fs δ):=rfl
@[simp] theorem sA:qcb x (some (ds,δ))=some (x::ds,δ):=rfl
noncomputable def qT(g:List cO->cO)(r:Option (List cO×Ev)):Option (cO×Ev):=r.bind λp=>if p.1.length<=16777216 then some (g p.1,p.2) else none
@[simp] theorem rY{fs:O9}:aT fs δ=qT .tup (fs δ):=rfl
@[simp] theorem rQ{fs:O9}:ZT fs δ=qT .lst (fs δ):=rfl
@[simp] theorem qT_s{g:List cO->cO}:qT g (some (ds,δ))=if ds.length<=16777216 then some (g ds,δ) else none:=rfl
noncomputable def qB:Option (cO×Ev)->Option (Bool×Ev)
 |some (.bl k,δ)=>some (k,δ)
 |_=>none
@[simp] theorem fB_e:fB fa δ=qB (fa δ):=by
 unfold fB qB;cases fa δ with
 |none=>rfl
 |some p=>
  obtain⟨d,e⟩:=p;cases d<;>rfl
@[simp] theorem qB_s:qB (some (.bl b,δ))=some (b,δ):=rfl
variable{tb tb':VB}{g g':VS}
noncomputable def qAnd(r:Option (Bool×Ev))(y:VB):Option (Bool×Ev):=r.bind λp=>if p.1=true then y p.2 else some (false,p.2)
noncomputable def qOr(r:Option (Bool×Ev))(y:VB):Option (Bool×Ev):=r.bind λp=>if p.1=true then some (true,p.2) else y p.2
noncomputable def qNot(r:Option (Bool×Ev)):Option (Bool×Ev):=r.map λp=>(!p.1,p.2)
@[simp] theorem qE:NI tb tb' δ=qAnd (tb δ) tb':=rfl
@[simp] theorem rm:G2 tb tb' δ=qOr (tb δ) tb':=rfl
@[simp] theorem sU:R6 tb δ=qNot (tb δ):=rfl
@[simp] theorem iQ:R7 δ=some (true,δ):=rfl
@[simp] theorem qX:qAnd (some (true,δ)) tb=tb δ:=rfl
@[simp] theorem uu:qAnd (some (false,δ)) tb=some (false,δ):=rfl
@[simp] theorem ro:qOr (some (true,δ)) tb=some (true,δ):=rfl
@[simp] theorem sS:qOr (some (false,δ)) tb=tb δ:=rfl
@[simp] theorem qt:qNot (some (b,δ))=some (!b,δ):=rfl
noncomputable def qA(r:Option (cO×Ev))(y:VF):Option (cO×Ev):=r.bind λp=>match p.1 with
 |.bl true=>y p.2
 |.bl false=>some (.bl false,p.2)
 |_=>none
@[simp] theorem tX:NS fa fb δ=qA (fa δ) fb:=rfl
@[simp] theorem qA_t:qA (some (.bl true,δ)) fb=fb δ:=rfl
@[simp] theorem qA_f:qA (some (.bl false,δ)) fb=some (.bl false,δ):=rfl
noncomputable def qI(r:Option (Bool×Ev))(x y:VF):Option (cO×Ev):=r.bind λp=>if p.1=true then x p.2 else y p.2
@[simp] theorem rT:fIf tb fa fb δ=qI (tb δ) fa fb:=rfl
@[simp] theorem qI_t:qI (some (true,δ)) fa fb=fa δ:=rfl
@[simp] theorem qI_f:qI (some (false,δ)) fa fb=fb δ:=rfl
noncomputable def qS(r:Option Ou)(g:VS):Option Ou:=r.bind λo=>match o with
 |.nx δ'=>g δ'
 |o=>some o
@[simp] theorem ui:ZQ δ=some (.nx δ):=rfl
@[simp] theorem YG:bZ g g' δ=qS (g δ) g':=rfl
@[simp] theorem RW:qS (some (.nx δ)) g=g δ:=rfl
@[simp] theorem qS_r:qS (some (.rt d δ)) g=some (.rt d δ):=rfl
@[simp] theorem qS_b:qS (some (.bk δ)) g=some (.bk δ):=rfl
@[simp] theorem qS_c:qS (some (.ct δ)) g=some (.ct δ):=rfl
noncomputable def qJ(r:Option (Bool×Ev))(x y:VS):Option Ou:=r.bind λp=>if p.1=true then x p.2 else y p.2
@[simp] theorem tG:WM tb g g' δ=qJ (tb δ) g g':=rfl
@[simp] theorem qJ_t:qJ (some (true,δ)) g g'=g δ:=rfl
@[simp] theorem qJ_f:qJ (some (false,δ)) g g'=g' δ:=rfl
noncomputable def qRet(r:Option (cO×Ev)):Option Ou:=r.map λp=>.rt p.1 p.2
@[simp] theorem tz:bC fa δ=qRet (fa δ):=rfl
@[simp] theorem rX:qRet (some (d,δ))=some (.rt d δ):=rfl
noncomputable def qx(f:cO->Sl)(r:Option (cO×Ev)):Option (Sl×Ev):=r.map λp=>(f p.1,p.2)
@[simp] theorem xV_e:xV fa δ=qx .va (fa δ):=rfl
@[simp] theorem xO_e:xO fa δ=qx .ow (fa δ):=rfl
@[simp] theorem qx_s{f:cO->Sl}:qx f (some (d,δ))=some (f d,δ):=rfl
noncomputable def qSet(i:Nat)(r:Option (Sl×Ev)):Option Ou:=r.bind λp=>if i<p.2.length then some (.nx (p.2.set i p.1)) else none
@[simp] theorem uE{x:VX}:aD i x δ=qSet i (x δ):=rfl
@[simp] theorem rn:qSet i (some (s,δ))=if i<δ.length then some (.nx (δ.set i s)) else none:=rfl
noncomputable def qP2(i j:Nat)(r:Option (Sl×Ev))(y:VX):Option Ou:=r.bind λp=>(y p.2).bind λq=>if i<q.2.length/\j<q.2.length then some (.nx ((q.2.set j q.1).set i p.1)) else none
noncomputable def qP2b(i j:Nat)(s:Sl)(r:Option (Sl×Ev)):Option Ou:=r.bind λq=>if i<q.2.length/\j<q.2.length then some (.nx ((q.2.set j q.1).set i s)) else none
@[simp] theorem sN{x y:VX}:E4 i j x y δ=qP2 i j (x δ) y:=rfl
@[simp] theorem uk{y:VX}:qP2 i j (some (s,δ)) y=qP2b i j s (y δ):=rfl
@[simp] theorem qR{s':Sl}:qP2b i j s (some (s',δ))=if i<δ.length/\j<δ.length then some (.nx ((δ.set j s').set i s)) else none:=rfl
noncomputable def qP3(i j k:Nat)(r:Option (Sl×Ev))(y z:VX):Option Ou:=r.bind λp=>(y p.2).bind λq=>(z q.2).bind λr=>if i<r.2.length/\j<r.2.length/\k<r.2.length then some (.nx (((r.2.set k r.1).set j q.1).set i p.1)) else none
noncomputable def qP3b(i j k:Nat)(s:Sl)(r:Option (Sl×Ev))(z:VX):Option Ou:=r.bind λq=>(z q.2).bind λr=>if i<r.2.length/\j<r.2.length/\k<r.2.length then some (.nx (((r.2.set k r.1).set j q.1).set i s)) else none
noncomputable def qP3c(i j k:Nat)(s s':Sl)(r:Option (Sl×Ev)):Option Ou:=r.bind λr=>if i<r.2.length/\j<r.2.length/\k<r.2.length then some (.nx (((r.2.set k r.1).set j s').set i s)) else none
@[simp] theorem sB{x y z:VX}:OL i j k x y z δ=qP3 i j k (x δ) y z:=rfl
@[simp] theorem sg{y z:VX}:qP3 i j k (some (s,δ)) y z=qP3b i j k s (y δ) z:=rfl
@[simp] theorem qU{s':Sl}{z:VX}:qP3b i j k s (some (s',δ)) z=qP3c i j k s s' (z δ):=rfl
@[simp] theorem tT{s' s'':Sl}:qP3c i j k s s' (some (s'',δ))=if i<δ.length/\j<δ.length/\k<δ.length then some (.nx (((δ.set k s'').set j s').set i s)) else none:=rfl
@[simp] theorem HI:gN i d δ=some (δ.set i (.va d)):=rfl
def qg(r:Option Ev)(gs:BE)(ds:List cO):Option Ev:=r.bind λδ1=>gs ds δ1
@[simp] theorem ug:V1 [] δ=some δ:=rfl
@[simp] theorem ua{gg:VG}{gs:BE}:Z8 gg gs (d::ds) δ=qg (gg d δ) gs ds:=rfl
@[simp] theorem qg_s{gs:BE}:qg (some δ) gs ds=gs ds δ:=rfl
@[simp] theorem rF{gs:BE}:FV n gs (.tup ds) δ=if ds.length=n then gs ds δ else none:=rfl
@[simp] theorem uw{gs:BE}:FV n gs (.lst ds) δ=if ds.length=n then gs ds δ else none:=rfl
noncomputable def qAsg(r:Option (cO×Ev))(gg:VG):Option Ou:=r.bind λp=>(gg p.1 p.2).map Ou.nx
@[simp] theorem tM{gg:VG}:sAsg fa gg δ=qAsg (fa δ) gg:=rfl
@[simp] theorem rS{gg:VG}:qAsg (some (d,δ)) gg=(gg d δ).map Ou.nx:=rfl
noncomputable def qM(i:Nat)(m:List cO->List cO->Option (List cO))(r:Option (List cO))(δ:Ev)(fs:O9):Option Ou:=r.bind λ_=>(fs δ).bind λp=>(RQ p.2 i).bind λds=>(m ds p.1).map λds'=>.nx (p.2.set i (.ow (.lst ds')))
noncomputable def qMb(i:Nat)(m:List cO->List cO->Option (List cO))(r:Option (List cO×Ev)):Option Ou:=r.bind λp=>(RQ p.2 i).bind λds=>(m ds p.1).map λds'=>.nx (p.2.set i (.ow (.lst ds')))
noncomputable def qMc(i:Nat)(m:List cO->List cO->Option (List cO))(es:List cO)(δ:Ev)(r:Option (List cO)):Option Ou:=r.bind λds=>(m ds es).map λds'=>.nx (δ.set i (.ow (.lst ds')))
noncomputable def qMd(i:Nat)(δ:Ev)(r:Option (List cO)):Option Ou:=r.map λds'=>.nx (δ.set i (.ow (.lst ds')))
@[simp] theorem uG{m:List cO->List cO->Option (List cO)}{fs:O9}:WC i m fs δ=qM i m (RQ δ i) δ fs:=rfl
@[simp] theorem qM_s{m:List cO->List cO->Option (List cO)}{fs:O9}:qM i m (some ds) δ fs=qMb i m (fs δ):=rfl
@[simp] theorem uB{m:List cO->List cO->Option (List cO)}{es:List cO}:qMb i m (some (es,δ))=qMc i m es δ (RQ δ i):=rfl
@[simp] theorem rM{m:List cO->List cO->Option (List cO)}{es:List cO}:qMc i m es δ (some ds)=qMd i δ (m ds es):=rfl
@[simp] theorem si:qMd i δ (some ds)=some (.nx (δ.set i (.ow (.lst ds)))):=rfl
noncomputable def qOl:Option Sl->Option (List cO)
 |some (.ow (.lst ds))=>some ds
 |_=>none
@[simp] theorem rR:RQ δ i=qOl δ[i]? :=by unfold RQ qOl;split<;>simp_all
@[simp] theorem sP:qOl (some (.ow (.lst ds)))=some ds:=rfl
@[simp] theorem sK:UJ ds [d]=if ds.length<16777216 then some (ds++[d]) else none:=rfl
noncomputable def qOd:Option Sl->Option (List aG×List cO)
 |some (.ow (.dct ks ds))=>some (ks,ds)
 |_=>none
@[simp] theorem ur:XN δ i=qOd δ[i]? :=by unfold XN qOd;split<;>simp_all
@[simp] theorem rP{ks:List aG}:qOd (some (.ow (.dct ks ds)))=some (ks,ds):=rfl
noncomputable def qi(r:Option (cO×Ev)):Option (List cO×Ev):=r.bind λp=>(YH p.1).map λds=>(ds,p.2)
@[simp] theorem pR:TK fa δ=qi (fa δ):=rfl
@[simp] theorem qi_t:qi (some (.tup ds,δ))=some (ds,δ):=rfl
@[simp] theorem qi_l:qi (some (.lst ds,δ))=some (ds,δ):=rfl
noncomputable def qr1:Option (cO×Ev)->Option (List cO×Ev)
 |some (.int j,δ)=>if -4611686018427387904<=j/\j<4611686018427387904 then some (Y8 0 j.toNat,δ) else none
 |_=>none
@[simp] theorem qW:BG fa δ=qr1 (fa δ):=by
 unfold BG qr1;cases fa δ with
 |none=>rfl
 |some p=>
  obtain⟨d,e⟩:=p;cases d<;>rfl
@[simp] theorem ue{j:Int}:qr1 (some (.int j,δ))=if -4611686018427387904<=j/\j<4611686018427387904 then some (Y8 0 j.toNat,δ) else none:=rfl
noncomputable def qe(r:Option (cO×Ev)):Option (List cO×Ev):=r.bind λp=>(YH p.1).map λds=>(YC 0 ds,p.2)
@[simp] theorem qP:NX fa δ=qe (fa δ):=rfl
@[simp] theorem qe_t:qe (some (.tup ds,δ))=some (YC 0 ds,δ):=rfl
@[simp] theorem qe_l:qe (some (.lst ds,δ))=some (YC 0 ds,δ):=rfl
noncomputable def qz(r:Option (cO×Ev))(g:VF):Option (List cO×Ev):=r.bind λp=>(g p.2).bind λq=>(YH p.1).bind λds=>(YH q.1).map λes=>(TQ ds es,q.2)
noncomputable def qzb(x:cO)(r:Option (cO×Ev)):Option (List cO×Ev):=r.bind λq=>(YH x).bind λds=>(YH q.1).map λes=>(TQ ds es,q.2)
@[simp] theorem qj:iZip fa fb δ=qz (fa δ) fb:=rfl
@[simp] theorem qz_s:qz (some (x,δ)) fb=qzb x (fb δ):=rfl
@[simp] theorem uH:qzb x (some (y,δ))=(YH x).bind λds=>(YH y).map λes=>(TQ ds es,δ):=rfl
@[simp] theorem pO:YH (.tup ds)=some ds:=rfl
@[simp] theorem sO:YH (.lst ds)=some ds:=rfl
noncomputable def qF(r:Option (List cO×Ev))(gg:VG)(g:VS):Option Ou:=r.bind λp=>W6 gg g p.1 p.2
@[simp] theorem kB{fi:VI}{gg:VG}:QY fi gg g δ=qF (fi δ) gg g:=rfl
@[simp] theorem qF_s{gg:VG}:qF (some (ds,δ)) gg g=W6 gg g ds δ:=rfl
noncomputable def qK(ix:List Nat)(nl:Nat)(r:Option (List cO×Ev))(gg:VG)(tb:VB)(fe:VF):Option (cO×Ev):=r.bind λp=>(ZZ ix.length nl gg tb fe p.1 [] (aY ix p.2)).map λq=>(.lst q.1,Y9 ix q.2 p.2)
noncomputable def qKb(ix:List Nat)(δ:Ev)(r:Option (List cO×Ev)):Option (cO×Ev):=r.map λq=>(.lst q.1,Y9 ix q.2 δ)
@[simp] theorem sy{ix:List Nat}{nl:Nat}{fi:VI}{gg:VG}:ZG ix nl fi gg tb fa δ=qK ix nl (fi δ) gg tb fa:=rfl
@[simp] theorem qK_s{ix:List Nat}{nl:Nat}{gg:VG}:qK ix nl (some (ds,δ)) gg tb fa=qKb ix δ (ZZ ix.length nl gg tb fa ds [] (aY ix δ)):=rfl
@[simp] theorem qq{ix:List Nat}:qKb ix δ (some (ds,δ1))=some (.lst ds,Y9 ix δ1 δ):=rfl
variable{as:List AV}{fs:PX}{mF:List Nat}{F:aS}
noncomputable def qa(r:Option (cO×Ev))(fs:PX):Option (List AV×Ev):=r.bind λp=>(fs p.2).map λq=>(.d p.1::q.1,q.2)
noncomputable def qab(x:AV)(r:Option (List AV×Ev)):Option (List AV×Ev):=r.map λq=>(x::q.1,q.2)
@[simp] theorem nK:bT δ=some ([],δ):=rfl
@[simp] theorem G5:aE fa fs δ=qa (fa δ) fs:=rfl
@[simp] theorem qa_s:qa (some (x,δ)) fs=qab (.d x) (fs δ):=rfl
@[simp] theorem Vw{a:AV}:qab a (some (as,δ))=some (a::as,δ):=rfl
noncomputable def qao(j:Nat)(r:Option cO)(δ:Ev)(fs:PX):Option (List AV×Ev):=r.bind λ_=>qab (.o j) (fs δ)
@[simp] theorem aO_e:aO j fs δ=qao j (slot δ j) δ fs:=rfl
@[simp] theorem pG:qao j (some d) δ fs=qab (.o j) (fs δ):=rfl
noncomputable def qsl:Option Sl->Option cO
 |some (.va d)=>some d
 |some (.ow d)=>some d
 |_=>none
@[simp] theorem pX:slot δ j=qsl δ[j]? :=by unfold slot qsl;split<;>simp_all
@[simp] theorem tD:qsl (some (.va d))=some d:=rfl
@[simp] theorem rq:qsl (some (.ow d))=some d:=rfl
@[simp] theorem tU:WR δ []=some []:=rfl
@[simp] theorem tF:WR δ (.d d::as)=(WR δ as).map λds=>d::ds:=rfl
@[simp] theorem pQ:WR δ (.o j::as)=(slot δ j).bind λd=>(WR δ as).map λds=>d::ds:=rfl
noncomputable def Wn(n:Nat)(mF:List Nat)(F:aS)(r:Option (List AV×Ev)):Option (cO×Ev):=r.bind λp=>(WR p.2 p.1).bind λds=>if ds.length=n/\VE mF p.1 p.2=true then(F ds).bind λq=>if V7 mF p.1 q.1 q.2=true then some (q.1,WP p.1 mF q.2 p.2) else none else none
noncomputable def qCb(n:Nat)(mF:List Nat)(F:aS)(as:List AV)(δ:Ev)(r:Option (List cO)):Option (cO×Ev):=r.bind λds=>if ds.length=n/\VE mF as δ=true then(F ds).bind λq=>if V7 mF as q.1 q.2=true then some (q.1,WP as mF q.2 δ) else none else none
noncomputable def qCc(mF:List Nat)(as:List AV)(δ:Ev)(r:Option (cO×List cO)):Option (cO×Ev):=r.bind λq=>if V7 mF as q.1 q.2=true then some (q.1,WP as mF q.2 δ) else none
@[simp] theorem PJ:cA n mF F fs δ=Wn n mF F (fs δ):=rfl
@[simp] theorem jR:Wn n mF F (some (as,δ))=qCb n mF F as δ (WR δ as):=rfl
@[simp] theorem oU:qCb n mF F as δ (some ds)=if ds.length=n/\VE mF as δ=true then qCc mF as δ (F ds) else none:=rfl
@[simp] theorem lG{os:List cO}:qCc mF as δ (some (d,os))=if V7 mF as d os=true then some (d,WP as mF os δ) else none:=rfl
@[simp] theorem sk:EB δ as i=(match as[i]? with
 |some (.o j)=>match δ[j]? with
  |some (.ow _)=>true
  |_=>false
 |_=>false):=rfl
@[simp] theorem tj:U1 []=[]:=rfl
@[simp] theorem qZ:U1 (.d d::as)=U1 as:=rfl
@[simp] theorem sC:U1 (.o j::as)=j::U1 as:=rfl
@[simp] theorem uK:VE mF as δ=(mF.all (EB δ as)&&decide (U1 as).Nodup):=rfl
@[simp] theorem tQ:WQ mF [] i=true:=rfl
@[simp] theorem tS:WQ mF (.d d::as) i=WQ mF as (i+1):=rfl
@[simp] theorem tZ:WQ mF (.o j::as) i=(decide (i∈mF)&&WQ mF as (i+1)):=rfl
@[simp] theorem sT{os:List cO}:V7 mF as d os=((WQ mF as 0 || d.hard)&&(WQ mF as 0 || os.all UG)&&decide (mF.length=os.length)):=rfl
@[simp] theorem ut{os:List cO}:WP as [] os δ=δ:=by cases os<;>rfl
@[simp] theorem qD{os:List cO}{is:List Nat}:WP as (i::is) (d::os) δ=(match as[i]? with
  |some (.o j)=>WP as is os (δ.set j (.ow d))
  |_=>WP as is os δ):=rfl
@[simp] theorem rW:IE δ=some (none,δ):=rfl
noncomputable def qpS:Option (cO×Ev)->Option (Option Int×Ev)
 |some (.int i,δ)=>some (some i,δ)
 |_=>none
@[simp] theorem qu:KM fa δ=qpS (fa δ):=by
 unfold KM qpS;cases fa δ with
 |none=>rfl
 |some p=>
  obtain⟨d,e⟩:=p;cases d<;>rfl
@[simp] theorem tR{i:Int}:qpS (some (.int i,δ))=some (some i,δ):=rfl
noncomputable def qSl(r:Option (cO×Ev))(fl fh:VP):Option (cO×Ev):=r.bind λp=>(fl p.2).bind λl=>(fh l.2).bind λu=>(oSl p.1 l.1 u.1).map λc=>(c,u.2)
noncomputable def qSlb(x:cO)(r:Option (Option Int×Ev))(fh:VP):Option (cO×Ev):=r.bind λl=>(fh l.2).bind λu=>(oSl x l.1 u.1).map λc=>(c,u.2)
noncomputable def qSlc(x:cO)(l:Option Int)(r:Option (Option Int×Ev)):Option (cO×Ev):=r.bind λu=>q0 (oSl x l u.1) u.2
@[simp] theorem uJ{fl fh:VP}:J2 fa fl fh δ=qSl (fa δ) fl fh:=rfl
@[simp] theorem pT{fl fh:VP}:qSl (some (x,δ)) fl fh=qSlb x (fl δ) fh:=rfl
@[simp] theorem sV{l:Option Int}{fh:VP}:qSlb x (some (l,δ)) fh=qSlc x l (fh δ):=rfl
@[simp] theorem uD{l u:Option Int}:qSlc x l (some (u,δ))=q0 (oSl x l u) δ:=rfl
@[simp] theorem uj{l u:Option Int}:oSl (.tup ds) l u=some (.tup (VY ds l u)):=rfl
@[simp] theorem pW{l u:Option Int}:oSl (.lst ds) l u=some (.lst (VY ds l u)):=rfl
noncomputable def qSt(i j:Nat):Option (cO×Ev)->Option Ou
 |some (.tup (d::ds),δ)=>some (.nx ((δ.set i (.va d)).set j (.va (.lst ds))))
 |_=>none
@[simp] theorem so:ML i j fa δ=qSt i j (fa δ):=by
 unfold ML qSt;cases fa δ with
 |none=>rfl
 |some p=>
  obtain⟨d,e⟩:=p;cases d with
  |tup ds=>cases ds<;>rfl
  |_=>rfl
@[simp] theorem sD:qSt i j (some (.tup (d::ds),δ))=some (.nx ((δ.set i (.va d)).set j (.va (.lst ds)))):=rfl
noncomputable def qDg(i:Nat)(r:Option (List aG×List cO))(δ:Ev)(fk fx:VF):Option (cO×Ev):=r.bind λ_=>(fk δ).bind λp=>(fx p.2).bind λq=>(V9 p.1).bind λk=>(XN q.2 i).map λz=>((aU z.1 z.2 k).getD q.1,q.2)
noncomputable def qDgb(i:Nat)(r:Option (cO×Ev))(fx:VF):Option (cO×Ev):=r.bind λp=>(fx p.2).bind λq=>(V9 p.1).bind λk=>(XN q.2 i).map λz=>((aU z.1 z.2 k).getD q.1,q.2)
noncomputable def qDgc(i:Nat)(x:cO)(r:Option (cO×Ev)):Option (cO×Ev):=r.bind λq=>(V9 x).bind λk=>(XN q.2 i).map λz=>((aU z.1 z.2 k).getD q.1,q.2)
@[simp] theorem sQ:J1 i fa fb δ=qDg i (XN δ i) δ fa fb:=rfl
@[simp] theorem rL{z:List aG×List cO}:qDg i (some z) δ fa fb=qDgb i (fa δ) fb:=rfl
@[simp] theorem pM:qDgb i (some (x,δ)) fb=qDgc i x (fb δ):=rfl
@[simp] theorem sf:qDgc i x (some (y,δ))=(V9 x).bind λk=>(XN δ i).map λz=>((aU z.1 z.2 k).getD y,δ):=rfl
noncomputable def qDp(i:Nat)(r:Option (cO×Ev))(fk:VF):Option Ou:=r.bind λp=>(XN p.2 i).bind λ_=>(fk p.2).bind λq=>(V9 q.1).bind λk=>(XN q.2 i).bind λz=>if z.1.length<16777216/\z.1.Nodup then some (.nx (q.2.set i (.ow (let r:=YF z.1 z.2 k p.1;.dct r.1 r.2)))) else none
noncomputable def qDpb(i:Nat)(x:cO)(r:Option (List aG×List cO))(δ:Ev)(fk:VF):Option Ou:=r.bind λ_=>(fk δ).bind λq=>(V9 q.1).bind λk=>(XN q.2 i).bind λz=>if z.1.length<16777216/\z.1.Nodup then some (.nx (q.2.set i (.ow (let r:=YF z.1 z.2 k x;.dct r.1 r.2)))) else none
noncomputable def qDpc(i:Nat)(x:cO)(r:Option (cO×Ev)):Option Ou:=r.bind λq=>(V9 q.1).bind λk=>(XN q.2 i).bind λz=>if z.1.length<16777216/\z.1.Nodup then some (.nx (q.2.set i (.ow (.dct (YF z.1 z.2 k x).1 (YF z.1 z.2 k x).2)))) else none
@[simp] theorem uz{fk fv:VF}:IP i fk fv δ=qDp i (fv δ) fk:=rfl
@[simp] theorem rD{fk:VF}:qDp i (some (x,δ)) fk=qDpb i x (XN δ i) δ fk:=rfl
@[simp] theorem uo{z:List aG×List cO}{fk:VF}:qDpb i x (some z) δ fk=qDpc i x (fk δ):=rfl
@[simp] theorem ul:qDpc i x (some (y,δ))=(V9 y).bind λk=>(XN δ i).bind λz=>if z.1.length<16777216/\z.1.Nodup then some (.nx (δ.set i (.ow (.dct (YF z.1 z.2 k x).1 (YF z.1 z.2 k x).2)))) else none:=rfl
@[simp] theorem ri{i:Int}:V9 (.int i)=some (.inl i):=rfl
@[simp] theorem pP{s:Us}:V9 (.str s)=some (.inr s):=rfl
noncomputable def qRun(ml:List Nat):Option Ou->Option (cO×List cO)
 |some (.rt d δ)=>(UP ml δ).map λos=>(d,os)
 |some (.nx δ)=>(UP ml δ).map λos=>(.non,os)
 |_=>none
theorem bL{ml:List Nat}:ZH n ml g ds=qRun ml (g (bF ml n ds)):=by
 unfold ZH qRun;cases g (bF ml n ds) with
 |none=>rfl
 |some o=>cases o<;>rfl
@[simp] theorem uN{ml:List Nat}:qRun ml (some (.rt d δ))=(UP ml δ).map λos=>(d,os):=rfl
@[simp] theorem tu{ml:List Nat}:qRun ml (some (.nx δ))=(UP ml δ).map λos=>(.non,os):=rfl
noncomputable def qow:Option Sl->Option cO
 |some (.ow d)=>some d
 |_=>none
@[simp] theorem sG:UP [] δ=some []:=rfl
@[simp] theorem sr{ml:List Nat}:UP (i::ml) δ=(qow δ[i]?).bind λd=>(UP ml δ).map λos=>d::os:=by
 unfold UP;rw[Sh];cases h:(δ[i]? :Option Sl) with
 |none=>rfl
 | some s => cases s with
  |no=>rfl
  |va d=>rfl
  |ow d=>
   show(Option.bind _ λos=>some (d::os))=Uk (λos=>d::os) _;cases (List.mapM _ ml:Option (List cO))<;>rfl
@[simp] theorem sY:qow (some (.ow d))=some d:=rfl
end
section
variable{i j:Int}{x y:Us}{ds es:List cO}
@[simp] theorem oI_e{C:Int->Int->Bool}{g:Int->Int->cO}:oI C g (.int i) (.int j)=if C i j=true then some (g i j) else none:=rfl
@[simp] theorem qo:Z6 (.int i) (.int j)=some (.int (i+j)):=rfl
@[simp] theorem pL:Z6 (.tup ds) (.tup es)=if ds.length+es.length<=16777216 then some (.tup (ds++es)) else none:=rfl
@[simp] theorem sL:Z6 (.lst ds) (.lst es)=if ds.length+es.length<=16777216 then some (.lst (ds++es)) else none:=rfl
@[simp] theorem tK{g:Int->Int->Int}:o2I g (.int i) (.int j)=some (.int (g i j)):=rfl
@[simp] theorem uP:YW (.tup ds)=some (.int ds.length):=rfl
@[simp] theorem pS:YW (.lst ds)=some (.int ds.length):=rfl
@[simp] theorem tV:SZ (.tup ds)=some (.lst ds):=rfl
@[simp] theorem rG:SZ (.lst ds)=some (.lst ds):=rfl
@[simp] theorem qr:UL (.tup ds)=some (.tup ds):=rfl
@[simp] theorem ub:UL (.lst ds)=some (.tup ds):=rfl
@[simp] theorem sW:bJ (.tup ds) (.int i)=U3 ds i:=rfl
@[simp] theorem tL:bJ (.lst ds) (.int i)=U3 ds i:=rfl
@[simp] theorem rK{ks:List aG}:bJ (.dct ks ds) (.int i)=aU ks ds (.inl i):=rfl
@[simp] theorem sJ{ks:List aG}:bJ (.dct ks ds) (.str x)=aU ks ds (.inr x):=rfl
@[simp] theorem tw:MB (.int i)=true:=rfl
@[simp] theorem uL:MB .non=true:=rfl
@[simp] theorem tO{b:Bool}:MB (.bl b)=true:=rfl
@[simp] theorem qm:QP "int" "bool"=some false:=by decide+kernel
@[simp] theorem rk:QP "int" "int"=some true:=by decide+kernel
@[simp] theorem uQ:QP "tuple" "tuple"=some true:=by decide+kernel
@[simp] theorem rf:QP "str" "str"=some true:=by decide+kernel
@[simp] theorem rN{n:String}:QV (.int i) (.ty n)=(QP "int" n).map cO.bl:=rfl
@[simp] theorem rH{n:String}:QV (.tup ds) (.ty n)=(QP "tuple" n).map cO.bl:=rfl
@[simp] theorem sI{n:String}:QV (.lst ds) (.ty n)=(QP "list" n).map cO.bl:=rfl
@[simp] theorem qh{n:String}:QV (.str x) (.ty n)=(QP "str" n).map cO.bl:=rfl
@[simp] theorem uq:F5 .non .non=some (.bl true):=rfl
@[simp] theorem sF:F5 (.int i) .non=some (.bl false):=rfl
@[simp] theorem qC:F5 (.str x) .non=some (.bl false):=rfl
@[simp] theorem rV:F5 (.tup ds) .non=some (.bl false):=rfl
end
section
variable{d x:cO}{δ δ1:Ev}{r acc:List cO}{gg:VG}{tb:VB}{fe:VF}{n nl:Nat}{g:VS}
noncomputable def qk1(n nl:Nat)(gg:VG)(tb:VB)(fe:VF)(r acc:List cO)(o:Option Ev):Option (List cO×Ev):=o.bind λδ1=>(tb δ1).bind λp=>if p.1=true then(fe p.2).bind λq=>if acc.length<16777216 then ZZ n nl gg tb fe r (acc++[q.1]) (q.2.take n) else none else ZZ n nl gg tb fe r acc (p.2.take n)
noncomputable def qk2(n nl:Nat)(gg:VG)(tb:VB)(fe:VF)(r acc:List cO)(o:Option (Bool×Ev)):Option (List cO×Ev):=o.bind λp=>if p.1=true then(fe p.2).bind λq=>if acc.length<16777216 then ZZ n nl gg tb fe r (acc++[q.1]) (q.2.take n) else none else ZZ n nl gg tb fe r acc (p.2.take n)
noncomputable def qk3(n nl:Nat)(gg:VG)(tb:VB)(fe:VF)(r acc:List cO)(o:Option (cO×Ev)):Option (List cO×Ev):=o.bind λq=>if acc.length<16777216 then ZZ n nl gg tb fe r (acc++[q.1]) (q.2.take n) else none
@[simp] theorem tH:ZZ n nl gg tb fe [] acc δ=some (acc,δ):=rfl
@[simp] theorem RD:ZZ n nl gg tb fe (d::r) acc δ=qk1 n nl gg tb fe r acc (gg d (δ++NC nl)):=rfl
@[simp] theorem IJ:qk1 n nl gg tb fe r acc (some δ)=qk2 n nl gg tb fe r acc (tb δ):=rfl
@[simp] theorem Vq:qk2 n nl gg tb fe r acc (some (true,δ))=qk3 n nl gg tb fe r acc (fe δ):=rfl
@[simp] theorem Xm:qk2 n nl gg tb fe r acc (some (false,δ))=ZZ n nl gg tb fe r acc (δ.take n):=rfl
@[simp] theorem Vm:qk3 n nl gg tb fe r acc (some (x,δ))=if acc.length<16777216 then ZZ n nl gg tb fe r (acc++[x]) (δ.take n) else none:=rfl
noncomputable def qf1(gg:VG)(g:VS)(r:List cO)(o:Option Ev):Option Ou:=o.bind λδ1=>(g δ1).bind (YB (W6 gg g r))
def qf2(gg:VG)(g:VS)(r:List cO)(o:Option Ou):Option Ou:=o.bind (YB (W6 gg g r))
@[simp] theorem uI:W6 gg g [] δ=some (.nx δ):=rfl
@[simp] theorem SA:W6 gg g (d::r) δ=qf1 gg g r (gg d δ):=rfl
@[simp] theorem OJ:qf1 gg g r (some δ)=qf2 gg g r (g δ):=rfl
@[simp] theorem MI:qf2 gg g r (some (.nx δ))=W6 gg g r δ:=rfl
@[simp] theorem sx:qf2 gg g r (some (.ct δ))=W6 gg g r δ:=rfl
@[simp] theorem ql:qf2 gg g r (some (.bk δ))=some (.nx δ):=rfl
@[simp] theorem rA:qf2 gg g r (some (.rt d δ))=some (.rt d δ):=rfl
@[simp] theorem tI{ss:Ev}:Y9 [] ss δ=δ:=by cases ss<;>rfl
@[simp] theorem um{i:Nat}{is:List Nat}{ss:Ev}:Y9 (i::is) (.ow d::ss) δ=Y9 is ss (δ.set i (.ow d)):=rfl
@[simp] theorem sh{i:Nat}{is:List Nat}{ss:Ev}:Y9 (i::is) (.va d::ss) δ=Y9 is ss δ:=rfl
@[simp] theorem tW{i:Nat}{is:List Nat}{ss:Ev}:Y9 (i::is) (.no::ss) δ=Y9 is ss δ:=rfl
end
@[simp] theorem Vr:NC 1=[.no]:=rfl
@[simp] theorem Xo:NC 2=[.no,.no]:=rfl
@[simp] theorem t9:NC 3=[.no,.no,.no]:=rfl
@[simp] theorem sE{i:Int}:Y8 i 0=[]:=rfl
@[simp] theorem tN:Y8 0 1=[.int 0]:=rfl
@[simp] theorem ti:Y8 0 2=[.int 0,.int 1]:=rfl
@[simp] theorem rB:Y8 0 3=[.int 0,.int 1,.int 2]:=rfl
@[simp] theorem qY:Y8 0 4=[.int 0,.int 1,.int 2,.int 3]:=rfl
theorem XD{α:Type}{xs:List α}{i:Int}(h0:0<=i)(h1:i<xs.length):U3 xs i=xs[i.toNat]? :=by unfold U3 ixN;rw[if_pos h0,if_pos h1];rfl
theorem FN{α:Type}{xs:List α}{i:Int}(h0:0<=i)(h1:i<xs.length):∃x∈xs,U3 xs i=some x:=by
 rw[XD h0 h1];have h:i.toNat<xs.length:=by lia
 exact⟨xs[i.toNat],Jo _,Cd h⟩
section
variable{F:aS}{fa fb fc:VF}{δ:Ev}{x y z d o:cO}{j:Nat}
noncomputable def ER(δ:Ev):Option (cO×List cO)->Option (cO×Ev)
 |some (d,[])=>some (d,δ)
 |_=>none
@[simp] theorem rC:ER δ (some (d,[]))=some (d,δ):=rfl
theorem FO{n:Nat}{ds:List cO}{as:List AV}(h:WR δ as=some ds)(hn:ds.length=n)(hj:U1 as=[])(ha:WQ [] as 0=true):qCb n [] F as δ (some ds)=ER δ (F ds):=by
 have hc:VE [] as δ=true:=by simp[hj]
 rw[oU,if_pos ⟨hn,hc⟩];cases F ds with
 |none=>rfl
 |some q=>
  obtain⟨r,os⟩:=q;rw[lG];cases os with
  |nil=>simp[ha,ER]
  |cons o os=>simp[ER]
noncomputable def qx1(F:aS)(r:Option (cO×Ev)):Option (cO×Ev):=r.bind λp=>ER p.2 (F [p.1])
@[simp] theorem uF:qx1 F (some (x,δ))=ER δ (F [x]):=rfl
@[simp high] theorem call1:cA 1 [] F (aE fa bT) δ=qx1 F (fa δ):=by
 rw[PJ,G5];cases fa δ with
 |none=>rfl
 |some p=>exact FO (as:=[.d p.1]) rfl rfl rfl rfl
noncomputable def qx2(F:aS)(r:Option (cO×Ev))(fb:VF):Option (cO×Ev):=r.bind λp=>(fb p.2).bind λq=>ER q.2 (F [p.1,q.1])
noncomputable def qx2b(F:aS)(x:cO)(r:Option (cO×Ev)):Option (cO×Ev):=r.bind λq=>ER q.2 (F [x,q.1])
@[simp] theorem eO:qx2 F (some (x,δ)) fb=qx2b F x (fb δ):=rfl
@[simp] theorem pU:qx2b F x (some (y,δ))=ER δ (F [x,y]):=rfl
@[simp high] theorem call2:cA 2 [] F (aE fa (aE fb bT)) δ=qx2 F (fa δ) fb:=by
 rw[PJ,G5];cases fa δ with
 |none=>rfl
 |some p=>
  rw[qa_s,G5,eO];cases fb p.2 with
  |none=>rfl
  |some q=>exact FO (as:=[.d p.1,.d q.1]) rfl rfl rfl rfl
noncomputable def qx3(F:aS)(r:Option (cO×Ev))(fb fc:VF):Option (cO×Ev):=r.bind λp=>(fb p.2).bind λq=>(fc q.2).bind λs=>ER s.2 (F [p.1,q.1,s.1])
noncomputable def qx3b(F:aS)(x:cO)(r:Option (cO×Ev))(fc:VF):Option (cO×Ev):=r.bind λq=>(fc q.2).bind λs=>ER s.2 (F [x,q.1,s.1])
noncomputable def qx3c(F:aS)(x y:cO)(r:Option (cO×Ev)):Option (cO×Ev):=r.bind λs=>ER s.2 (F [x,y,s.1])
@[simp] theorem dE:qx3 F (some (x,δ)) fb fc=qx3b F x (fb δ) fc:=rfl
@[simp] theorem oX:qx3b F x (some (y,δ)) fc=qx3c F x y (fc δ):=rfl
@[simp] theorem sw:qx3c F x y (some (z,δ))=ER δ (F [x,y,z]):=rfl
@[simp high] theorem call3:cA 3 [] F (aE fa (aE fb (aE fc bT))) δ=qx3 F (fa δ) fb fc:=by
 rw[PJ,G5];cases fa δ with
 |none=>rfl
 |some p=>
  rw[qa_s,G5,dE];cases fb p.2 with
  |none=>rfl
  |some q=>
   rw[qa_s,G5,oX];cases fc q.2 with
   |none=>rfl
   |some s=>exact FO (as:=[.d p.1,.d q.1,.d s.1]) rfl rfl rfl rfl
noncomputable def qw3(j:Nat)(δ:Ev):Option (cO×List cO)->Option (cO×Ev)
 |some (r,[o])=>some (r,δ.set j (.ow o))
 |_=>none
noncomputable def qw2(F:aS)(j:Nat)(x y:cO)(δ:Ev):Option Sl->Option (cO×Ev)
 |some (.ow d)=>qw3 j δ (F [x,d,y])
 |_=>none
noncomputable def qwb(F:aS)(j:Nat)(x:cO)(r:Option (cO×Ev)):Option (cO×Ev):=r.bind λq=>qw2 F j x q.1 q.2 q.2[j]?
noncomputable def qwa(F:aS)(j:Nat)(x:cO)(δ:Ev)(fb:VF)(s:Option cO):Option (cO×Ev):=s.bind λ_=>qwb F j x (fb δ)
noncomputable def qw(F:aS)(j:Nat)(r:Option (cO×Ev))(fb:VF):Option (cO×Ev):=r.bind λp=>qwa F j p.1 p.2 fb (slot p.2 j)
@[simp] theorem qv:qw3 j δ (some (x,[o]))=some (x,δ.set j (.ow o)):=rfl
@[simp] theorem pV:qw2 F j x y δ (some (.ow d))=qw3 j δ (F [x,d,y]):=rfl
@[simp] theorem iY:qwb F j x (some (y,δ))=qw2 F j x y δ δ[j]? :=rfl
@[simp] theorem cW:qwa F j x δ fb (some d)=qwb F j x (fb δ):=rfl
@[simp] theorem qw_s:qw F j (some (x,δ)) fb=qwa F j x δ fb (slot δ j):=rfl
@[simp high] theorem callO:cA 3 [1] F (aE fa (aO j (aE fb bT))) δ=qw F j (fa δ) fb:=by
 rw[PJ,G5];cases fa δ with
 |none=>rfl
 |some p=>
  obtain⟨x,δ1⟩:=p;rw[qa_s,aO_e,qw_s];cases h:slot δ1 j with
  |none=>rfl
  |some d0=>
   rw[pG,G5,cW];cases fb δ1 with
   |none=>rfl
   |some q=>
    obtain⟨y,δ2⟩:=q;rw[iY,qa_s,nK,Vw,Vw,Vw,jR];cases h2:δ2[j]? with
    |none=>simp[h2,qsl,qCb,qw2]
    |some s=>
     cases s with
     |no=>simp[h2,qsl,qCb,qw2]
     |va d=>simp[h2,qw2]
     |ow d=>
      simp[h2];cases F [x,d,y] with
      |none=>rfl
      |some r=>
       obtain⟨v,os⟩:=r;cases os with
       |nil=>simp[qw3]
       |cons o os=>
        cases os with
        |nil=>simp
        |cons o2 os=>simp[qw3]
end
def UC:cO:=.int 999
def DV:cO:=.tup [.str "plus",.str "minus",.str "times",.str "least",.str "most",.str "less",.str "over"]
def WH:cO:=.int 64
def WG:cO:=.int 40
def VD:cO:=.int 63
def RA:cO:=.tup [.str "row",.str "row"]
def SX:cO:=.dct [.inr "number",.inr "pick",.inr "load",.inr "take",.inr "store",.inr "put"] [.tup [.str "word"],.tup [.str "row",.str "row",.str "row"],.tup [.str "place"],.tup [.str "place",.str "row",.str "row"],.tup [.str "place",.str "row"],.tup [.str "place",.str "row",.str "row"]]
def W0:cO:=.tup [.str "store",.str "put"]
noncomputable abbrev OY:List Us:=["NoBlock","NoRow"]
noncomputable abbrev UY:List Us:=["NoBlock","NoCells","NoRow","NoLanes","NoPlan","NoProgram","NoTree","NoLoop","NoText","NoName","TooMany","TooLong","NotValid","Nothing"]
def SD:VS:=
   (bZ (WM (G2 (fB (f2 QV (fV 0) (fC (.ty "bool")))) (R6 (fB (f2 QV (fV 0) (fC (.ty "int"))))))
   (bC (fC (.bl false)))
   ZQ)
   (bC (f3 oLe oLe (fV 1) (fV 0) (fV 2))))
def bV:aS:=ZH 3 [] SD
def NW:VS:=
   (bZ (WM (fB (f2 (Z0 false) (fV 0) (fC DV)))
   (bC (fC RA))
   ZQ)
   (bC (f2 Wj (fC SX) (fV 0))))
def aK:aS:=ZH 1 [] NW
def W7:VS:=
   (bC (f2 (Z0 true) (f2 bJ (fV 0) (fC (.int 0))) (fC W0)))
def aX:aS:=ZH 1 [] W7
def NV:VS:=
   (bZ (ML 1 2 (fV 0))
   (bC (ZG [] 2 (iZip (cA 1 [] aK (aE (fV 1) bT)) (fV 2)) (FV 2 (Z8 (gN 0) (Z8 (gN 1) V1))) (fB (f2 VT (fV 0) (fC (.str "row")))) (fV 1))))
def YN:aS:=ZH 3 [] NV
def WT:VS:=
   (bC (NS (cA 3 [] bV (aE (fV 0) (aE (fC (.int 0)) (aE (f2 OB (f1 YW (fV 1)) (fC (.int 1))) bT)))) (f2 bJ (fV 1) (fV 0))))
def ZY:aS:=ZH 2 [] WT
def QL:VS:=
   (bZ (WM (fB (f2 VT (fV 0) (fC (.str "word"))))
   (bC (cA 3 [] bV (aE (fV 1) (aE (fC (.int 0)) (aE (fC UC) bT)))))
   ZQ)
   (bZ (WM (fB (f2 VT (fV 0) (fC (.str "place"))))
   (bC (cA 3 [] bV (aE (fV 1) (aE (fC (.int 0)) (aE (fC VD) bT)))))
   ZQ)
   (bC (cA 2 [] ZY (aE (fV 1) (aE (fV 2) bT))))))
def XB:aS:=ZH 3 [] QL
def RF:VS:=
   (bZ (WM (G2 (R6 (fB (f2 QV (fV 0) (fC (.ty "tuple"))))) (fB (f2 VT (f1 YW (fV 0)) (fC (.int 0)))))
   (bC (fC (.bl false)))
   ZQ)
   (bZ (ML 2 3 (fV 0))
   (bZ (aD 4 (xV (fIf (fB (f2 QV (fV 2) (fC (.ty "str")))) (cA 1 [] aK (aE (fV 2) bT)) (fC .non))))
   (bZ (WM (G2 (fB (f2 F5 (fV 4) (fC .non))) (fB (f2 P9 (f1 YW (fV 4)) (f1 YW (fV 3)))))
   (bC (fC (.bl false)))
   ZQ)
   (bC (f1 oAll (ZG [1] 2 (iZip (fV 4) (fV 3)) (FV 2 (Z8 (gN 1) (Z8 (gN 2) V1))) R7 (cA 3 [] XB (aE (fV 1) (aE (fV 2) (aE (fV 0) bT)))))))))))
def Z5:aS:=ZH 5 [] RF
def ZJ:VS:=
   (bZ (WM (R6 (fB (cA 2 [] Z5 (aE (fV 4) (aO 3 bT)))))
   (bC (fC (.bl false)))
   ZQ)
   (WC 3 UJ (cN (cA 1 [] aX (aE (fV 4) bT)) b6)))
def VJ:VS:=
   (bZ (WM (G2 (R6 (fB (f2 QV (fV 0) (fC (.ty "tuple"))))) (fB (f2 P9 (f1 YW (fV 0)) (fC (.int 2)))))
   (bC (fC (.bl false)))
   ZQ)
   (bZ (sAsg (fV 0) (FV 2 (Z8 (gN 1) (Z8 (gN 2) V1))))
   (bZ (WM (R6 (fB (cA 3 [] bV (aE (fV 1) (aE (fC (.int 0)) (aE (fC WH) bT))))))
   (bC (fC (.bl false)))
   ZQ)
   (bZ (WM (G2 (R6 (fB (f2 QV (fV 2) (fC (.ty "tuple"))))) (fB (f2 oGt (f1 YW (fV 2)) (fC WG))))
   (bC (fC (.bl false)))
   ZQ)
   (bZ (aD 3 (xO (ZT b6)))
   (bZ (QY (TK (fV 2)) (gN 4)
   ZJ)
   (bC (fC (.bl true)))))))))
def bQ:aS:=ZH 5 [] VJ
def RG:VS:=
   (bZ (WM (R6 (fB (cA 1 [] bQ (aE (fV 0) bT))))
   (λ_=>none)
   ZQ)
   (bZ (aD 2 (xV (f2 bJ (fV 0) (fC (.int 1)))))
   (bZ (WM (R6 (fB (cA 3 [] bV (aE (fV 1) (aE (fC (.int 0)) (aE (f2 OB (f1 YW (fV 2)) (fC (.int 1))) bT))))))
   (λ_=>none)
   ZQ)
   (bC (f2 bJ (fV 2) (fV 1))))))
def ZF:aS:=ZH 3 [] RG
def O0:VZ:=
   (A9 (zIf (R6 (fB (cA 1 [] bQ (aE (fV 0) bT)))) (λδ=>some (("NoBlock",none),δ)) zNo)
   (BA (WM (R6 (fB (cA 1 [] bQ (aE (fV 0) bT))))
   (λ_=>none)
   ZQ)
   (BA (aD 2 (xV (f2 bJ (fV 0) (fC (.int 1)))))
   (zIf (R6 (fB (cA 3 [] bV (aE (fV 1) (aE (fC (.int 0)) (aE (f2 OB (f1 YW (fV 2)) (fC (.int 1))) bT)))))) (PR "NoRow" "row" (aE (fV 1) bT)) zNo))))
def YU:List cO->Option Xw:=KS 3 O0
def PK:VS:=
   (bC (cA 1 [] aX (aE (cA 2 [] ZF (aE (fV 0) (aE (fV 1) bT))) bT)))
def XX:aS:=ZH 2 [] PK
def K5:VZ:=
   (QC 2 YU (aE (fV 0) (aE (fV 1) bT)))
def TR:List cO->Option Xw:=KS 2 K5
def PL:VS:=
   (bC (cA 1 [] YN (aE (cA 2 [] ZF (aE (fV 0) (aE (fV 1) bT))) bT)))
def XY:aS:=ZH 2 [] PL
def K6:VZ:=
   (QC 2 YU (aE (fV 0) (aE (fV 1) bT)))
def TU:List cO->Option Xw:=KS 2 K6
def U4:VS:=
   (aD 2 (xV (f2 ED (fV 2) (fC (.int 1000003)))))
def V8:VS:=
   (bZ (WM (fB (f2 oLt (fV 1) (f1 YW (fV 0))))
   (bC (f2 bJ (fV 0) (fV 1)))
   ZQ)
   (bZ (WM (fB (f2 VT (fV 0) (ZT b6)))
   (bC (fC (.int 0)))
   ZQ)
   (bZ (aD 2 (xV (f2 bJ (fV 0) (f2 KH (fV 1) (f1 YW (fV 0))))))
   (bZ (QY (BG (f2 oMin (f2 ED (fV 1) (f1 YW (fV 0))) (fC (.int 60)))) (gN 3)
   U4)
   (bC (f2 Z6 (f2 Z6 (f2 OC (f2 bJ (fV 0) (f2 KH (fV 1) (f1 YW (fV 0)))) (fC (.int 31))) (fV 1)) (f2 OC (fV 2) (fC (.int 101)))))))))
def Z2:aS:=ZH 4 [] V8
def UD:VS:=
   (bZ (aD 3 (xV (f2 KH (f2 Z6 (f2 Z6 (f2 OC (cA 2 [] Z2 (aE (fV 0) (aE (fV 1) bT))) (fC (.int 1103515245))) (f2 OC (fC (.int 7919)) (fV 1))) (fC (.int 12345))) (fC (.int 2147483647)))))
   (bC (f2 KH (f2 KH (f2 KH (f2 oPow (fV 3) (fC (.int 5))) (fC (.int 2147483647))) (fC (.int 999983))) (fV 2))))
def YK:aS:=ZH 4 [] UD
def SE:VS:=
   (bZ (WC 1 UJ (cN (fC (.int 0)) b6))
   (bC (cA 3 [] YK (aE (fV 0) (aE (f1 YW (fO 1)) (aE (fV 2) bT))))))
def bR:aS:=ZH 3 [1] SE
def SI:VS:=
   (bC (f2 bJ (fV 2) (cA 3 [1] bR (aE (fV 0) (aO 1 (aE (f1 YW (fV 2)) bT))))))
def bW:aS:=ZH 3 [1] SI
def UE:VS:=
   (bZ (IP 2 (fV 3) (f2 KH (f2 Z6 (J1 2 (fV 3) (cA 3 [1] bR (aE (fV 0) (aO 1 (aE (fV 4) bT))))) (cA 3 [1] bW (aE (fV 0) (aO 1 (aE (ZT (cN (fC (.int 1)) (cN (fC (.int 1)) (cN (fC (.int 1)) (cN (fC (.int 0)) (cN (fC (.int 3)) b6)))))) bT))))) (fV 4)))
   (bC (f2 bJ (fO 2) (fV 3))))
def aF:aS:=ZH 5 [1,2] UE
def QN:VS:=
   (bZ (aD 5 (xV (cA 3 [1] bR (aE (fV 0) (aO 1 (aE (fC (.int 13)) bT))))))
   (bZ (WM (G2 (fB (f2 VT (fV 2) (ZT b6))) (fB (f2 VT (fV 5) (fC (.int 0)))))
   (bZ (WM (fB (f2 VT (cA 3 [1] bR (aE (fV 0) (aO 1 (aE (fC (.int 2)) bT)))) (fC (.int 0))))
   (bC (aT (cN (fC (.str "number")) (cN (cA 3 [1] bW (aE (fV 0) (aO 1 (aE (ZT (cN (fC (.int 0)) (cN (fC (.int 1)) (cN (fC (.int 2)) (cN (fC (.int 5)) (cN (fC (.int 999)) (cN (cA 3 [1] bR (aE (fV 0) (aO 1 (aE (fC (.int 1000)) bT)))) b6))))))) bT)))) b6))))
   ZQ)
   (bC (aT (cN (fC (.str "load")) (cN (cA 5 [1,2] aF (aE (fV 0) (aO 1 (aO 3 (aE (fC (.str "load")) (aE (fV 4) bT)))))) b6)))))
   ZQ)
   (bZ (sAsg (ZG [0,1,2] 1 (BG (fC (.int 3))) (gN 3) R7 (f2 bJ (fV 2) (f2 oMax (fC (.int 0)) (f2 OB (f2 OB (f1 YW (fV 2)) (fC (.int 1))) (cA 3 [1] bR (aE (fV 0) (aO 1 (aE (fC (.int 6)) bT)))))))) (FV 3 (Z8 (gN 6) (Z8 (gN 7) (Z8 (gN 8) V1)))))
   (bZ (WM (fB (f2 (Z0 false) (fV 5) (aT (cN (fC (.int 1)) (cN (fC (.int 2)) b6)))))
   (bC (aT (cN (fC (.str "load")) (cN (cA 5 [1,2] aF (aE (fV 0) (aO 1 (aO 3 (aE (fC (.str "load")) (aE (fV 4) bT)))))) b6))))
   ZQ)
   (bZ (WM (fB (f2 VT (fV 5) (fC (.int 3))))
   (bC (aT (cN (fC (.str "take")) (cN (cA 5 [1,2] aF (aE (fV 0) (aO 1 (aO 3 (aE (fC (.str "take")) (aE (fV 4) bT)))))) (cN (fV 8) (cN (fV 6) b6))))))
   ZQ)
   (bZ (WM (fB (f2 (Z0 false) (fV 5) (aT (cN (fC (.int 4)) (cN (fC (.int 5)) b6)))))
   (bC (aT (cN (fC (.str "store")) (cN (cA 5 [1,2] aF (aE (fV 0) (aO 1 (aO 3 (aE (fC (.str "store")) (aE (fV 4) bT)))))) (cN (fV 6) b6)))))
   ZQ)
   (bZ (WM (fB (f2 VT (fV 5) (fC (.int 6))))
   (bC (aT (cN (fC (.str "put")) (cN (cA 5 [1,2] aF (aE (fV 0) (aO 1 (aO 3 (aE (fC (.str "put")) (aE (fV 4) bT)))))) (cN (fV 6) (cN (fV 8) b6))))))
   ZQ)
   (bZ (WM (fB (f2 VT (fV 5) (fC (.int 7))))
   (bC (aT (cN (fC (.str "pick")) (cN (fV 8) (cN (fV 6) (cN (fV 7) b6))))))
   ZQ)
   (bC (aT (cN (f2 bJ (ZT (cN (fC (.str "over")) (cN (fC (.str "plus")) (cN (fC (.str "minus")) (cN (fC (.str "times")) (cN (fC (.str "least")) (cN (fC (.str "most")) (cN (fC (.str "less")) b6)))))))) (cA 3 [1] bR (aE (fV 0) (aO 1 (aE (fC (.int 7)) bT))))) (cN (fV 6) (cN (fV 7) b6)))))))))))))
def WY:aS:=ZH 9 [1,3] QN
def Y4:VS:=
   (bZ (aD 10 (xV (f2 Z6 (f2 F4 (fV 3) (fV 9)) (cA 3 [1] bW (aE (fV 0) (aO 1 (aE (ZT (cN (fC (.int 1)) (cN (fC (.int 1)) (cN (fC (.int 1)) (cN (fC (.int 1)) (cN (f1 QW (fC (.int 1))) (cN (fC (.int 0)) (cN (fC (.int 2)) b6)))))))) bT)))))))
   (WC 8 UJ (cN (fIf (NI (fB (f3 oLe oLt (fC (.int 0)) (fV 10) (f1 YW (fV 3)))) (fB (f2 P9 (f2 bJ (fV 3) (fV 10)) (f2 OB (f1 YW (fV 2)) (fC (.int 1)))))) (f2 bJ (fV 3) (fV 10)) (fV 9)) b6)))
def VL:VS:=
   (bZ (aD 6 (xV (f2 bJ (fV 2) (f1 QW (fC (.int 1))))))
   (bZ (aD 7 (xV (fIf (fB (f2 (Z0 false) (f2 bJ (fV 6) (fC (.int 0))) (aT (cN (fC (.str "load")) (cN (fC (.str "take")) (cN (fC (.str "store")) (cN (fC (.str "put")) b6))))))) (fC (.int 2)) (fC (.int 1)))))
   (bZ (aD 8 (xO (ZT b6)))
   (bZ (QY (TK (J2 (fV 6) (KM (fV 7)) IE)) (gN 9)
   Y4)
   (bZ (WM (fB (f2 VT (fV 7) (fC (.int 1))))
   (bC (f2 Z6 (J2 (fV 6) IE (KM (fC (.int 1)))) (f1 UL (fO 8))))
   ZQ)
   (bZ (IP 4 (f2 bJ (fV 6) (fC (.int 0))) (f2 KH (f2 Z6 (f2 bJ (fV 6) (fC (.int 1))) (fC (.int 1))) (fV 5)))
   (bC (f2 Z6 (aT (cN (f2 bJ (fV 6) (fC (.int 0))) (cN (f2 bJ (fO 4) (f2 bJ (fV 6) (fC (.int 0)))) b6))) (f1 UL (fO 8))))))))))
def ZI:aS:=ZH 11 [1,4] VL
def Y5:VS:=
   (WM (NI (fB (f2 oLt (f1 YW (fO 4)) (fV 2))) (fB (f2 P9 (f2 bJ (f2 bJ (fO 4) (f1 QW (fC (.int 1)))) (fC (.int 0))) (fC (.str "number")))))
   (bZ (WC 4 UJ (cN (cA 6 [1,4] ZI (aE (fV 0) (aO 1 (aO 4 (aO 5 (aO 6 (aE (fV 3) bT))))))) b6))
   (WM (fB (f2 (Z0 true) (f2 bJ (f2 bJ (fO 4) (f1 QW (fC (.int 1)))) (fC (.int 0))) (aT (cN (fC (.str "store")) (cN (fC (.str "put")) b6)))))
   (WC 5 UJ (cN (f2 OB (f1 YW (fO 4)) (fC (.int 1))) b6))
   ZQ))
   ZQ)
def W5:VS:=
   (bZ (WC 4 UJ (cN (cA 5 [1,3] WY (aE (fV 0) (aO 1 (aO 5 (aO 6 (aE (fV 3) bT)))))) b6))
   (bZ (WM (fB (f2 (Z0 true) (f2 bJ (f2 bJ (fO 4) (f1 QW (fC (.int 1)))) (fC (.int 0))) (aT (cN (fC (.str "store")) (cN (fC (.str "put")) b6)))))
   (WC 5 UJ (cN (f2 OB (f1 YW (fO 4)) (fC (.int 1))) b6))
   ZQ)
   (QY (BG (cA 3 [1] bW (aE (fV 0) (aO 1 (aE (ZT (cN (fC (.int 0)) (cN (fC (.int 1)) (cN (fC (.int 1)) (cN (fC (.int 2)) (cN (fC (.int 3)) b6)))))) bT))))) (gN 7)
   Y5)))
def SJ:VS:=
   (bZ (OL 4 5 6 (xO (ZT b6)) (xO (ZT b6)) (xO (fC (.dct [] []))))
   (bZ (SS (fB (f2 oLt (f1 YW (fO 4)) (fV 2)))
   W5)
   (bC (f1 UL (fO 4)))))
def X2:aS:=ZH 8 [1] SJ
def P6:VS:=
   (bZ (WM (fB (f2 VT (f2 bJ (fV 0) (fC (.int 0))) (fC (.str "number"))))
   (bC (ZT b6))
   ZQ)
   (bC (fIf (fB (f2 (Z0 false) (f2 bJ (fV 0) (fC (.int 0))) (aT (cN (fC (.str "load")) (cN (fC (.str "take")) (cN (fC (.str "store")) (cN (fC (.str "put")) b6))))))) (f1 SZ (J2 (fV 0) (KM (fC (.int 2))) IE)) (f1 SZ (J2 (fV 0) (KM (fC (.int 1))) IE)))))
def Z3:aS:=ZH 1 [] P6
def QM:VS:=
   (bZ (aD 2 (xV (f2 bJ (f2 bJ (fV 0) (fC (.int 1))) (fV 1))))
   (bZ (WM (fB (f2 (Z0 false) (f2 bJ (fV 2) (fC (.int 0))) (aT (cN (fC (.str "load")) (cN (fC (.str "take")) (cN (fC (.str "store")) (cN (fC (.str "put")) b6)))))))
   (bC (f2 oGe (f2 bJ (fV 2) (fC (.int 1))) (f2 bJ (fV 0) (fC (.int 0)))))
   ZQ)
   (bC (NS (f2 VT (f2 bJ (fV 2) (fC (.int 0))) (fC (.str "over"))) (f2 (Z0 true) (J2 (f2 bJ (f2 bJ (fV 0) (fC (.int 1))) (f2 bJ (fV 2) (fC (.int 2)))) IE (KM (fC (.int 2)))) (ZG [] 1 (iR2 (fC (.int 1)) (fC (.int 1000))) (gN 0) R7 (aT (cN (fC (.str "number")) (cN (fV 0) b6)))))))))
def Y3:aS:=ZH 3 [] QM
def W3:VS:=
   (bZ (aD 7 (xV (ZG [] 1 (TK (aT (cN (fV 6) (cN (fV 4) b6)))) (gN 0) (fB (f2 (Z0 false) (f2 bJ (fV 0) (fC (.int 0))) (aT (cN (fC (.str "store")) (cN (fC (.str "put")) b6))))) (fV 0))))
   (bZ (aD 8 (xO (ZT (cN (f2 (Z0 false) (fV 5) (cA 1 [] Z3 (aE (fV 4) bT))) (cN (NS (cA 2 [] Y3 (aE (fV 0) (aE (fV 5) bT))) (cA 2 [] Y3 (aE (fV 0) (aE (fV 3) bT)))) b6)))))
   (bZ (WC 8 UJ (cN (NS (f2 (Z0 false) (f2 bJ (fV 6) (fC (.int 0))) (fV 2)) (NS (f2 (Z0 false) (f2 bJ (fV 4) (fC (.int 0))) (fV 2)) (NS (f2 VT (f2 bJ (fV 6) (fC (.int 1))) (f2 bJ (fV 4) (fC (.int 1)))) (f2 P9 (fV 7) (ZT b6))))) b6))
   (bZ (WC 8 UJ (cN (NS (cA 2 [] Y3 (aE (fV 0) (aE (fV 5) bT))) (f2 (Z0 false) (f2 bJ (fV 4) (fC (.int 0))) (aT (cN (fC (.str "store")) (cN (fC (.str "put")) b6))))) b6))
   (bZ (WC 8 UJ (cN (NS (cA 2 [] Y3 (aE (fV 0) (aE (fV 3) bT))) (f2 (Z0 false) (f2 bJ (fV 6) (fC (.int 0))) (aT (cN (fC (.str "store")) (cN (fC (.str "put")) b6))))) b6))
   (WM (fB (f2 (Z0 false) (fC (.bl true)) (fO 8)))
   (WC 1 UJ (cN (aT (cN (fV 5) (cN (fV 3) b6))) b6))
   ZQ))))))
def W4:VS:=
   (QY (NX (J2 (f2 bJ (fV 0) (fC (.int 1))) IE (KM (fV 3)))) (FV 2 (Z8 (gN 5) (Z8 (gN 6) V1)))
   W3)
def SG:VS:=
   (bZ (E4 1 2 (xO (ZT b6)) (xV (aT (cN (fC (.str "load")) (cN (fC (.str "take")) (cN (fC (.str "store")) (cN (fC (.str "put")) b6)))))))
   (bZ (QY (NX (f2 bJ (fV 0) (fC (.int 1)))) (FV 2 (Z8 (gN 3) (Z8 (gN 4) V1)))
   W4)
   (bC (f1 F6 (fO 1)))))
def X1:aS:=ZH 9 [] SG
def ZP:VS:=
   (bZ (aD 6 (xV (ZG [3,4] 1 (TK (fO 4)) (gN 2) (fB (f2 VT (ZG [1,2] 2 (TK (fV 0)) (FV 2 (Z8 (gN 2) (Z8 (gN 3) V1))) (NI (fB (f2 VT (fV 3) (fV 1))) (fB (f2 (Z0 false) (fV 2) (fO 0)))) (fC (.int 1))) (ZT b6))) (fV 2))))
   (bZ (WC 5 UJ (cN (cA 3 [1] bW (aE (fV 0) (aO 1 (aE (fV 6) bT)))) b6))
   (WC 4 mRem (cN (f2 bJ (fO 5) (f1 QW (fC (.int 1)))) b6))))
def YD:VS:=
   (bZ (OL 3 4 5 (xV (cA 1 [] X1 (aE (fV 2) bT))) (xO (T2 (f1 YW (f2 bJ (fV 2) (fC (.int 1)))))) (xO (ZT b6)))
   (bZ (SS (fB (f2 P9 (fO 4) (ZT b6)))
   ZP)
   (bC (fO 5))))
def aA:aS:=ZH 7 [1] YD
def aJ:VS:=
   (bZ (WM (fB (f2 VT (f2 bJ (fV 0) (fC (.int 0))) (fC (.str "number"))))
   (bC (fV 0))
   ZQ)
   (bZ (aD 2 (xV (fIf (fB (f2 (Z0 false) (f2 bJ (fV 0) (fC (.int 0))) (aT (cN (fC (.str "load")) (cN (fC (.str "take")) (cN (fC (.str "store")) (cN (fC (.str "put")) b6))))))) (fC (.int 2)) (fC (.int 1)))))
   (bC (f2 Z6 (J2 (fV 0) IE (KM (fV 2))) (f1 UL (ZG [1] 1 (TK (J2 (fV 0) (KM (fV 2)) IE)) (gN 1) R7 (f2 bJ (fV 0) (fV 1))))))))
def bO:aS:=ZH 3 [] aJ
def WI:VS:=
   (bZ (aD 3 (xV (cA 3 [1] bW (aE (fV 0) (aO 1 (aE (ZT (cN (fC (.int 3)) (cN (fC (.int 6)) (cN (fC (.int 9)) (cN (fC (.int 64)) b6))))) bT))))))
   (bZ (aD 4 (xV (cA 3 [1] bW (aE (fV 0) (aO 1 (aE (ZT (cN (fC (.int 0)) (cN (fV 3) (cN (fV 3) (cN (cA 3 [1] bR (aE (fV 0) (aO 1 (aE (f2 Z6 (fV 3) (fC (.int 1))) bT)))) b6))))) bT))))))
   (bZ (aD 5 (xV (aT (cN (fV 4) (cN (cA 4 [1] X2 (aE (fV 0) (aO 1 (aE (cA 3 [1] bR (aE (fV 0) (aO 1 (aE (f2 Z6 (fV 2) (fC (.int 1))) bT)))) (aE (fV 3) bT))))) b6)))))
   (bZ (WM (fB (f2 oGt (cA 3 [1] bR (aE (fV 0) (aO 1 (aE (fC (.int 3)) bT)))) (fC (.int 0))))
   (bC (fV 5))
   ZQ)
   (bZ (aD 6 (xV (cA 3 [1] aA (aE (fV 0) (aO 1 (aE (fV 5) bT))))))
   (bZ (aD 7 (xV (f1 EC (ZG [] 2 (NX (fV 6)) (FV 2 (Z8 (gN 0) (Z8 (gN 1) V1))) R7 (aT (cN (fV 1) (cN (fV 0) b6)))))))
   (bC (aT (cN (fV 4) (cN (f1 UL (ZG [5,7] 1 (TK (fV 6)) (gN 2) R7 (cA 2 [] bO (aE (f2 bJ (f2 bJ (fV 0) (fC (.int 1))) (fV 2)) (aE (fV 1) bT))))) b6))))))))))
def ZN:aS:=ZH 8 [1] WI
def P7:VS:=
   (bZ (aD 1 (xO (ZT (cN (f2 (UK OY UY) (fV 0) (fC (.fn "NoBlock"))) (cN (f2 (UK OY UY) (fV 0) (fC (.fn "NoCells"))) (cN (f2 (UK OY UY) (fV 0) (fC (.fn "NoRow"))) (cN (f2 (UK OY UY) (fV 0) (fC (.fn "NoLanes"))) b6)))))))
   (bZ (WC 1 mExt (cN (ZT (cN (f2 (UK OY UY) (fV 0) (fC (.fn "NoPlan"))) (cN (f2 (UK OY UY) (fV 0) (fC (.fn "NoProgram"))) (cN (f2 (UK OY UY) (fV 0) (fC (.fn "NoTree"))) (cN (f2 (UK OY UY) (fV 0) (fC (.fn "NoLoop"))) b6))))) b6))
   (bZ (WC 1 mExt (cN (ZT (cN (f2 (UK OY UY) (fV 0) (fC (.fn "NoText"))) (cN (f2 (UK OY UY) (fV 0) (fC (.fn "NoName"))) (cN (f2 (UK OY UY) (fV 0) (fC (.fn "TooMany"))) (cN (f2 (UK OY UY) (fV 0) (fC (.fn "TooLong"))) b6))))) b6))
   (bZ (WC 1 mExt (cN (ZT (cN (f2 (UK OY UY) (fV 0) (fC (.fn "NotValid"))) (cN (f2 (UK OY UY) (fV 0) (fC (.fn "Nothing"))) b6))) b6))
   (bZ (WM (G2 (fB (f2 P9 (f2 KB (fO 1) (fC (.bl true))) (fC (.int 1)))) (R6 (fB (f2 (UK OY UY) (fV 0) (fC (.ty "ValueError"))))))
   (bC (aT (cN (fC (.str "refused")) (cN (f1 QW (fC (.int 1))) b6))))
   ZQ)
   (bC (aT (cN (fC (.str "refused")) (cN (f2 KG (fO 1) (fC (.bl true))) b6)))))))))
def YL:aS:=ZH 2 [] P7
def SH:VS:=
   (bZ (aD 2 (xV (fC (.lst [.non,.int 5,.tup [],.tup [.int 0],.tup [.int 0,.lst []],.lst [.int 0,.tup []],.tup [.int (-1),.tup []],.tup [.int 65,.tup []],.tup [.bl true,.tup []],.tup [.str "0",.tup []],.tup [.int 0,.tup [],.tup []],.tup [.int 0,.tup [.tup []]]]))))
   (bZ (aD 2 (xV (f2 Z6 (fV 2) (fC (.lst [.tup [.int 0,.tup [.tup [.str "number"]]],.tup [.int 0,.tup [.tup [.str "number",.int 1000]]],.tup [.int 0,.tup [.tup [.str "plus",.int 0,.int 0]]],.tup [.int 0,.tup [.lst [.str "load",.int 0]]]])))))
   (bZ (aD 2 (xV (f2 Z6 (fV 2) (fC (.lst [.tup [.int 0,.tup [.tup [.str "load",.int 64]]],.tup [.int 0,.tup [.tup [.str "load",.int (-1)]]],.tup [.int 0,.tup [.tup [.str "halve",.int 0]]],.tup [.int 0,.tup [.tup [.int 5,.int 0]]]])))))
   (bZ (aD 2 (xV (f2 Z6 (fV 2) (ZT (cN (fC (.tup [.int 0,.tup [.tup [.str "number",.int 1],.tup [.str "store",.int 0,.int 0],.tup [.str "plus",.int 0,.int 1]]])) (cN (aT (cN (fC (.int 0)) (cN (f2 RO (fC (.tup [.tup [.str "number",.int 1]])) (fC (.int 41))) b6))) b6))))))
   (bZ (aD 2 (xV (f2 Z6 (fV 2) (fC (.lst [.tup [.int 0,.tup [.tup [.str "number",.int 1],.tup [.str "plus",.int 0,.int 1]]]])))))
   (bC (cA 3 [1] bW (aE (fV 0) (aO 1 (aE (fV 2) bT))))))))))
def YM:aS:=ZH 3 [1] SH
def T3:VS:=
   (E5 (bC (NT 2 [] [("makes",XX),("named",XY)] (f2 bJ (ZT (cN (fC (.fn "makes")) (cN (fC (.fn "named")) b6))) (fV 0)) (aE (fV 1) (aE (fV 2) bT))))
   (OZ 2 [("makes",TR),("named",TU)] (f2 bJ (ZT (cN (fC (.fn "makes")) (cN (fC (.fn "named")) b6))) (fV 0)) (aE (fV 1) (aE (fV 2) bT)))
   3 OY "NoRow" (bC (aT (cN (fC (.str "row")) (cN (f1 (N9 ["NoRow"] "row") (fV 3)) (cN (cA 1 [] YL (aE (fV 3) bT)) b6))))) (bC (cA 1 [] YL (aE (fV 3) bT))))
def Z9:aS:=ZH 4 [] T3
def P5:VS:=
   (bZ (WM (fB (f2 (Z0 false) (f2 bJ (fV 0) (fC (.int 0))) (aT (cN (fC (.str "store")) (cN (fC (.str "put")) (cN (fC (.str "load")) (cN (fC (.str "take")) (cN (fC (.str "number")) b6))))))))
   (bC (f1 SZ (J2 (fV 0) (KM (fC (.int 2))) IE)))
   ZQ)
   (bC (f1 SZ (J2 (fV 0) (KM (fC (.int 1))) IE))))
def XT:aS:=ZH 1 [] P5
def Q9:VS:=
   (WM (fB (f2 P9 (ZG [2,7] 1 (BG (fC (.int 2))) (gN 2) R7 (cA 3 [] Z9 (aE (fV 2) (aE (fV 0) (aE (fV 1) bT))))) (f2 RO (ZT (cN (aT (cN (fC (.str "row")) (cN (fV 7) (cN (aT (cN (fC (.str "refused")) (cN (fC (.int 2)) b6))) b6)))) b6)) (fC (.int 2)))))
   (bC (fC (.bl false)))
   ZQ)
def TY:VS:=
   (bZ (aD 5 (xV (f2 bJ (f2 bJ (fV 2) (fC (.int 1))) (fV 4))))
   (WM (G2 (fB (f2 P9 (cA 2 [] XX (aE (fV 2) (aE (fV 4) bT))) (f2 (Z0 true) (f2 bJ (fV 5) (fC (.int 0))) (aT (cN (fC (.str "store")) (cN (fC (.str "put")) b6)))))) (fB (f2 P9 (cA 2 [] XY (aE (fV 2) (aE (fV 4) bT))) (cA 1 [] XT (aE (fV 5) bT)))))
   (bC (fC (.bl false)))
   ZQ))
def Vt:VS:=
   (bZ (aD 1 (xO (ZT b6)))
   (bZ (aD 2 (xV (cA 3 [1] ZN (aE (fV 0) (aO 1 (aE (fC (.int 40)) bT))))))
   (bZ (aD 3 (xV (f1 YW (f2 bJ (fV 2) (fC (.int 1))))))
   (bZ (WM (G2 (fB (f2 S9 (cA 1 [] bQ (aE (fV 2) bT)) (fC (.bl true)))) (fB (f2 S9 (cA 1 [] bQ (aE (aT (cN (fC (.int 64)) (cN (f2 bJ (fV 2) (fC (.int 1))) b6))) bT)) (fC (.bl true)))))
   (bC (fC (.bl false)))
   ZQ)
   (bZ (QY (BG (fV 3)) (gN 4)
   TY)
   (bZ (aD 6 (xV (cA 2 [1] YM (aE (fV 0) (aO 1 bT)))))
   (bZ (WM (G2 (fB (f2 S9 (cA 1 [] bQ (aE (fV 6) bT)) (fC (.bl false)))) (fB (f2 P9 (ZG [6] 1 (BG (fC (.int 2))) (gN 1) R7 (cA 3 [] Z9 (aE (fV 1) (aE (fV 0) (aE (fC .non) bT))))) (f2 RO (fC (.lst [.tup [.str "refused",.int 0]])) (fC (.int 2))))))
   (bC (fC (.bl false)))
   ZQ)
   (bZ (QY (TK (ZT (cN (fC .non) (cN (f1 QW (fC (.int 1))) (cN (fC (.str "0")) (cN (fV 3) (cN (ZT (cN (fC (.int 0)) b6)) b6))))))) (gN 7)
   Q9)
   (bZ (WM (fB (f2 VT (fV 3) (fC (.int 0))))
   (bC (fC (.bl true)))
   ZQ)
   (bZ (aD 8 (xV (cA 3 [1] bR (aE (fV 0) (aO 1 (aE (fV 3) bT))))))
   (bZ (aD 9 (xO (ZT (cN (aT (cN (fC (.str "plus")) (cN (fC (.int 0)) (cN (fV 8) b6)))) (cN (aT (cN (fC (.str "number")) (cN (f1 QW (fC (.int 1))) b6))) (cN (aT (cN (fC (.str "load")) (cN (fC (.str "0")) b6))) (cN (aT (cN (fC (.str "plus")) (cN (fC (.int 0)) b6))) (cN (aT (cN (fC (.str "store")) (cN (fC (.int 0)) (cN (fC .non) b6)))) (cN (f1 SZ (f2 bJ (f2 bJ (fV 2) (fC (.int 1))) (fV 8))) b6)))))))))
   (bZ (WC 9 UJ (cN (aT (cN (fC (.str "number")) (cN (fC (.bl true)) b6))) b6))
   (bZ (sFrz 9 (aD 4 (xV (cA 3 [1] bW (aE (fV 0) (aO 1 (aE (fV 9) bT)))))))
   (bC (f2 oIsB (cA 1 [] bQ (aE (aT (cN (f2 bJ (fV 2) (fC (.int 0))) (cN (f2 Z6 (f2 Z6 (J2 (f2 bJ (fV 2) (fC (.int 1))) IE (KM (fV 8))) (aT (cN (fV 4) b6))) (J2 (f2 bJ (fV 2) (fC (.int 1))) (KM (f2 Z6 (fV 8) (fC (.int 1)))) IE)) b6))) bT)) (fC (.bl false)))))))))))))))))
def K7:aS:=ZH 10 [] Vt
end L2
namespace RR
open PySem L2
structure Txt(K:Ai)(mg:Us->Option Ul):Prop where
 fnm:∀x a,Et K Up x=some (some (.ref a))->mg x=some (.ref a)
 n_len:mg "len"=none
 n_range:mg "range"=none
 n_min:mg "min"=none
 n_max:mg "max"=none
 XM:mg "list"=none
 n_tuple:mg "tuple"=none
 n_sorted:mg "sorted"=none
 n_isinstance:mg "isinstance"=none
 n_bool:mg "bool"=none
 n_int:mg "int"=none
 n_str:mg "str"=none
 n_enumerate:mg "enumerate"=none
 n_zip:mg "zip"=none
 n_all:mg "all"=none
 n_dict:mg "dict"=none
 n_ValueError:mg "ValueError"=none
 v_DEEDS:∃u v,mg "DEEDS"=some u/\bS v u/\∀N H M,bB K N H M v DV
 v_DEED_PARTS:∃u v,mg "DEED_PARTS"=some u/\bS v u/\∀N H M,bB K N H M v RA
 v_MOST_PLACE:∃u v,mg "MOST_PLACE"=some u/\bS v u/\∀N H M,bB K N H M v VD
 v_MOST_ROWS:∃u v,mg "MOST_ROWS"=some u/\bS v u/\∀N H M,bB K N H M v WG
 v_MOST_SURE:∃u v,mg "MOST_SURE"=some u/\bS v u/\∀N H M,bB K N H M v WH
 v_MOST_WORD:∃u v,mg "MOST_WORD"=some u/\bS v u/\∀N H M,bB K N H M v UC
 v_OTHER_PARTS:∃u v,mg "OTHER_PARTS"=some u/\bS v u/\∀N H M,bB K N H M v SX
 v_WRITERS:∃u v,mg "WRITERS"=some u/\bS v u/\∀N H M,bB K N H M v W0
 v_Nothing:∃u v,mg "Nothing"=some u/\bS v u/\∀N H M,bB K N H M v (.fn "Nothing")
 v_NotValid:∃u v,mg "NotValid"=some u/\bS v u/\∀N H M,bB K N H M v (.fn "NotValid")
 v_TooLong:∃u v,mg "TooLong"=some u/\bS v u/\∀N H M,bB K N H M v (.fn "TooLong")
 v_TooMany:∃u v,mg "TooMany"=some u/\bS v u/\∀N H M,bB K N H M v (.fn "TooMany")
 v_NoName:∃u v,mg "NoName"=some u/\bS v u/\∀N H M,bB K N H M v (.fn "NoName")
 v_NoText:∃u v,mg "NoText"=some u/\bS v u/\∀N H M,bB K N H M v (.fn "NoText")
 v_NoLoop:∃u v,mg "NoLoop"=some u/\bS v u/\∀N H M,bB K N H M v (.fn "NoLoop")
 v_NoTree:∃u v,mg "NoTree"=some u/\bS v u/\∀N H M,bB K N H M v (.fn "NoTree")
 v_NoProgram:∃u v,mg "NoProgram"=some u/\bS v u/\∀N H M,bB K N H M v (.fn "NoProgram")
 v_NoPlan:∃u v,mg "NoPlan"=some u/\bS v u/\∀N H M,bB K N H M v (.fn "NoPlan")
 v_NoLanes:∃u v,mg "NoLanes"=some u/\bS v u/\∀N H M,bB K N H M v (.fn "NoLanes")
 v_NoRow:∃u v,mg "NoRow"=some u/\bS v u/\∀N H M,bB K N H M v (.fn "NoRow")
 v_NoCells:∃u v,mg "NoCells"=some u/\bS v u/\∀N H M,bB K N H M v (.fn "NoCells")
 v_NoBlock:∃u v,mg "NoBlock"=some u/\bS v u/\∀N H M,bB K N H M v (.fn "NoBlock")
 v_named:∃u v,mg "named"=some u/\bS v u/\∀N H M,bB K N H M v (.fn "named")
 v_makes:∃u v,mg "makes"=some u/\bS v u/\∀N H M,bB K N H M v (.fn "makes")
 x_NoBlock:∃C,XE K "NoBlock" C/\mg "NoBlock"=some (.ref C)
 x_NoRow:∃C,XZ K "NoRow" "row" C/\mg "NoRow"=some (.ref C)
 q_NoRow:∃Cy,mg "NoRow"=some (.ref Cy)/\∀x∈OY,∀C,Et K Up x=some (some (.ref C))->XQ K C Cy (decide (x= "NoRow"))
 xi:XI K OY UY
section
variable{P:As}{w:Uu}{K:Ai}{mg:Us->Option Ul}{base:Uw}{f:Um}{fd:Cu}
noncomputable abbrev Nx0:List Us:=["thing","low","high"]
abbrev Qx0:List Us:=["thing","low","high"]
theorem oG:bX Nx0 Qx0 (cL (top 19)):=YQ
theorem nA(F:X8 K "is_whole" "is_whole" (top 19) f fd)(T:Txt K mg):Z7 P w K mg base CX0 1 f fd Qx0 (spV K [] 3 bV):=
 RP P w K mg base Nx0 Qx0 0 SD [] F oG λ_ _ _ _ _ _ hr hu hu1=>by
  refine cK ?_ ?_
  ·exact(aR (Q5 (TD (YJ (DK T.n_isinstance (vv 0) (vty T.n_bool Zi))) (WE (XS (YJ (DK T.n_isinstance (vv 0) (vty T.n_int nY)))))))
   (cH (b8 Y2))
   bU)
  exact cH (b8 (AQ Vv Vv s_le s_le (vv 1) (vv 0) (vv 2)))
noncomputable abbrev Nx1:List Us:=["deed"]
abbrev Qx1:List Us:=["deed"]
theorem eN:bX Nx1 Qx1 (cL (top 27)):=YQ
theorem Za(F:X8 K "parts_of" "parts_of" (top 27) f fd)(T:Txt K mg):Z7 P w K mg base CX0 1 f fd Qx1 (spV K [] 1 aK):=
 RP P w K mg base Nx1 Qx1 0 NW [] F eN λ_ _ _ _ _ _ hr hu hu1=>by
  refine cK ?_ ?_
  ·exact (aR (a6 (TL (K := K) rfl hu) (YX (neg := false)) (vv 0) (bH (by rfl) T.v_DEEDS) (by with_unfolding_all rfl))
   (cH (b8 (bH (by rfl) T.v_DEED_PARTS)))
   bU)
  exact cH (b8 (gD rfl hu1 (bH (by rfl) T.v_OTHER_PARTS) (vv 0) ⟨rfl,rfl,rfl,rfl⟩))
noncomputable abbrev Nx2:List Us:=["row"]
abbrev Qx2:List Us:=["row"]
theorem fX:bX Nx2 Qx2 (cL (top 28)):=YQ
theorem jM(F:X8 K "makes_word" "makes_word" (top 28) f fd)(T:Txt K mg):Z7 P w K mg base CX0 1 f fd Qx2 (spV K [] 1 aX):=
 RP P w K mg base Nx2 Qx2 0 W7 [] F fX λ_ _ _ _ _ _ hr hu hu1=>by exact(cH (b8 (XR (RJ (K:=K) rfl hu) (YX (neg:=true)) (Y1 hu1 (vv 0) cM) (bH (by rfl) T.v_WRITERS) (by with_unfolding_all rfl))))
noncomputable abbrev Nx3:List Us:=["row","deed","rest"]
abbrev Qx3:List Us:=["row"]
theorem zF7:bX Nx3 Qx3 (cL (top 29)):=YQ
theorem eC(F:X8 K "names_of" "names_of" (top 29) f fd)(T:Txt K mg)(gq:bI P w K mg base "parts_of" 1 Qx1 [] aK f_x1):Z7 P w K mg base CX0 2 f fd Qx3 (spV K [] 1 YN):=
 RP P w K mg base Nx3 Qx3 1 NV [] F zF7 λ_ _ _ _ _ _ hr hu hu1=>by
  refine cK ?_ ?_
  ·exact(FG (i:=1) (j:=2) rfl rfl zF7.nd rfl rfl (by decide) (Gp rfl) (Gp rfl) (vv 0))
  exact cH (b8 (bK (YZ ["part","given"] [] 2 (AU rfl (by rfl) T.n_zip (cD (a8 gq hr (cI (vv 1) cG))) (vv 2)) (λhn _ _ _ _=>⟨(UU (K:=K) rfl rfl (aI (bG hn) (aI (bG hn) WN))),(K2 (UW hu (vv 0) cE)),(vv 1)⟩))))
noncomputable abbrev Nx4:List Us:=["thing","able"]
abbrev Qx4:List Us:=["thing","able"]
theorem lA:bX Nx4 Qx4 (cL (top 30)):=YQ
theorem cV(F:X8 K "may_name" "may_name" (top 30) f fd)(T:Txt K mg)(bn:bI P w K mg base "is_whole" 1 Qx0 [] bV f_x0):Z7 P w K mg base CX0 2 f fd Qx4 (spV K [] 2 ZY):=
 RP P w K mg base Nx4 Qx4 1 WT [] F lA λ_ _ _ _ _ _ hr hu hu1=>by exact(cH (b8 (UT (a8 bn hr (cI (vv 0) (cI cM (cI (cD (YI UO QB (WW T.n_len (vv 1)) cM)) cG)))) (Q4 (Y1 hu1 (vv 1) (vv 0))))))
noncomputable abbrev Nx5:List Us:=["part","thing","able"]
abbrev Qx5:List Us:=["part","thing","able"]
theorem lZ:bX Nx5 Qx5 (cL (top 31)):=YQ
theorem lI(F:X8 K "fits" "fits" (top 31) f fd)(T:Txt K mg)(bn:bI P w K mg base "is_whole" 1 Qx0 [] bV f_x0)(jt:bI P w K mg base "may_name" 2 Qx4 [] ZY f_x4):Z7 P w K mg base CX0 3 f fd Qx5 (spV K [] 3 XB):=
 RP P w K mg base Nx5 Qx5 2 QL [] F lZ λ_ _ _ _ _ _ hr hu hu1=>by
  refine cK ?_ ?_
  ·exact(aR (UW hu (vv 0) cE)
   (cH (b8 (a8 bn hr (cI (vv 1) (cI cM (cI (cD (bH (by rfl) T.v_MOST_WORD)) cG))))))
   bU)
  refine cK ?_ ?_
  ·exact(aR (UW hu (vv 0) cE)
   (cH (b8 (a8 bn hr (cI (vv 1) (cI cM (cI (cD (bH (by rfl) T.v_MOST_PLACE)) cG))))))
   bU)
  exact cH (b8 (a8 jt hr (cI (vv 1) (cI (vv 2) cG))))
noncomputable abbrev Nx6:List Us:=["thing","able","deed","rest","parts"]
abbrev Qx6:List Us:=["thing","able"]
theorem AB:bX Nx6 Qx6 (cL (top 32)):=YQ
theorem jJ(F:X8 K "is_row" "is_row" (top 32) f fd)(T:Txt K mg)(gq:bI P w K mg base "parts_of" 1 Qx1 [] aK f_x1)(js:bI P w K mg base "fits" 3 Qx5 [] XB f_x5):Z7 P w K mg base CX0 4 f fd Qx6 (spV K [] 2 Z5):=
 RP P w K mg base Nx6 Qx6 3 RF [] F AB λ_ _ _ _ _ _ hr hu hu1=>by
  refine cK ?_ ?_
  ·exact(aR (Q5 (TD (XS (YJ (DK T.n_isinstance (vv 0) (vty T.n_tuple XU)))) (WE (UW hu (WW T.n_len (vv 0)) cM))))
   (cH (b8 Y2))
   bU)
  refine cK ?_ ?_
  ·exact(FG (i:=2) (j:=3) rfl rfl AB.nd rfl rfl (by decide) (Gp rfl) (Gp rfl) (vv 0))
  refine cK ?_ ?_
  ·exact(bA AB.nd (ZX (cD (JH (YJ (DK T.n_isinstance (vv 2) (vty T.n_str oB))) (a8 gq hr (cI (vv 2) cG)) Q3))))
  refine cK ?_ ?_
  ·exact(aR (Q5 (TD (a6 jY eB (vv 4) Q3 (Z4 _)) (WE (a6 (N2 (K:=K) rfl hu) OM (WW T.n_len (vv 4)) (WW T.n_len (vv 3)) (Z4 _)))))
   (cH (b8 Y2))
   bU)
  exact cH (b8 (Wy (kAll (K:=K) rfl rfl) nW (by rfl) T.n_all iH (bK (YZ ["able","part","given"] [1] 2 (AU rfl (by rfl) T.n_zip (vv 4) (vv 3)) (λhn _ _ _ _=>⟨(UU (K:=K) rfl rfl (aI (bG hn) (aI (bG hn) WN))),US,(cD (a8 js hr (cI (vv 1) (cI (vv 2) (cI (vv 0) cG)))))⟩)))))
noncomputable abbrev Nx7:List Us:=["thing","sure","rows","able","row"]
abbrev Qx7:List Us:=["thing"]
theorem IT:bX Nx7 Qx7 (cL (top 33)):=YQ
theorem pJ(F:X8 K "is_block" "is_block" (top 33) f fd)(T:Txt K mg)(bn:bI P w K mg base "is_whole" 1 Qx0 [] bV f_x0)(cu:bI P w K mg base "makes_word" 1 Qx2 [] aX f_x2)(jr:bI P w K mg base "is_row" 4 Qx6 [] Z5 f_x6):Z7 P w K mg base CX0 5 f fd Qx7 (spV K [] 1 bQ):=
 RP P w K mg base Nx7 Qx7 4 VJ [] F IT λ_ _ _ _ _ _ hr hu hu1=>by
  refine cK ?_ ?_
  ·exact(aR (Q5 (TD (XS (YJ (DK T.n_isinstance (vv 0) (vty T.n_tuple XU)))) (WE (a6 (N2 (K:=K) rfl hu) OM (WW T.n_len (vv 0)) cM (Z4 _)))))
   (cH (b8 Y2))
   bU)
  refine cK ?_ ?_
  ·exact(AX (vv 0) (UU (K:=K) rfl rfl (aI (bG IT.nd) (aI (bG IT.nd) WN))))
  refine cK ?_ ?_
  ·exact (aR (XS (YJ (a8 bn hr (cI (vv 1) (cI cM (cI (cD (bH (by rfl) T.v_MOST_SURE)) cG))))))
   (cH (b8 Y2))
   bU)
  refine cK ?_ ?_
  ·exact (aR (Q5 (TD (XS (YJ (DK T.n_isinstance (vv 2) (vty T.n_tuple XU)))) (WE (a6 Yn s_gt (WW T.n_len (vv 2)) (bH (by rfl) T.v_MOST_ROWS) (Z4 _)))))
   (cH (b8 Y2))
   bU)
  refine cK ?_ ?_
  ·exact(bA IT.nd (VA (aZ (b7 cF))))
  refine cK ?_ ?_
  ·exact(UV Ei rfl (SV rfl (vv 2)) (bG IT.nd)
   (cK (aR (XS (YJ (a8 jr hr (cI (vv 4) (aW (pv 3) cG)))))
   (cH (b8 Y2))
   bU)
   (cH (Y6 (K:=K) rfl Bg Bi aC X3 (pv 3) (b7 (cP (a8 cu hr (cI (vv 4) cG)) cF))))))
  exact cH (b8 Y2)
noncomputable abbrev Nx8:List Us:=["block","row","rows"]
abbrev BP:List Us:=["block","row"]
theorem E6:bX Nx8 BP (cL (top 34)):=YQ
theorem oR(F:X8 K "row_at" "row_at" (top 34) f fd)(T:Txt K mg)(bn:bI P w K mg base "is_whole" 1 Qx0 [] bV f_x0)(cb:bI P w K mg base "is_block" 5 Qx7 [] bQ f_x7):Z7 P w K mg base CX0 6 f fd BP (spV K [] 2 ZF):=
 RP P w K mg base Nx8 BP 5 RG [] F E6 λ_ _ _ _ _ _ hr hu hu1=>by
  refine cK ?_ ?_
  ·exact(aR (XS (YJ (a8 cb hr (cI (vv 0) cG))))
   (cH OU)
   bU)
  refine cK ?_ ?_
  ·exact(bA E6.nd (ZX (cD (Y1 hu1 (vv 0) cM))))
  refine cK ?_ ?_
  ·exact(aR (XS (YJ (a8 bn hr (cI (vv 1) (cI cM (cI (cD (YI UO QB (WW T.n_len (vv 2)) cM)) cG))))))
   (cH OU)
   bU)
  exact cH (b8 (Y1 hu1 (vv 2) (vv 1)))
theorem oT(F:X8 K "row_at" "row_at" (top 34) f fd)(T:Txt K mg)(bn:bI P w K mg base "is_whole" 1 Qx0 [] bV f_x0)(cb:bI P w K mg base "is_block" 5 Qx7 [] bQ f_x7):Z7 P w K mg base (G1 P w) 6 f fd BP (spX K 2 YU):=
 okZ P w K mg base Nx8 BP 5 O0 F E6 λ_ _ _ _ _ _ hr hu hu1=>by
  exact(Zy (WX (Wi (XS (YJ (a8 cb hr (cI (vv 0) cG)))) (WX (A3 rfl jU rfl (by rfl) T.x_NoBlock)) A5))
   (FI (aR (XS (YJ (a8 cb hr (cI (vv 0) cG))))
   (cH OU)
   bU)
   (FI (bA E6.nd (ZX (cD (Y1 hu1 (vv 0) cM))))
   (WX (Wi (XS (YJ (a8 bn hr (cI (vv 1) (cI cM (cI (cD (YI UO QB (WW T.n_len (vv 2)) cM)) cG)))))) (WX (DN rfl gI rfl hr (by rfl) T.x_NoRow (λ_=>T.fnm _ _) (cI (vv 1) cG))) A5)))))
abbrev Nx9:List Us:=["block","row"]
abbrev Qx9:List Us:=["block","row"]
theorem Xv:bX Nx9 Qx9 (cL (top 35)):=YQ
theorem dJ(F:X8 K "makes" "makes" (top 35) f fd)(T:Txt K mg)(cu:bI P w K mg base "makes_word" 1 Qx2 [] aX f_x2)(cr:bI P w K mg base "row_at" 6 BP [] ZF f_x8):Z7 P w K mg base CX0 7 f fd Qx9 (spV K [] 2 XX):=
 RP P w K mg base Nx9 Qx9 6 PK [] F Xv λ_ _ _ _ _ _ hr hu hu1=>by exact(cH (b8 (a8 cu hr (cI (cD (a8 cr hr (cI (vv 0) (cI (vv 1) cG)))) cG))))
theorem oE(F:X8 K "makes" "makes" (top 35) f fd)(T:Txt K mg)(cu:bI P w K mg base "makes_word" 1 Qx2 [] aX f_x2)(cr:bI P w K mg base "row_at" 6 BP [] ZF f_x8)(da:M0 P w K mg base "row_at" 6 BP YU f_x8):Z7 P w K mg base (G1 P w) 7 f fd Qx9 (spX K 2 TR):=
 okZ P w K mg base Nx9 Qx9 6 K5 F Xv λ_ _ _ _ _ _ hr hu hu1=>by exact(WX (GZ (A1 (by rfl) cu.at_ cu.kp (FH E2 rfl da hr (by decide) (by rfl) rfl (cI (vv 0) (cI (vv 1) cG))))))
abbrev Nx10:List Us:=["block","row"]
abbrev NG:List Us:=["block","row"]
theorem Xb:bX Nx10 NG (cL (top 36)):=YQ
theorem fG(F:X8 K "named" "named" (top 36) f fd)(T:Txt K mg)(fw:bI P w K mg base "names_of" 2 Qx3 [] YN f_x3)(cr:bI P w K mg base "row_at" 6 BP [] ZF f_x8):Z7 P w K mg base CX0 7 f fd NG (spV K [] 2 XY):=
 RP P w K mg base Nx10 NG 6 PL [] F Xb λ_ _ _ _ _ _ hr hu hu1=>by exact(cH (b8 (a8 fw hr (cI (cD (a8 cr hr (cI (vv 0) (cI (vv 1) cG)))) cG))))
theorem lT(F:X8 K "named" "named" (top 36) f fd)(T:Txt K mg)(fw:bI P w K mg base "names_of" 2 Qx3 [] YN f_x3)(cr:bI P w K mg base "row_at" 6 BP [] ZF f_x8)(da:M0 P w K mg base "row_at" 6 BP YU f_x8):Z7 P w K mg base (G1 P w) 7 f fd NG (spX K 2 TU):=
 okZ P w K mg base Nx10 NG 6 K6 F Xb λ_ _ _ _ _ _ hr hu hu1=>by exact(WX (GZ (A1 (by rfl) fw.at_ fw.kp (FH E2 rfl da hr (by decide) (by rfl) rfl (cI (vv 0) (cI (vv 1) cG))))))
noncomputable abbrev Nx11:List Us:=["_law_script","_law_k","_law_rest","_law_again"]
noncomputable abbrev Qx11:List Us:=["_law_script","_law_k"]
theorem KU:bX Nx11 Qx11 (cL (top 38)):=YQ
theorem kF(F:X8 K "_law_cell_at" "_law_cell_at" (top 38) f fd)(T:Txt K mg):Z7 P w K mg base CX0 1 f fd Qx11 (spV K [] 2 Z2):=
 RP P w K mg base Nx11 Qx11 0 V8 [] F KU λ_ _ _ _ _ _ hr hu hu1=>by
  refine cK ?_ ?_
  ·exact(aR (a6 EH s_lt (vv 1) (WW T.n_len (vv 0)) (Z4 _))
   (cH (b8 (Y1 hu1 (vv 0) (vv 1))))
   bU)
  refine cK ?_ ?_
  ·exact(aR (UW hu (vv 0) (bK (aZ (b7 cF))))
   (cH (b8 cM))
   bU)
  refine cK ?_ ?_
  ·exact(bA KU.nd (ZX (cD (Y1 hu1 (vv 0) (YI UN QA (vv 1) (WW T.n_len (vv 0)))))))
  refine cK ?_ ?_
  ·exact (UV Ei rfl (W2 (by rfl) T.n_range (X7 (BX rfl) dC (by rfl) T.n_min mH (YI EG Ys (vv 1) (WW T.n_len (vv 0))) cM)) (bG KU.nd)
   (cH (bA KU.nd (ZX (cD (YI EG Ys (vv 2) cM))))))
  exact cH (b8 (aH (YE (K:=K) rfl) ZK (aH (YE (K:=K) rfl) ZK (aH (J7 (K:=K) rfl) PC (Y1 hu1 (vv 0) (YI UN QA (vv 1) (WW T.n_len (vv 0)))) cM) (vv 1)) (aH (J7 (K:=K) rfl) PC (vv 2) cM)))
noncomputable abbrev Nx12:List Us:=["_law_script","_law_k","_law_bound","_law_drawn"]
noncomputable abbrev Qx12:List Us:=["_law_script","_law_k","_law_bound"]
theorem zA3:bX Nx12 Qx12 (cL (top 39)):=YQ
theorem mO(F:X8 K "_law_mixed" "_law_mixed" (top 39) f fd)(T:Txt K mg)(j3:bI P w K mg base "_law_cell_at" 1 Qx11 [] Z2 f_x11):Z7 P w K mg base CX0 2 f fd Qx12 (spV K [] 3 YK):=
 RP P w K mg base Nx12 Qx12 1 UD [] F zA3 λ_ _ _ _ _ _ hr hu hu1=>by
  refine cK ?_ ?_
  ·exact(bA zA3.nd (ZX (cD (YI UN QA (aH (YE (K:=K) rfl) ZK (aH (YE (K:=K) rfl) ZK (aH (J7 (K:=K) rfl) PC (a8 j3 hr (cI (vv 0) (cI (vv 1) cG))) cM) (aH (J7 (K:=K) rfl) PC cM (vv 1))) cM) cM))))
  exact cH (b8 (YI UN QA (YI UN QA (YI UN QA (YI kM eZ (vv 3) cM) cM) cM) (vv 2)))
noncomputable abbrev Nx13:List Us:=["_law_script","_law_town","_law_bound"]
abbrev JR:List Us:=["_law_script","_law_town","_law_bound"]
theorem mR:bX Nx13 JR (cL (top 40)):=YQ
theorem iZ(F:X8 K "_law_draw" "_law_draw" (top 40) f fd)(T:Txt K mg)(iz:bI P w K mg base "_law_mixed" 2 Qx12 [] YK f_x12):Z7 P w K mg base CX0 3 f fd JR (spV K [1] 3 bR):=
 RP P w K mg base Nx13 JR 2 SE [1] F mR λ_ _ _ _ _ _ hr hu hu1=>by
  refine cK ?_ ?_
  ·exact(Y6 (K:=K) rfl Bg Bi aC X3 (pv 1) (b7 (cP cM cF)))
  exact cH (b8 (a8 iz hr (cI (vv 0) (cI (cD (WW T.n_len (vo 1))) (cI (vv 2) cG)))))
noncomputable abbrev Nx14:List Us:=["_law_script","_law_town","_law_some"]
abbrev PU:List Us:=["_law_script","_law_town","_law_some"]
theorem Zk:bX Nx14 PU (cL (top 41)):=YQ
theorem jF(F:X8 K "_law_pick" "_law_pick" (top 41) f fd)(T:Txt K mg)(ap:bI P w K mg base "_law_draw" 3 JR [1] bR f_x13):Z7 P w K mg base CX0 4 f fd PU (spV K [1] 3 bW):=
 RP P w K mg base Nx14 PU 3 SI [1] F Zk λ_ _ _ _ _ _ hr hu hu1=>by exact(cH (b8 (Y1 hu1 (vv 2) (a8 ap hr (cI (vv 0) (aW (pv 1) (cI (cD (WW T.n_len (vv 2))) cG)))))))
noncomputable abbrev Nx15:List Us:=["_law_script","_law_town","_law_seen","_law_deed","_law_room"]
abbrev Qx15:List Us:=["_law_script","_law_town","_law_seen","_law_deed","_law_room"]
theorem eK:bX Nx15 Qx15 (cL (top 42)):=YQ
theorem gP(F:X8 K "_law_place" "_law_place" (top 42) f fd)(T:Txt K mg)(ap:bI P w K mg base "_law_draw" 3 JR [1] bR f_x13)(ak:bI P w K mg base "_law_pick" 4 PU [1] bW f_x14):Z7 P w K mg base CX0 5 f fd Qx15 (spV K [1,2] 5 aF):=
 RP P w K mg base Nx15 Qx15 4 UE [1,2] F eK λ_ _ _ _ _ _ hr hu hu1=>by
  refine cK ?_ ?_
  ·exact(FF hu1 (pv 2) (vv 3) (cD (YI UN QA (aH (YE (K:=K) rfl) ZK (AR hu1 (pv 2) (vv 3) (cD (a8 ap hr (cI (vv 0) (aW (pv 1) (cI (vv 4) cG))))) ⟨rfl,rfl,rfl,rfl⟩) (a8 ak hr (cI (vv 0) (aW (pv 1) (cI (bK (aZ (b7 (cP cM (cP cM (cP cM (cP cM (cP cM cF)))))))) cG))))) (vv 4))) rfl)
  exact cH (b8 (Y1 hu1 (vo 2) (vv 3)))
noncomputable abbrev Nx16:List Us:=["_law_script","_law_town","_law_made","_law_seen","_law_room","_law_kind","_law_a","_law_b","_law_c"]
noncomputable abbrev Qx16:List Us:=["_law_script","_law_town","_law_made","_law_seen","_law_room"]
theorem ON:bX Nx16 Qx16 (cL (top 43)):=YQ
theorem jE(F:X8 K "_law_row" "_law_row" (top 43) f fd)(T:Txt K mg)(ap:bI P w K mg base "_law_draw" 3 JR [1] bR f_x13)(ak:bI P w K mg base "_law_pick" 4 PU [1] bW f_x14)(cm:bI P w K mg base "_law_place" 5 Qx15 [1,2] aF f_x15):Z7 P w K mg base CX0 6 f fd Qx16 (spV K [1,3] 5 WY):=
 RP P w K mg base Nx16 Qx16 5 QN [1,3] F ON λ_ _ _ _ _ _ hr hu hu1=>by
  refine cK ?_ ?_
  ·exact(bA ON.nd (ZX (cD (a8 ap hr (cI (vv 0) (aW (pv 1) (cI cM cG)))))))
  refine cK ?_ ?_
  ·exact(aR (Q5 (TD (UW hu (vv 2) (bK (aZ (b7 cF)))) (WE (UW hu (vv 5) cM))))
   (cK (aR (UW hu (a8 ap hr (cI (vv 0) (aW (pv 1) (cI cM cG)))) cM)
   (cH (b8 (bN (cP cE (cP (a8 ak hr (cI (vv 0) (aW (pv 1) (cI (bK (aZ (b7 (cP cM (cP cM (cP cM (cP cM (cP cM (cP (a8 ap hr (cI (vv 0) (aW (pv 1) (cI cM cG)))) cF))))))))) cG)))) cF)))))
   bU)
   (cH (b8 (bN (cP cE (cP (a8 cm hr (cI (vv 0) (aW (pv 1) (aW (pv 3) (cI cE (cI (vv 4) cG)))))) cF))))))
   bU)
  refine cK ?_ ?_
  ·exact(AX (bK (YZ ["_law_script","_law_town","_law_made","_law_k"] [0,1,2] 1 (W2 (by rfl) T.n_range cM) (λhn _ _ _ _=>⟨(bG hn),US,(cD (Y1 hu1 (vv 2) (X7 (BW rfl) Zc (by rfl) T.n_max jK cM (YI UO QB (YI UO QB (WW T.n_len (vv 2)) cM) (a8 ap hr (cI (vv 0) (aW (pv 1) (cI cM cG))))))))⟩))) (UU (K:=K) rfl rfl (aI (bG ON.nd) (aI (bG ON.nd) (aI (bG ON.nd) WN)))))
  refine cK ?_ ?_
  ·exact (aR (a6 (TL (K := K) rfl hu) (YX (neg := false)) (vv 5) (bN (cP cM (cP cM cF))) (by with_unfolding_all rfl))
   (cH (b8 (bN (cP cE (cP (a8 cm hr (cI (vv 0) (aW (pv 1) (aW (pv 3) (cI cE (cI (vv 4) cG)))))) cF)))))
   bU)
  refine cK ?_ ?_
  ·exact(aR (UW hu (vv 5) cM)
   (cH (b8 (bN (cP cE (cP (a8 cm hr (cI (vv 0) (aW (pv 1) (aW (pv 3) (cI cE (cI (vv 4) cG)))))) (cP (vv 8) (cP (vv 6) cF)))))))
   bU)
  refine cK ?_ ?_
  ·exact (aR (a6 (TL (K := K) rfl hu) (YX (neg := false)) (vv 5) (bN (cP cM (cP cM cF))) (by with_unfolding_all rfl))
   (cH (b8 (bN (cP cE (cP (a8 cm hr (cI (vv 0) (aW (pv 1) (aW (pv 3) (cI cE (cI (vv 4) cG)))))) (cP (vv 6) cF))))))
   bU)
  refine cK ?_ ?_
  ·exact(aR (UW hu (vv 5) cM)
   (cH (b8 (bN (cP cE (cP (a8 cm hr (cI (vv 0) (aW (pv 1) (aW (pv 3) (cI cE (cI (vv 4) cG)))))) (cP (vv 6) (cP (vv 8) cF)))))))
   bU)
  refine cK ?_ ?_
  ·exact(aR (UW hu (vv 5) cM)
   (cH (b8 (bN (cP cE (cP (vv 8) (cP (vv 6) (cP (vv 7) cF)))))))
   bU)
  exact cH (b8 (bN (cP (Y1 hu1 (bK (aZ (b7 (cP cE (cP cE (cP cE (cP cE (cP cE (cP cE (cP cE cF)))))))))) (a8 ap hr (cI (vv 0) (aW (pv 1) (cI cM cG))))) (cP (vv 6) (cP (vv 7) cF)))))
noncomputable abbrev Nx18:List Us:=["_law_script","_law_town","_law_rows_here","_law_made","_law_seen","_law_room","_law_last","_law_first","_law_names_here","_law_name","_law_at"]
noncomputable abbrev Qx18:List Us:=["_law_script","_law_town","_law_rows_here","_law_made","_law_seen","_law_room"]
theorem QZ:bX Nx18 Qx18 (cL (top 45)):=YQ
theorem mB(F:X8 K "_law_next" "_law_next" (top 45) f fd)(T:Txt K mg)(ak:bI P w K mg base "_law_pick" 4 PU [1] bW f_x14):Z7 P w K mg base CX0 5 f fd Qx18 (spV K [1,4] 6 ZI):=
 RP P w K mg base Nx18 Qx18 4 VL [1,4] F QZ λ_ _ _ _ _ _ hr hu hu1=>by
  refine cK ?_ ?_
  ·exact(bA QZ.nd (ZX (cD (Y1 hu1 (vv 2) (WD cM)))))
  refine cK ?_ ?_
  ·exact(bA QZ.nd (ZX (cD (JH (a6 (TL (K:=K) rfl hu) (YX (neg:=false)) (Y1 hu1 (vv 6) cM) (bN (cP cE (cP cE (cP cE (cP cE cF))))) (by with_unfolding_all rfl)) cM cM))))
  refine cK ?_ ?_
  ·exact(bA QZ.nd (VA (aZ (b7 cF))))
  refine cK ?_ ?_
  ·exact(UV Ei rfl (SV rfl (cD (U7 rfl (vv 6) (U9 (vv 7)) U8))) (bG QZ.nd)
   (cK (bA QZ.nd (ZX (cD (aH (YE (K:=K) rfl) ZK (AS rfl (vv 3) (vv 9)) (a8 ak hr (cI (vv 0) (aW (pv 1) (cI (bK (aZ (b7 (cP cM (cP cM (cP cM (cP cM (cP (WD cM) (cP cM (cP cM cF)))))))))) cG))))))))
   (cH (Y6 (K:=K) rfl Bg Bi aC X3 (pv 8) (b7 (cP (JH (Q5 (GY (A0 Vv EH s_le s_lt cM (vv 10) (WW T.n_len (vv 3))) (K4 (a6 (N2 (K:=K) rfl hu) OM (Y1 hu1 (vv 3) (vv 10)) (YI UO QB (WW T.n_len (vv 2)) cM) (Z4 _))))) (Y1 hu1 (vv 3) (vv 10)) (vv 9)) cF))))))
  refine cK ?_ ?_
  ·exact(aR (UW hu (vv 7) cM)
   (cH (b8 (aH (YE (K:=K) rfl) ZK (U7 rfl (vv 6) U8 (U9 cM)) (JG (RK (K:=K) rfl) RB (by rfl) T.n_tuple XU (vo 8)))))
   bU)
  refine cK ?_ ?_
  ·exact(FF hu1 (pv 4) (Y1 hu1 (vv 6) cM) (cD (YI UN QA (aH (YE (K:=K) rfl) ZK (Y1 hu1 (vv 6) cM) cM) (vv 5))) rfl)
  exact cH (b8 (aH (YE (K:=K) rfl) ZK (bN (cP (Y1 hu1 (vv 6) cM) (cP (Y1 hu1 (vo 4) (Y1 hu1 (vv 6) cM)) cF))) (JG (RK (K:=K) rfl) RB (by rfl) T.n_tuple XU (vo 8))))
noncomputable abbrev Nx17:List Us:=["_law_script","_law_town","_law_many","_law_room","_law_rows_here","_law_made","_law_seen","_law_again"]
noncomputable abbrev Qx17:List Us:=["_law_script","_law_town","_law_many","_law_room"]
theorem GQ:bX Nx17 Qx17 (cL (top 44)):=YQ
theorem oP(F:X8 K "_law_rows" "_law_rows" (top 44) f fd)(T:Txt K mg)(ak:bI P w K mg base "_law_pick" 4 PU [1] bW f_x14)(iy:bI P w K mg base "_law_row" 6 Qx16 [1,3] WY f_x16)(iu:bI P w K mg base "_law_next" 5 Qx18 [1,4] ZI f_x18):Z7 P w K mg base CX0 7 f fd Qx17 (spV K [1] 4 X2):=
 RP P w K mg base Nx17 Qx17 6 SJ [1] F GQ λ_ _ _ _ _ _ hr hu hu1=>by
  refine cK ?_ ?_
  ·exact(Zo (i:=4) (j:=5) (k:=6) rfl GQ.nd rfl rfl rfl (by decide) (by decide) (by decide) rfl rfl rfl (VA (aZ (b7 cF))) (VA (aZ (b7 cF))) (VA AW) rfl)
  refine cK ?_ ?_
  ·exact(JJ Ei (a6 EH s_lt (WW T.n_len (vo 4)) (vv 2) (Z4 _))
   (cK (Y6 (K:=K) rfl Bg Bi aC X3 (pv 4) (b7 (cP (a8 iy hr (cI (vv 0) (aW (pv 1) (aW (pv 5) (aW (pv 6) (cI (vv 3) cG)))))) cF)))
   (cK (aR (a6 (RJ (K:=K) rfl hu) (YX (neg:=true)) (Y1 hu1 (Y1 hu1 (vo 4) (WD cM)) cM) (bN (cP cE (cP cE cF))) (by with_unfolding_all rfl))
   (cH (Y6 (K:=K) rfl Bg Bi aC X3 (pv 5) (b7 (cP (YI UO QB (WW T.n_len (vo 4)) cM) cF))))
   bU)
   (cH (UV Ei rfl (W2 (by rfl) T.n_range (a8 ak hr (cI (vv 0) (aW (pv 1) (cI (bK (aZ (b7 (cP cM (cP cM (cP cM (cP cM (cP cM cF)))))))) cG))))) (bG GQ.nd)
   (cH (aR (Q5 (GY (a6 EH s_lt (WW T.n_len (vo 4)) (vv 2) (Z4 _)) (K4 (a6 (N2 (K:=K) rfl hu) OM (Y1 hu1 (Y1 hu1 (vo 4) (WD cM)) cM) cE (Z4 _)))))
   (cK (Y6 (K:=K) rfl Bg Bi aC X3 (pv 4) (b7 (cP (a8 iu hr (cI (vv 0) (aW (pv 1) (aW (pv 4) (aW (pv 5) (aW (pv 6) (cI (vv 3) cG))))))) cF)))
   (cH (aR (a6 (RJ (K:=K) rfl hu) (YX (neg:=true)) (Y1 hu1 (Y1 hu1 (vo 4) (WD cM)) cM) (bN (cP cE (cP cE cF))) (by with_unfolding_all rfl))
   (cH (Y6 (K:=K) rfl Bg Bi aC X3 (pv 5) (b7 (cP (YI UO QB (WW T.n_len (vo 4)) cM) cF))))
   bU)))
   bU)))))))
  exact cH (b8 (JG (RK (K:=K) rfl) RB (by rfl) T.n_tuple XU (vo 4)))
noncomputable abbrev Nx20:List Us:=["_law_row_here"]
abbrev Qx20:List Us:=["_law_row_here"]
theorem jL:bX Nx20 Qx20 (cL (top 47)):=YQ
theorem dY(F:X8 K "_law_names" "_law_names" (top 47) f fd)(T:Txt K mg):Z7 P w K mg base CX0 1 f fd Qx20 (spV K [] 1 Z3):=
 RP P w K mg base Nx20 Qx20 0 P6 [] F jL λ_ _ _ _ _ _ hr hu hu1=>by
  refine cK ?_ ?_
  ·exact(aR (UW hu (Y1 hu1 (vv 0) cM) cE)
   (cH (b8 (bK (aZ (b7 cF)))))
   bU)
  exact cH (b8 (JH (a6 (TL (K:=K) rfl hu) (YX (neg:=false)) (Y1 hu1 (vv 0) cM) (bN (cP cE (cP cE (cP cE (cP cE cF))))) (by with_unfolding_all rfl)) (bK (JI (N0 (K:=K) rfl) XM (by rfl) T.XM T0 (MX (U7 rfl (vv 0) (U9 cM) U8)))) (bK (JI (N0 (K:=K) rfl) XM (by rfl) T.XM T0 (MX (U7 rfl (vv 0) (U9 cM) U8))))))
noncomputable abbrev Nx21:List Us:=["_law_block_here","_law_row_here","_law_here"]
abbrev Qx21:List Us:=["_law_block_here","_law_row_here"]
theorem zA2:bX Nx21 Qx21 (cL (top 48)):=YQ
theorem iD(F:X8 K "_law_may" "_law_may" (top 48) f fd)(T:Txt K mg):Z7 P w K mg base CX0 1 f fd Qx21 (spV K [] 2 Y3):=
 RP P w K mg base Nx21 Qx21 0 QM [] F zA2 λ_ _ _ _ _ _ hr hu hu1=>by
  refine cK ?_ ?_
  ·exact(bA zA2.nd (ZX (cD (Y1 hu1 (Y1 hu1 (vv 0) cM) (vv 1)))))
  refine cK ?_ ?_
  ·exact (aR (a6 (TL (K := K) rfl hu) (YX (neg := false)) (Y1 hu1 (vv 2) cM) (bN (cP cE (cP cE (cP cE (cP cE cF))))) (by with_unfolding_all rfl))
   (cH (b8 (XR gG s_ge (Y1 hu1 (vv 2) cM) (Y1 hu1 (vv 0) cM) (Z4 _))))
   bU)
  exact cH (b8 (UT (veq hu (Y1 hu1 (vv 2) cM) cE) (Q4 (XR (RJ (K:=K) rfl hu) (YX (neg:=true)) (U7 rfl (Y1 hu1 (Y1 hu1 (vv 0) cM) (Y1 hu1 (vv 2) cM)) U8 (U9 cM)) (bK (YZ ["_law_k"] [] 1 (DJ (by rfl) T.n_range cM cM) (λhn _ _ _ _=>⟨(bG hn),US,(cD (bN (cP cE (cP (vv 0) cF))))⟩))) (by with_unfolding_all rfl)))))
noncomputable abbrev Nx22:List Us:=["_law_block_here","_law_made","_law_cells","_law_two","_law_there","_law_one","_law_here","_law_writes","_law_reasons"]
abbrev Qx22:List Us:=["_law_block_here"]
theorem UQ:bX Nx22 Qx22 (cL (top 49)):=YQ
theorem Zr(F:X8 K "_law_must" "_law_must" (top 49) f fd)(T:Txt K mg)(ip:bI P w K mg base "_law_names" 1 Qx20 [] Z3 f_x20)(d8:bI P w K mg base "_law_may" 1 Qx21 [] Y3 f_x21):Z7 P w K mg base CX0 2 f fd Qx22 (spV K [] 1 X1):=
 RP P w K mg base Nx22 Qx22 1 SG [] F UQ λ_ _ _ _ _ _ hr hu hu1=>by
  refine cK ?_ ?_
  ·exact(oF (i:=1) (j:=2) rfl UQ.nd rfl rfl (by decide) rfl rfl (VA (aZ (b7 cF))) (ZX (cD (bN (cP cE (cP cE (cP cE (cP cE cF))))))) rfl)
  refine cK ?_ ?_
  ·exact (UV Ei rfl (K3 rfl (by rfl) T.n_enumerate (cD (Y1 hu1 (vv 0) cM))) (UU (K := K) rfl rfl (aI (bG UQ.nd) (aI (bG UQ.nd) WN)))
   (cH (UV Ei rfl (K3 rfl (by rfl) T.n_enumerate (cD (U7 rfl (Y1 hu1 (vv 0) cM) U8 (U9 (vv 3))))) (UU (K:=K) rfl rfl (aI (bG UQ.nd) (aI (bG UQ.nd) WN)))
   (cK (AY false UQ.nd ["_law_row_here"] [] 1 (SV rfl (cD (bN (cP (vv 6) (cP (vv 4) cF))))) (λhn _ _ _ _=>⟨(bG hn),(K2 (a6 (TL (K:=K) rfl hu) (YX (neg:=false)) (Y1 hu1 (vv 0) cM) (bN (cP cE (cP cE cF))) (by with_unfolding_all rfl))),(vv 0)⟩))
   (cK (bA UQ.nd (VA (aZ (b7 (cP (XR (TL (K:=K) rfl hu) (YX (neg:=false)) (vv 5) (a8 ip hr (cI (vv 4) cG)) (by with_unfolding_all rfl)) (cP (UT (a8 d8 hr (cI (vv 0) (cI (vv 5) cG))) (Q4 (a8 d8 hr (cI (vv 0) (cI (vv 3) cG))))) cF))))))
   (cK (Y6 (K:=K) rfl Bg Bi aC X3 (pv 8) (b7 (cP (UT (XR (TL (K:=K) rfl hu) (YX (neg:=false)) (Y1 hu1 (vv 6) cM) (vv 2) (by with_unfolding_all rfl)) (UT (XR (TL (K:=K) rfl hu) (YX (neg:=false)) (Y1 hu1 (vv 4) cM) (vv 2) (by with_unfolding_all rfl)) (UT (veq hu (Y1 hu1 (vv 6) cM) (Y1 hu1 (vv 4) cM)) (Q4 (XR (N2 (K:=K) rfl hu) OM (vv 7) (bK (aZ (b7 cF))) (Z4 _)))))) cF)))
   (cK (Y6 (K:=K) rfl Bg Bi aC X3 (pv 8) (b7 (cP (UT (a8 d8 hr (cI (vv 0) (cI (vv 5) cG))) (Q4 (XR (TL (K:=K) rfl hu) (YX (neg:=false)) (Y1 hu1 (vv 4) cM) (bN (cP cE (cP cE cF))) (by with_unfolding_all rfl)))) cF)))
   (cK (Y6 (K:=K) rfl Bg Bi aC X3 (pv 8) (b7 (cP (UT (a8 d8 hr (cI (vv 0) (cI (vv 3) cG))) (Q4 (XR (TL (K:=K) rfl hu) (YX (neg:=false)) (Y1 hu1 (vv 6) cM) (bN (cP cE (cP cE cF))) (by with_unfolding_all rfl)))) cF)))
   (cH (aR (a6 (TL (K:=K) rfl hu) (YX (neg:=false)) Y2 (vo 8) (by with_unfolding_all rfl))
   (cH (Y6 (K:=K) rfl Bg Bi aC X3 (pv 1) (b7 (cP (bN (cP (vv 5) (cP (vv 3) cF))) cF))))
   bU))))))))))
  exact cH (b8 (bK (jG (gX (K:=K) rfl) nF (by rfl) T.n_sorted BS (MX (vo 1)))))
noncomputable abbrev Nx25:List Us:=["_law_script","_law_town","_law_block_here","_law_pairs","_law_left","_law_made","_law_ready"]
noncomputable abbrev Qx25:List Us:=["_law_script","_law_town","_law_block_here"]
theorem GR:bX Nx25 Qx25 (cL (top 52)):=YQ
theorem fM(F:X8 K "_law_mixed_order" "_law_mixed_order" (top 52) f fd)(T:Txt K mg)(ak:bI P w K mg base "_law_pick" 4 PU [1] bW f_x14)(io:bI P w K mg base "_law_must" 2 Qx22 [] X1 f_x22):Z7 P w K mg base CX0 5 f fd Qx25 (spV K [1] 3 aA):=
 RP P w K mg base Nx25 Qx25 4 YD [1] F GR λ_ _ _ _ _ _ hr hu hu1=>by
  refine cK ?_ ?_
  ·exact(eY (i:=3) (j:=4) (k:=5) rfl rfl GR.nd rfl rfl rfl (by decide) (by decide) (by decide) (Fd rfl) (Fd rfl) (Gp rfl) (ZX (cD (a8 io hr (cI (vv 2) cG)))) (VA (DM rfl (by rfl) T.XM T0 (by rfl) T.n_range eG (WW T.n_len (Y1 hu1 (vv 2) cM)))) (VA (aZ (b7 cF))))
  refine cK ?_ ?_
  ·exact(JJ Ei (a6 (N2 (K:=K) rfl hu) OM (vo 4) (bK (aZ (b7 cF))) (Z4 _))
   (cK (AZ false GR.nd ["_law_pairs","_law_left","_law_row_here"] [3,4] 1 (jI rfl (vo 4)) (λhn _ _ _ _=>⟨(bG hn),(K2 (UW hu (bK (YZ ["_law_left","_law_row_here","_law_one","_law_two"] [1,2] 2 (SV rfl (vv 0)) (λhn _ _ _ _=>⟨(UU (K:=K) rfl rfl (aI (bG hn) (aI (bG hn) WN))),(K2 (Q5 (GY (UW hu (vv 3) (vv 1)) (K4 (a6 (TL (K:=K) rfl hu) (YX (neg:=false)) (vv 2) (vo 0) (by with_unfolding_all rfl)))))),cM⟩))) (bK (aZ (b7 cF))))),(vv 2)⟩))
   (cK (Y6 (K:=K) rfl Bg Bi aC X3 (pv 5) (b7 (cP (a8 ak hr (cI (vv 0) (aW (pv 1) (cI (vv 6) cG)))) cF)))
   (cH (Y6 (K:=K) rfl PySem.F.slot_list_remove PySem.F.type_list_remove CT iP (pv 4) (b7 (cP (Y1 hu1 (vo 5) (WD cM)) cF)))))))
  exact cH (gK (pv 5))
noncomputable abbrev Nx26:List Us:=["_law_row_here","_law_names_here","_law_first"]
noncomputable abbrev Qx26:List Us:=["_law_row_here","_law_names_here"]
theorem zA0:bX Nx26 Qx26 (cL (top 53)):=YQ
theorem iM(F:X8 K "_law_renamed" "_law_renamed" (top 53) f fd)(T:Txt K mg):Z7 P w K mg base CX0 1 f fd Qx26 (spV K [] 2 bO):=
 RP P w K mg base Nx26 Qx26 0 aJ [] F zA0 λ_ _ _ _ _ _ hr hu hu1=>by
  refine cK ?_ ?_
  ·exact(aR (UW hu (Y1 hu1 (vv 0) cM) cE)
   (cH (b8 (vv 0)))
   bU)
  refine cK ?_ ?_
  ·exact(bA zA0.nd (ZX (cD (JH (a6 (TL (K:=K) rfl hu) (YX (neg:=false)) (Y1 hu1 (vv 0) cM) (bN (cP cE (cP cE (cP cE (cP cE cF))))) (by with_unfolding_all rfl)) cM cM))))
  exact cH (b8 (aH (YE (K:=K) rfl) ZK (U7 rfl (vv 0) U8 (U9 (vv 2))) (JG (RK (K:=K) rfl) RB (by rfl) T.n_tuple XU (bK (YZ ["_law_names_here","_law_name"] [1] 1 (SV rfl (cD (U7 rfl (vv 0) (U9 (vv 2)) U8))) (λhn _ _ _ _=>⟨(bG hn),US,(cD (Y1 hu1 (vv 0) (vv 1)))⟩))))))
noncomputable abbrev Nx19:List Us:=["_law_script","_law_town","_law_most","_law_room","_law_sure","_law_block_here","_law_order_there","_law_names_here"]
noncomputable abbrev Qx19:List Us:=["_law_script","_law_town","_law_most"]
theorem Q0:bX Nx19 Qx19 (cL (top 46)):=YQ
theorem cZ(F:X8 K "_law_block" "_law_block" (top 46) f fd)(T:Txt K mg)(ap:bI P w K mg base "_law_draw" 3 JR [1] bR f_x13)(ak:bI P w K mg base "_law_pick" 4 PU [1] bW f_x14)(iw:bI P w K mg base "_law_rows" 7 Qx17 [1] X2 f_x17)(il:bI P w K mg base "_law_mixed_order" 5 Qx25 [1] aA f_x25)(ik:bI P w K mg base "_law_renamed" 1 Qx26 [] bO f_x26):Z7 P w K mg base CX0 8 f fd Qx19 (spV K [1] 3 ZN):=
 RP P w K mg base Nx19 Qx19 7 WI [1] F Q0 λ_ _ _ _ _ _ hr hu hu1=>by
  refine cK ?_ ?_
  ·exact(bA Q0.nd (ZX (cD (a8 ak hr (cI (vv 0) (aW (pv 1) (cI (bK (aZ (b7 (cP cM (cP cM (cP cM (cP cM cF))))))) cG)))))))
  refine cK ?_ ?_
  ·exact(bA Q0.nd (ZX (cD (a8 ak hr (cI (vv 0) (aW (pv 1) (cI (bK (aZ (b7 (cP cM (cP (vv 3) (cP (vv 3) (cP (a8 ap hr (cI (vv 0) (aW (pv 1) (cI (cD (aH (YE (K:=K) rfl) ZK (vv 3) cM)) cG)))) cF))))))) cG)))))))
  refine cK ?_ ?_
  ·exact(bA Q0.nd (ZX (cD (bN (cP (vv 4) (cP (a8 iw hr (cI (vv 0) (aW (pv 1) (cI (cD (a8 ap hr (cI (vv 0) (aW (pv 1) (cI (cD (aH (YE (K:=K) rfl) ZK (vv 2) cM)) cG))))) (cI (vv 3) cG))))) cF))))))
  refine cK ?_ ?_
  ·exact(aR (a6 Yn s_gt (a8 ap hr (cI (vv 0) (aW (pv 1) (cI cM cG)))) cM (Z4 _))
   (cH (b8 (vv 5)))
   bU)
  refine cK ?_ ?_
  ·exact(bA Q0.nd (ZX (cD (a8 il hr (cI (vv 0) (aW (pv 1) (cI (vv 5) cG)))))))
  refine cK ?_ ?_
  ·exact(bA Q0.nd (ZX (bK (DL rfl rfl (by rfl) T.n_dict fQ (bK (YZ ["_law_number","_law_row_here"] [] 2 (K3 rfl (by rfl) T.n_enumerate (vv 6)) (λhn _ _ _ _=>⟨(UU (K:=K) rfl rfl (aI (bG hn) (aI (bG hn) WN))),US,(cD (bN (cP (vv 1) (cP (vv 0) cF))))⟩)))))))
  exact cH (b8 (bN (cP (vv 4) (cP (JG (RK (K:=K) rfl) RB (by rfl) T.n_tuple XU (bK (YZ ["_law_block_here","_law_names_here","_law_row_here"] [5,7] 1 (SV rfl (vv 6)) (λhn _ _ _ _=>⟨(bG hn),US,(cD (a8 ik hr (cI (cD (Y1 hu1 (Y1 hu1 (vv 0) cM) (vv 2))) (cI (vv 1) cG))))⟩)))) cF))))
noncomputable abbrev Nx23:List Us:=["_law_e","_law_own"]
abbrev Qx23:List Us:=["_law_e"]
theorem zA1:bX Nx23 Qx23 (cL (top 50)):=YQ
theorem iF(F:X8 K "_law_which" "_law_which" (top 50) f fd)(T:Txt K mg):FnH P w K mg base 1 f fd Qx23 (spV K [] 1 YL):=
 okWH P w K mg base Nx23 Qx23 0 P7 [] F zA1 λ_ _ _ _ _ hr hu hu1=>by
  refine cK ?_ ?_
  ·exact(bA zA1.nd (VA (aZ (b7 (cP (X7 (SK (K:=K) rfl) (WU T.xi) (by rfl) T.n_isinstance bP (vv 0) (bH (by rfl) T.v_NoBlock)) (cP (X7 (SK (K:=K) rfl) (WU T.xi) (by rfl) T.n_isinstance bP (vv 0) (bH (by rfl) T.v_NoCells)) (cP (X7 (SK (K:=K) rfl) (WU T.xi) (by rfl) T.n_isinstance bP (vv 0) (bH (by rfl) T.v_NoRow)) (cP (X7 (SK (K:=K) rfl) (WU T.xi) (by rfl) T.n_isinstance bP (vv 0) (bH (by rfl) T.v_NoLanes)) cF))))))))
  refine cK ?_ ?_
  ·exact(Y6 (K:=K) rfl Hq Hr (Vj (K:=K) rfl) FX (pv 1) (b7 (cP (bK (aZ (b7 (cP (X7 (SK (K:=K) rfl) (WU T.xi) (by rfl) T.n_isinstance bP (vv 0) (bH (by rfl) T.v_NoPlan)) (cP (X7 (SK (K:=K) rfl) (WU T.xi) (by rfl) T.n_isinstance bP (vv 0) (bH (by rfl) T.v_NoProgram)) (cP (X7 (SK (K:=K) rfl) (WU T.xi) (by rfl) T.n_isinstance bP (vv 0) (bH (by rfl) T.v_NoTree)) (cP (X7 (SK (K:=K) rfl) (WU T.xi) (by rfl) T.n_isinstance bP (vv 0) (bH (by rfl) T.v_NoLoop)) cF))))))) cF)))
  refine cK ?_ ?_
  ·exact(Y6 (K:=K) rfl Hq Hr (Vj (K:=K) rfl) FX (pv 1) (b7 (cP (bK (aZ (b7 (cP (X7 (SK (K:=K) rfl) (WU T.xi) (by rfl) T.n_isinstance bP (vv 0) (bH (by rfl) T.v_NoText)) (cP (X7 (SK (K:=K) rfl) (WU T.xi) (by rfl) T.n_isinstance bP (vv 0) (bH (by rfl) T.v_NoName)) (cP (X7 (SK (K:=K) rfl) (WU T.xi) (by rfl) T.n_isinstance bP (vv 0) (bH (by rfl) T.v_TooMany)) (cP (X7 (SK (K:=K) rfl) (WU T.xi) (by rfl) T.n_isinstance bP (vv 0) (bH (by rfl) T.v_TooLong)) cF))))))) cF)))
  refine cK ?_ ?_
  ·exact(Y6 (K:=K) rfl Hq Hr (Vj (K:=K) rfl) FX (pv 1) (b7 (cP (bK (aZ (b7 (cP (X7 (SK (K:=K) rfl) (WU T.xi) (by rfl) T.n_isinstance bP (vv 0) (bH (by rfl) T.v_NotValid)) (cP (X7 (SK (K:=K) rfl) (WU T.xi) (by rfl) T.n_isinstance bP (vv 0) (bH (by rfl) T.v_Nothing)) cF))))) cF)))
  refine cK ?_ ?_
  ·exact (aR (Q5 (TD (a6 (N2 (K := K) rfl hu) OM (Xa rfl PySem.F.slot_list_count PySem.F.type_list_count (fE (K := K) rfl) lD (vo 1) Y2) cM (Z4 _)) (WE (XS (YJ (X7 (SK (K := K) rfl) (WU T.xi) (by rfl) T.n_isinstance bP (vv 0) (vty T.n_ValueError M6)))))))
   (cH (b8 (bN (cP cE (cP (WD cM) cF)))))
   bU)
  exact cH (b8 (bN (cP cE (cP (Xa rfl Lw Lx (gL (K:=K) rfl) fW (vo 1) Y2) cF))))
abbrev Nx24:List Us:=["_law_script","_law_town","_law_some"]
noncomputable abbrev Qx24:List Us:=["_law_script","_law_town"]
theorem Q1:bX Nx24 Qx24 (cL (top 51)):=YQ
theorem nO(F:X8 K "_law_none" "_law_none" (top 51) f fd)(T:Txt K mg)(ak:bI P w K mg base "_law_pick" 4 PU [1] bW f_x14):Z7 P w K mg base CX0 5 f fd Qx24 (spV K [1] 2 YM):=
 RP P w K mg base Nx24 Qx24 4 SH [1] F Q1 λ_ _ _ _ _ _ hr hu hu1=>by
  refine cK ?_ ?_
  ·exact(@bA _ _ _ _ _ _ _ _ _ Q1.nd (@ZX _ _ _ _ _ _ (@bK _ _ _ _ _ _ (@OT _ _ _ 3 _ _ _ rfl (by decide)))) rfl (by first|exact .inl rfl|exact .inr rfl) (by decide) rfl (by first|exact .inl rfl|exact .inr rfl|assumption))
  refine cK ?_ ?_
  ·exact(@bA _ _ _ _ _ _ _ _ _ Q1.nd (@ZX _ _ _ _ _ _ (@cD _ _ _ _ _ _ _ _ (@aH _ _ _ _ _ _ _ _ _ _ _ _ _ _ _ _ _ (YE (K:=K) rfl) ZK (@vv _ _ _ _ _ 2 rfl (by first|exact Gp rfl|exact Fd (Gp rfl)|exact Fd (Fd rfl)) (by decide) (by decide)) (@bK _ _ _ _ _ _ (@OT _ _ _ 3 _ _ _ rfl (by decide))) rfl) rfl)) rfl (by first|exact .inl rfl|exact .inr rfl) (by decide) rfl (by first|exact .inl rfl|exact .inr rfl|assumption))
  refine cK ?_ ?_
  ·exact(@bA _ _ _ _ _ _ _ _ _ Q1.nd (@ZX _ _ _ _ _ _ (@cD _ _ _ _ _ _ _ _ (@aH _ _ _ _ _ _ _ _ _ _ _ _ _ _ _ _ _ (YE (K:=K) rfl) ZK (@vv _ _ _ _ _ 2 rfl (by first|exact Gp rfl|exact Fd (Gp rfl)|exact Fd (Fd rfl)) (by decide) (by decide)) (@bK _ _ _ _ _ _ (@OT _ _ _ 3 _ _ _ rfl (by decide))) rfl) rfl)) rfl (by first|exact .inl rfl|exact .inr rfl) (by decide) rfl (by first|exact .inl rfl|exact .inr rfl|assumption))
  refine cK ?_ ?_
  ·exact(@bA _ _ _ _ _ _ _ _ _ Q1.nd (@ZX _ _ _ _ _ _ (@cD _ _ _ _ _ _ _ _ (@aH _ _ _ _ _ _ _ _ _ _ _ _ _ _ _ _ _ (YE (K:=K) rfl) ZK (@vv _ _ _ _ _ 2 rfl (by first|exact Gp rfl|exact Fd (Gp rfl)|exact Fd (Fd rfl)) (by decide) (by decide)) (@bK _ _ _ _ _ _ (@aZ _ _ _ _ _ _ _ (@b7 _ _ _ _ _ _ _ (@cP _ _ _ _ _ _ _ _ _ _ _ _ (@AT _ _ _ 3 _ _ rfl) (@cP _ _ _ _ _ _ _ _ _ _ _ _ (@bN _ _ _ _ _ _ _ _ _ (@cP _ _ _ _ _ _ _ _ _ _ _ _ cM (@cP _ _ _ _ _ _ _ _ _ _ _ _ (@aH _ _ _ _ _ _ _ _ _ _ _ _ _ _ _ _ _ (kRep (K:=K) rfl) Vk (@AT _ _ _ 2 _ _ rfl) cM rfl) cF rfl rfl rfl) rfl rfl rfl)) cF rfl rfl rfl) rfl rfl rfl) rfl))) rfl) rfl)) rfl (by first|exact .inl rfl|exact .inr rfl) (by decide) rfl (by first|exact .inl rfl|exact .inr rfl|assumption))
  refine cK ?_ ?_
  ·exact(@bA _ _ _ _ _ _ _ _ _ Q1.nd (@ZX _ _ _ _ _ _ (@cD _ _ _ _ _ _ _ _ (@aH _ _ _ _ _ _ _ _ _ _ _ _ _ _ _ _ _ (YE (K:=K) rfl) ZK (@vv _ _ _ _ _ 2 rfl (by first|exact Gp rfl|exact Fd (Gp rfl)|exact Fd (Fd rfl)) (by decide) (by decide)) (@bK _ _ _ _ _ _ (@OT _ _ _ 3 _ _ _ rfl (by decide))) rfl) rfl)) rfl (by first|exact .inl rfl|exact .inr rfl) (by decide) rfl (by first|exact .inl rfl|exact .inr rfl|assumption))
  exact cH (b8 (a8 ak hr (cI (vv 0) (aW (pv 1) (cI (vv 2) cG)))))
noncomputable abbrev Nx27:List Us:=["_law_what","_law_thing","_law_row_here","_law_e"]
noncomputable abbrev Qx27:List Us:=["_law_what","_law_thing","_law_row_here"]
theorem AA:bX Nx27 Qx27 (cL (top 54)):=YQ
theorem gY(F:X8 K "_law_ask" "_law_ask" (top 54) f fd)(T:Txt K mg)(gp:bI P w K mg base "makes" 7 Qx9 [] XX f_x9)(d9:bI P w K mg base "named" 7 NG [] XY f_x10)(dm:DefH P w K mg base "_law_which" 1 Qx23 (spV K [] 1 YL) f_x23)(j4:M0 P w K mg base "makes" 7 Qx9 TR f_x9)(g0:M0 P w K mg base "named" 7 NG TU f_x10):Z7 P w K mg base CX0 8 f fd Qx27 (spV K [] 3 Z9):=
 RP P w K mg base Nx27 Qx27 7 T3 [] F AA λ_ _ _ _ _ _ hr hu hu1=>by
  exact(cH (pF (i:=3) (cs:=OY) rfl rfl rfl AA.nd rfl rfl (by decide) (by rfl) (λ_=>T.fnm _ _) (by rfl) (by decide) T.q_NoRow
   (cH (b8 (AO (JB (K:=K) rfl T.fnm hr gp (by decide) (JB (K:=K) rfl T.fnm hr d9 (by decide) iG)) (Y1 hu1 (bK (aZ (b7 (cP (bH (by rfl) T.v_makes) (cP (bH (by rfl) T.v_named) cF))))) (vv 0)) (cI (vv 1) (cI (vv 2) cG)))))
   (λ_ _ _ hz=>(WX (GZ (A2 hz rfl rfl (MR (K:=K) (kk:=7) (j:=7) (qs:=Qx9) rfl T.fnm hr j4 (by decide) (MR (K:=K) (kk:=7) (j:=7) (qs:=NG) rfl T.fnm hr g0 (by decide) AH)) (Y1 hu1 (bK (aZ (b7 (cP (bH (by rfl) T.v_makes) (cP (bH (by rfl) T.v_named) cF))))) (vv 0)) (cI (vv 1) (cI (vv 2) cG))))))
   (λ_=>(cH (b8 (bN (cP cE (cP (mJ rfl (eR T.x_NoRow) (vv 3)) (cP (Wr dm (hr.h.mark _) (cI (vv 3) cG)) cF)))))))
   λ_=>(cH (b8 (Wr dm (hr.h.mark _) (cI (vv 3) cG))))))
abbrev Nx28:List Us:=["_law_row_here"]
abbrev Qx28:List Us:=["_law_row_here"]
theorem lX:bX Nx28 Qx28 (cL (top 55)):=YQ
theorem hZ(F:X8 K "_law_named" "_law_named" (top 55) f fd)(T:Txt K mg):Z7 P w K mg base CX0 1 f fd Qx28 (spV K [] 1 XT):=
 RP P w K mg base Nx28 Qx28 0 P5 [] F lX λ_ _ _ _ _ _ hr hu hu1=>by
  refine cK ?_ ?_
  ·exact (aR (a6 (TL (K := K) rfl hu) (YX (neg := false)) (Y1 hu1 (vv 0) cM) (bN (cP cE (cP cE (cP cE (cP cE (cP cE cF)))))) (by with_unfolding_all rfl))
   (cH (b8 (bK (JI (N0 (K:=K) rfl) XM (by rfl) T.XM T0 (MX (U7 rfl (vv 0) (U9 cM) U8))))))
   bU)
  exact cH (b8 (bK (JI (N0 (K:=K) rfl) XM (by rfl) T.XM T0 (MX (U7 rfl (vv 0) (U9 cM) U8)))))
noncomputable abbrev Nx29:List Us:=["_law_script","_law_town","_law_block_here","_law_many","_law_row_here","_law_here","_law_bad","_law_wrong","_law_at","_law_spoilt"]
abbrev Qx29:List Us:=["_law_script"]
theorem WV:bX Nx29 Qx29 (cL (top 56)):=YQ
theorem lS(F:X8 K "law" "law" (top 56) f fd)(T:Txt K mg)(cb:bI P w K mg base "is_block" 5 Qx7 [] bQ f_x7)(gp:bI P w K mg base "makes" 7 Qx9 [] XX f_x9)(d9:bI P w K mg base "named" 7 NG [] XY f_x10)(ap:bI P w K mg base "_law_draw" 3 JR [1] bR f_x13)(ak:bI P w K mg base "_law_pick" 4 PU [1] bW f_x14)(iq:bI P w K mg base "_law_block" 8 Qx19 [1] ZN f_x19)(im:bI P w K mg base "_law_none" 5 Qx24 [1] YM f_x24)(gl:bI P w K mg base "_law_ask" 8 Qx27 [] Z9 f_x27)(ij:bI P w K mg base "_law_named" 1 Qx28 [] XT f_x28):Z7 P w K mg base CX0 9 f fd Qx29 (spV K [] 1 K7):=
 RP P w K mg base Nx29 Qx29 8 Vt [] F WV λ_ _ _ _ _ _ hr hu hu1=>by
  refine cK ?_ ?_
  ·exact(bA WV.nd (VA (aZ (b7 cF))))
  refine cK ?_ ?_
  ·exact(bA WV.nd (ZX (cD (a8 iq hr (cI (vv 0) (aW (pv 1) (cI cM cG)))))))
  refine cK ?_ ?_
  ·exact(bA WV.nd (ZX (cD (WW T.n_len (Y1 hu1 (vv 2) cM)))))
  refine cK ?_ ?_
  ·exact(aR (Q5 (TD (a6 KJ GO (a8 cb hr (cI (vv 2) cG)) Y2 (Z4 _)) (WE (a6 KJ GO (a8 cb hr (cI (cD (bN (cP cM (cP (Y1 hu1 (vv 2) cM) cF)))) cG)) Y2 (Z4 _)))))
   (cH (b8 Y2))
   bU)
  refine cK ?_ ?_
  ·exact (UV Ei rfl (W2 (by rfl) T.n_range (vv 3)) (bG WV.nd)
   (cK (bA WV.nd (ZX (cD (Y1 hu1 (Y1 hu1 (vv 2) cM) (vv 4)))))
   (cH (aR (Q5 (TD (a6 (N2 (K:=K) rfl hu) OM (a8 gp hr (cI (vv 2) (cI (vv 4) cG))) (XR (RJ (K:=K) rfl hu) (YX (neg:=true)) (Y1 hu1 (vv 5) cM) (bN (cP cE (cP cE cF))) (by with_unfolding_all rfl)) (Z4 _)) (WE (a6 (N2 (K:=K) rfl hu) OM (a8 d9 hr (cI (vv 2) (cI (vv 4) cG))) (a8 ij hr (cI (vv 5) cG)) (Z4 _)))))
   (cH (b8 Y2))
   bU))))
  refine cK ?_ ?_
  ·exact(bA WV.nd (ZX (cD (a8 im hr (cI (vv 0) (aW (pv 1) cG))))))
  refine cK ?_ ?_
  ·exact(@aR _ _ _ _ _ _ _ _ _ _ _ (@Q5 _ _ _ _ _ _ (@TD _ _ _ _ _ _ _ _ _ _ _ (@a6 _ _ _ _ _ _ _ _ _ _ _ _ _ _ _ _ _ KJ GO (@a8 _ _ _ _ _ _ _ _ _ _ _ _ _ _ _ _ _ cb hr (@cI _ _ _ _ _ _ _ _ _ (@vv _ _ _ _ _ 6 rfl (by first|exact Gp rfl|exact Fd (Gp rfl)|exact Fd (Fd rfl)) (by decide) (by decide)) cG rfl) rfl (by decide) rfl (by decide) rfl rfl) Y2 (Z4 _) rfl) (@WE _ _ _ _ _ _ _ (@a6 _ _ _ _ _ _ _ _ _ _ _ _ _ _ _ _ _ (N2 (K:=K) rfl hu) OM (@bK _ _ _ _ _ _ (YZ ["_law_bad","_law_what"] [6] 1 (@W2 _ _ _ _ _ _ _ _ _ _ _ (by rfl) T.n_range cM rfl rfl) (λhn _ _ _ _=>⟨(@bG _ _ _ _ _ _ hn rfl (by first|exact .inl rfl|exact .inr rfl) (by decide) (by first|exact .inl rfl|exact .inr rfl|assumption)),US,(@cD _ _ _ _ _ _ _ _ (@a8 _ _ _ _ _ _ _ _ _ _ _ _ _ _ _ _ _ gl hr (@cI _ _ _ _ _ _ _ _ _ (@vv _ _ _ _ _ 1 rfl (by first|exact Gp rfl|exact Fd (Gp rfl)|exact Fd (Fd rfl)) (by decide) (by decide)) (@cI _ _ _ _ _ _ _ _ _ (@vv _ _ _ _ _ 0 rfl (by first|exact Gp rfl|exact Fd (Gp rfl)|exact Fd (Fd rfl)) (by decide) (by decide)) (@cI _ _ _ _ _ _ _ _ _ Q3 cG rfl) rfl) rfl) rfl (by decide) rfl (by decide) rfl rfl) rfl)⟩))) (@aH _ _ _ _ _ _ _ _ _ _ _ _ _ _ _ _ _ (kRep (K:=K) rfl) Vk (@bK _ _ _ _ _ _ (@OT _ _ _ 1 _ _ _ rfl (by decide))) cM rfl) (Z4 _) rfl)))) (@cH _ _ _ _ _ (@b8 _ _ _ _ _ _ _ _ _ Y2 rfl)) bU)
  refine cK ?_ ?_
  ·exact(UV Ei rfl (SV rfl (bK (aZ (b7 (cP Q3 (cP (WD cM) (cP cE (cP (vv 3) (cP (bK (aZ (b7 (cP cM cF)))) cF))))))))) (bG WV.nd)
   (cH (aR (a6 (N2 (K:=K) rfl hu) OM (bK (YZ ["_law_block_here","_law_wrong","_law_what"] [2,7] 1 (W2 (by rfl) T.n_range cM) (λhn _ _ _ _=>⟨(bG hn),US,(cD (a8 gl hr (cI (vv 2) (cI (vv 0) (cI (vv 1) cG)))))⟩))) (aH (kRep (K:=K) rfl) Vk (bK (aZ (b7 (cP (bN (cP cE (cP (vv 7) (cP (bN (cP cE (cP cM cF))) cF)))) cF)))) cM) (Z4 _))
   (cH (b8 Y2))
   bU)))
  refine cK ?_ ?_
  ·exact(aR (UW hu (vv 3) cM)
   (cH (b8 Y2))
   bU)
  refine cK ?_ ?_
  ·exact(bA WV.nd (ZX (cD (a8 ap hr (cI (vv 0) (aW (pv 1) (cI (vv 3) cG)))))))
  refine cK ?_ ?_
  ·exact(bA WV.nd (VA (aZ (b7 (cP (bN (cP cE (cP cM (cP (vv 8) cF)))) (cP (bN (cP cE (cP (WD cM) cF))) (cP (bN (cP cE (cP cE cF))) (cP (bN (cP cE (cP cM cF))) (cP (bN (cP cE (cP cM (cP Q3 cF)))) (cP (bK (JI (N0 (K:=K) rfl) XM (by rfl) T.XM T0 (MX (Y1 hu1 (Y1 hu1 (vv 2) cM) (vv 8))))) cF))))))))))
  refine cK ?_ ?_
  ·exact(Y6 (K:=K) rfl Bg Bi aC X3 (pv 9) (b7 (cP (bN (cP cE (cP Y2 cF))) cF)))
  refine cK ?_ ?_
  ·exact(gE (i:=9) (bA WV.nd (ZX (cD (a8 ak hr (cI (vv 0) (aW (pv 1) (cI (vv 9) cG))))))))
  exact cH (b8 (XR kK eP (a8 cb hr (cI (cD (bN (cP (Y1 hu1 (vv 2) cM) (cP (aH (YE (K:=K) rfl) ZK (aH (YE (K:=K) rfl) ZK (U7 rfl (Y1 hu1 (vv 2) cM) U8 (U9 (vv 8))) (bN (cP (vv 4) cF))) (U7 rfl (Y1 hu1 (vv 2) cM) (U9 (aH (YE (K:=K) rfl) ZK (vv 8) cM)) U8)) cF)))) cG)) Y2 (Z4 _)))
end
end RR
namespace L2
open PySem
theorem YS(a b:String):Bf a=Bf b↔a=b:=by
 refine⟨λh=>?_,λh=>by rw[h]⟩;rw[Io,Io] at h;injection h with h;have h2:a.toList.map Qf=b.toList.map Qf:=by simpa using h
 have h3:a.toList=b.toList:=by
  have inj:∀(l m:List Char),l.map Qf=m.map Qf->l=m:=by
   intro l;induction l with
   |nil=>intro m h;cases m with
    |nil=>rfl
    |cons=>cases h
   | cons c l ih => intro m h;cases m with
    |nil=>cases h
    |cons e m=>
     simp only[Ay,Kl] at h;rw[ih m h.2,Char.toNat_inj.mp h.1]
  exact inj _ _ h2
 exact String.toList_inj.mp h3
theorem DB(a:String):Ub (Bf a)=true:=by
 unfold Ub;rw[Io];simp only[List.all_toArray,Tx,Fk,Ti,decide_eq_true_eq];intro c _;have:=c.valid;rcases this with h|⟨_,h⟩
 ·show c.val.toNat<1114112
  have:c.val.toNat<55296:=h;lia
 ·exact h
def UM(k:Nat)(d:cO):Prop:=d.isD=true/\d.pd.canLay0=true/\d.pd.depth<=k
theorem ZA{k:Nat}{i:Int}:UM k (.int i):=⟨rfl,rfl,Dv _⟩
theorem F7{k:Nat}{i:Bool}:UM k (.bl i):=⟨rfl,rfl,Dv _⟩
theorem mS{k:Nat}:UM k .non:=⟨rfl,rfl,Dv _⟩
theorem ZM{k:Nat}{a:String}:UM k (.str (Bf a)):=⟨rfl,by simp[cO.pd,Gk,DB],Dv _⟩
theorem KI{k:Nat}:∀{ds:List cO},(∀d∈ds,UM k d)->HK ds=true/\Jb (BJ ds)=true/\Fe (BJ ds)<=k
 |[],_=>⟨rfl,rfl,Dv _⟩
 |d::ds,h=>by obtain⟨a1,a2,a3⟩:=h d Ar;obtain⟨b1,b2,b3⟩:=KI λe he=>h e (An _ he);refine⟨by simp[HK,a1,b1],by simp[BJ,Jb,a2,b2],?_⟩;simp only[BJ,Fe];lia
theorem T5{k:Nat}{ds:List cO}(h:∀d∈ds,UM k d):UM (k+1) (.tup ds):=by obtain⟨a,b,c⟩:=KI h;exact⟨by simpa[cO.isD] using a,by simpa[cO.pd,Gk] using b,by simp only[cO.pd,Jk];lia⟩
theorem YT{k:Nat}{ds:List cO}(h:∀d∈ds,UM k d):UM (k+1) (.lst ds):=by obtain⟨a,b,c⟩:=KI h;exact⟨by simpa[cO.isD] using a,by simpa[cO.pd,Gk] using b,by simp only[cO.pd,Jk];lia⟩
theorem UM.ok{k:Nat}{d:cO}(h:UM k d)(hk:k<=64:=by decide):MB d=true:=by unfold MB Es;simp only[h.1,h.2.1,Tq,Ae,decide_eq_true_eq];have:=h.2.2;lia
@[simp] theorem qQ{a:String}:MB (.str (Bf a))=true:=(ZM (k:=0)).ok
theorem ZB{k:Nat}:∀d∈([]:List cO),UM k d:=λ_ h=>nomatch h
theorem a7{k:Nat}{d:cO}{ds:List cO}(h:UM k d)(t:∀d∈ds,UM k d):∀e∈d::ds,UM k e:=λe he=>by
 rcases Ak.mp he with z|z
 ·rw[z];exact h
 ·exact t e z
@[simp] theorem pE{i j:Int}:BF (.int i) (.int j)=decide (i=j):=by show(i==j)=_;rw[Mz]
@[simp] theorem su{a b:String}:BF (.str (Bf a)) (.str (Bf b))=decide (a=b):=by show(Bf a==Bf b)=_;rw[Mz];simp only[YS]
@[simp] theorem qy{i j:Int}:VT (.int i) (.int j)=some (.bl (decide (i=j))):=by unfold VT;simp
@[simp] theorem sj{i j:Int}:P9 (.int i) (.int j)=some (.bl (!decide (i=j))):=by unfold P9;simp
@[simp] theorem rZ{a b:String}:VT (.str (Bf a)) (.str (Bf b))=some (.bl (decide (a=b))):=by unfold VT;simp
@[simp] theorem uc{a b:String}:P9 (.str (Bf a)) (.str (Bf b))=some (.bl (!decide (a=b))):=by unfold P9;simp
theorem iO{j k:Nat}{d e:cO}(h:UM j d)(h':UM k e)(hj:j<=64:=by decide)(hk:k<=64:=by decide):VT d e=some (.bl (BF d e)):=by unfold VT;rw[h.ok hj,h'.ok hk];rfl
theorem EF{j k:Nat}{d e:cO}(h:UM j d)(h':UM k e)(hj:j<=64:=by decide)(hk:k<=64:=by decide):P9 d e=some (.bl (!BF d e)):=by unfold P9;rw[h.ok hj,h'.ok hk];rfl
theorem Vu{j k:Nat}{neg:Bool}{d:cO}{ds:List cO}(h:UM j d)(h':∀e∈ds,UM k e)(hj:j<=64:=by decide)(hk:k+1<=64:=by decide):Z0 neg d (.tup ds)=some (.bl (if neg then !LV d ds else LV d ds)):=by unfold Z0;simp[h.ok hj,(T5 h').ok hk]
theorem KC{j k:Nat}{neg:Bool}{d:cO}{ds:List cO}(h:UM j d)(h':∀e∈ds,UM k e)(hj:j<=64:=by decide)(hk:k+1<=64:=by decide):Z0 neg d (.lst ds)=some (.bl (if neg then !LV d ds else LV d ds)):=by unfold Z0;simp[h.ok hj,(YT h').ok hk]
@[simp] theorem uM{d:cO}:LV d []=false:=(rfl)
@[simp] theorem Vo{d e:cO}{ds:List cO}:LV d (e::ds)=(BF e d || LV d ds):=(rfl)
@[simp] theorem D6{neg:Bool}{a b c:String}:Z0 neg (.str (Bf a)) (.tup [.str (Bf b),.str (Bf c)])=some (.bl (if neg then !(decide (b=a) || decide (c=a)) else decide (b=a) || decide (c=a))):=by rw[Vu (j:=0) ZM (a7 (ZM (k:=0)) (a7 ZM ZB))];simp
@[simp] theorem Ww{neg:Bool}{a b c d e:String}:Z0 neg (.str (Bf a)) (.tup [.str (Bf b),.str (Bf c),.str (Bf d),.str (Bf e)])=some (.bl (if neg then !(decide (b=a) || (decide (c=a) || (decide (d=a) || decide (e=a)))) else decide (b=a) || (decide (c=a) || (decide (d=a) || decide (e=a))))):=by rw[Vu (j:=0) ZM (a7 (ZM (k:=0)) (a7 ZM (a7 ZM (a7 ZM ZB))))];simp
@[simp] theorem rj{neg:Bool}{a b c:Int}:Z0 neg (.int a) (.tup [.int b,.int c])=some (.bl (if neg then !(decide (b=a) || decide (c=a)) else decide (b=a) || decide (c=a))):=by rw[Vu (j:=0) ZA (a7 (ZA (k:=0)) (a7 ZA ZB))];simp
theorem kI{k:Nat}{d:cO}(h:UM k d):BF d d=true:=PySem.SeqAt.eqv_refl _ h.2.1
def VC(ns:List Int):cO:=.lst (ns.map .int)
noncomputable def WO(n:Nat):cO:=.lst (At n (.int 0))
theorem LX:∀ns:List Int,HK (ns.map cO.int)=true
 |[]=>rfl
 |n::ns=>by simp[HK,cO.isD,LX ns]
theorem IF:∀ns:List Int,BJ (ns.map cO.int)=ns.map Ps
 |[]=>rfl
 |n::ns=>by simp[BJ,cO.pd,IF ns]
theorem jA(ns:List Int):MB (.lst (ns.map .int))=true:=by unfold MB;simp only[cO.isD,LX,cO.pd,IF,Tq];exact IV ns
theorem XJ(ns:List Int):VT (.lst (ns.map .int)) (.lst [])=some (.bl ns.isEmpty):=by unfold VT;rw[jA,show MB (.lst [])=true from by decide+kernel];cases ns<;>rfl
theorem LU:∀n:Nat,UF (At n (.int 0))=true
 |0=>rfl
 |n+1=>by simp[Dy,UF,cO.hard,LU n]
@[simp] theorem uh(n:Nat):UG (WO n)=true:=LU n
theorem LL:∀(ds:List cO) (a b:cO) (r:Int) (s:Sl),∃r' s',W6 (gN 3) (aD 2 (xV (f2 ED (fV 2) (fC (.int 1000003))))) ds [.va a,.va b,.va (.int r),s]=some (.nx [.va a,.va b,.va (.int r'),s'])
 |[],a,b,r,s=>⟨r,s,rfl⟩
 |d::ds,a,b,r,s=>by obtain⟨r',s',h⟩:=LL ds a b (r/1000003) (.va d);exact⟨r',s',by simp[cDiv,h]⟩
theorem PM{ns:List Int}{i:Int}(h0:0<=i)(h1:i<ns.length):∃r∈ns,U3 (ns.map cO.int) i=some (.int r):=by obtain⟨x,hx,e⟩:=FN (xs:=ns.map cO.int) h0 (by simpa using h1);obtain⟨r,hr,rfl⟩:=Cz.mp hx;exact⟨r,hr,e⟩
theorem lV(ns:List Int)(k:Nat)(hl:ns.length<=63)(hk:k<1000000):∃r,Z2 [VC ns,.int k]=some (.int r,[]):=by
 unfold Z2;rw[bL];unfold V8 U4 VC;by_cases h:(k:Int)<ns.length
 ·obtain ⟨r,_,e⟩ := PM (ns := ns) (i := k) (by lia) h
  exact⟨r,by simp[bF,h,e]⟩
 ·cases ns with
  |nil=>
   have h0:¬((k:Int)<0):=by lia
   have e:VT (.lst []) (.lst [])=some (.bl true):=XJ [];exact⟨0,by simp[bF,h0,e]⟩
  |cons m ms=>
   generalize hns:m::ms=ns at*;have bu:(0:Int)<ns.length:=by rw[<-hns];simp
   have hb:=Il (k:Int) (show(ns.length:Int)≠0 by lia);have hb2:=Ew (k:Int) bu;obtain⟨r,_,e⟩:=PM (ns:=ns) hb hb2;have he:ns.isEmpty=false:=by rw[<-hns];rfl
   have hq:0<=(k:Int)/ns.length:=Int.ediv_nonneg (by lia) (by lia);have hm: -4611686018427387904<=(if(60:Int)<(k:Int)/ns.length then 60 else(k:Int)/ns.length)/\(if(60:Int)<(k:Int)/ns.length then 60 else(k:Int)/ns.length)<4611686018427387904:=by split<;>lia
   obtain⟨r',s',e2⟩:=LL (Y8 0 (if(60:Int)<(k:Int)/ns.length then 60 else(k:Int)/ns.length).toNat) (.lst (ns.map .int)) (.int k) r .no;have hp2:0<ns.length:=by lia
   have hp3:(ns.length:Int)<1073741824:=by lia
   exact⟨r*31+k+r'*101,by simp[bF,h,XJ,he,bu,hp2,hp3,e,cDiv,hm,e2,cMul]⟩
noncomputable def cel(ns:List Int)(k:Nat):Int:=match Z2 [VC ns,.int k] with
 |some (.int r,_)=>r
 |_=>0
theorem iJ(ns:List Int)(k:Nat)(hl:ns.length<=63)(hk:k<1000000):Z2 [VC ns,.int k]=some (.int (cel ns k),[]):=by obtain⟨r,e⟩:=lV ns k hl hk;unfold cel;rw[e]
noncomputable def JZ(ns:List Int)(n:Nat)(b:Int):Int:=((cel ns (n+1)*1103515245+7919*(((n+1:Nat)):Int)+12345) % 2147483647) ^ 5 % 2147483647 % 999983 % b
theorem P4(ns:List Int)(n:Nat){b:Int}(h:0<b):0<=JZ ns n b:=Il _ (by lia)
theorem HE(ns:List Int)(n:Nat){b:Int}(h:0<b):JZ ns n b<b:=Ew _ h
theorem nU(ns:List Int)(n:Nat)(b:Int)(hl:ns.length<=63)(hn:n<900000)(hb:0<b):YK [VC ns,.int ((n+1:Nat):Int),.int b]=some (.int (JZ ns n b),[]):=by
 have e:=iJ ns (n+1) hl (by lia);unfold YK;rw[bL];unfold UD JZ;have e1:=Il (cel ns (n+1)*1103515245+7919*((n+1:Nat):Int)+12345) (show(2147483647:Int)≠0 by decide);have e2:=Ew (cel ns (n+1)*1103515245+7919*((n+1:Nat):Int)+12345) (show(0:Int)<2147483647 by decide);generalize hz:(cel ns (n+1)*1103515245+7919*((n+1:Nat):Int)+12345) % 2147483647=z at*;have hz2:z.natAbs<18446744073709551616:=by lia
 generalize hk:((n+1:Nat):Int)=k at*;simp[bF,e,cMul,cPow,hz,hz2,hb]
theorem X0(ns:List Int)(n:Nat)(b:Int)(hl:ns.length<=63)(hn:n<900000)(hb:0<b):bR [VC ns,WO n,.int b]=some (.int (JZ ns n b),[WO (n+1)]):=by
 have e:=nU ns n b hl hn hb;unfold bR;rw[bL];unfold SE;have ht:WO n=.lst (At n (.int 0)):=rfl;have ht2:WO (n+1)=.lst (At n (.int 0)++[.int 0]):=by unfold WO;rw[List.replicate_succ']
 rw[ht2,ht];have hs:n<16777216:=by lia
 push_cast at e
 simp[bF,hs,e]
theorem W8(ns:List Int)(n:Nat)(xs:List cO)(hl:ns.length<=63)(hn:n<900000)(hx:0<xs.length):∃x∈xs,bW [VC ns,WO n,.lst xs]=some (x,[WO (n+1)]):=by
 have hx':(0:Int)<xs.length:=by lia
 obtain⟨x,hm,e⟩:=FN (xs:=xs) (P4 ns n hx') (HE ns n hx');refine⟨x,hm,?_⟩;unfold bW;rw[bL];unfold SI;simp[bF,X0 ns n _ hl hn hx',e]
theorem DZ(ns:List Int)(n:Nat)(b:Int)(hl:ns.length<=63)(hn:n<900000)(hb:0<b)(tl:Ev):cA 3 [1] bR (aE (fV 0) (aO 1 (aE (fC (.int b)) bT))) (.va (VC ns):: .ow (WO n)::tl)=some (.int (JZ ns n b),.va (VC ns):: .ow (WO (n+1))::tl):=by simp[X0 ns n b hl hn hb]
abbrev Sn(m:Nat)(d:cO):Prop:=∃(ks:List aG) (vs:List Int),d=.dct ks (vs.map .int)/\ks.length=vs.length/\ks.Nodup/\ks.length<=m
abbrev NH(n:Nat)(d:cO):Prop:=Sn (8*n) d
theorem NH.mono{n m:Nat}{d:cO}(h:NH n d)(hn:n<=m):NH m d:=by obtain⟨ks,vs,h1,h2,h3,h4⟩:=h;exact⟨ks,vs,h1,h2,h3,by lia⟩
theorem Xc:∀(ks:List aG) (vs:List Int) (k:aG) (q:Int),∃r,(aU ks (vs.map .int) k).getD (.int q)=.int r
 |[],_,_,q=>⟨q,by simp[aU]⟩
 |_::_,[],_,q=>⟨q,by simp[aU]⟩
 | k' :: ks,v :: vs,k,q => by
  by_cases h:k'=k
  ·exact⟨v,by simp[aU,h]⟩
  ·obtain⟨r,e⟩:=Xc ks vs k q
   exact⟨r,by simp only[Ay,aU,if_neg h];exact e⟩
theorem putI:∀(ks:List aG) (vs:List Int) (k:aG) (p:Int),ks.length=vs.length->ks.Nodup->∃(ks':List aG) (vs':List Int),YF ks (vs.map .int) k (.int p)=(ks',vs'.map .int)/\ks'.length=vs'.length/\ks'.Nodup/\ks'.length<=ks.length+1/\(∀z∈ks',z=k∨z∈ks)/\aU ks' (vs'.map .int) k=some (.int p)
 |[],[],k,p,_,_=>⟨[k],[p],by simp[YF],rfl,by simp,by simp,by simp,by simp[aU]⟩
 | k' :: ks,v :: vs,k,p,hl,hn => by
  by_cases h:k'=k
  ·subst h
   exact⟨k'::ks,p::vs,by simp[YF],by simpa using hl,hn,by simp,by simp,by simp[aU]⟩
  ·obtain ⟨ks',vs',e,h1,h2,h3,h4,h5⟩ := putI ks vs k p (by simpa using hl) (Cs.mp hn).2
   refine⟨k'::ks',v::vs',by simp only[Ay,YF,if_neg h,e],by simp[h1],?_,by simp;lia,?_,by simp only[Ay,aU,if_neg h];exact h5⟩
   ·refine Cs.mpr ⟨λz => ?_,h2⟩
    rcases h4 _ z with y|y
    ·exact h y
    ·exact(Cs.mp hn).1 y
   ·intro z hz
    rcases Ak.mp hz with y|y
    ·exact .inr (by rw[y];exact Ar)
    ·exact(h4 z y).imp id (An _)
theorem IG(ns:List Int)(n:Nat)(sn:cO)(x:Us)(ae:Int)(hl:ns.length<=63)(hn:n<800000)(hs:NH n sn)(hr:0<ae):∃p sn',0<=p/\p<ae/\NH (n+2) sn'/\aF [VC ns,WO n,sn,.str x,.int ae]=some (.int p,[WO (n+2),sn']):=by
 obtain⟨ks,vs,rfl,h1,h2,h3⟩:=hs;obtain⟨a,ha⟩:=Xc ks vs (.inr x) (JZ ns n ae);obtain⟨y,hy,ey⟩:=W8 ns (n+1) [.int 1,.int 1,.int 1,.int 0,.int 3] hl (by lia) (by simp);obtain⟨b,rfl⟩:∃b,y=.int b:=by simp only[Ak,Aw,or_false] at hy;rcases hy with h|h|h|h|h<;>exact⟨_,h⟩
 obtain⟨ks',vs',e,h4,h5,h6,h7,h8⟩:=putI ks vs (.inr x) ((a+b) % ae) h1 h2;refine⟨(a+b) % ae,.dct ks' (vs'.map .int),Il _ (by lia),Ew _ hr,⟨ks',vs',rfl,h4,h5,by lia⟩,?_⟩;have hk:ks.length<16777216:=by lia
 unfold aF;rw[bL];unfold UE;simp[bF,X0 ns n ae hl (by lia) hr,ha,ey,hr,hk,h2,e,h8]
inductive aB(M:Int->Prop):cO->Prop
 |number {n:Int}:0<=n->n<=999->aB M (.tup [.str "number",.int n])
 |two {x:String} {a b:Int}:x∈["over","plus","minus","times","least","most","less"]->M a->M b->aB M (.tup [.str x,.int a,.int b])
 |pick {c a b:Int}:M c->M a->M b->aB M (.tup [.str "pick",.int c,.int a,.int b])
 |load {p:Int}:0<=p->p<=63->aB M (.tup [.str "load",.int p])
 |take {p c a:Int}:0<=p->p<=63->M c->M a->aB M (.tup [.str "take",.int p,.int c,.int a])
 |store {p a:Int}:0<=p->p<=63->M a->aB M (.tup [.str "store",.int p,.int a])
 |put {p a c:Int}:0<=p->p<=63->M a->M c->aB M (.tup [.str "put",.int p,.int a,.int c])
theorem AI(ns:List Int)(n:Nat)(made:List Int)(hl:ns.length<=63)(hn:n<800000)(hm:0<made.length)(s:Sl):∃a b c,a∈made/\b∈made/\c∈made∧ZZ 3 1 (gN 3) R7 (f2 bJ (fV 2) (f2 oMax (fC (.int 0)) (f2 OB (f2 OB (f1 YW (fV 2)) (fC (.int 1))) (cA 3 [1] bR (aE (fV 0) (aO 1 (aE (fC (.int 6)) bT))))))) [.int 0,.int 1,.int 2] [] [.va (VC ns),.ow (WO n),.va (.lst (made.map .int))]=some ([.int a,.int b,.int c],[.va (VC ns),.ow (WO (n+3)),.va (.lst (made.map .int))]):=by
 have one:∀m,∃a∈made,U3 (made.map cO.int) (if(made.length:Int) - 1 - JZ ns m 6>0 then(made.length:Int) - 1 - JZ ns m 6 else 0)=some (.int a):=λm=>by have:=P4 ns m (b:=6) (by decide);exact PM (by split<;>lia) (by split<;>lia)
 obtain⟨a,ha,ea⟩:=one n;obtain⟨b,hb,eb⟩:=one (n+1);obtain⟨c,hc,ec⟩:=one (n+2);refine⟨a,b,c,ha,hb,hc,?_⟩;have d0:=X0 ns n 6 hl (by lia) (by decide);have d1:=X0 ns (n+1) 6 hl (by lia) (by decide);have d2:=X0 ns (n+2) 6 hl (by lia) (by decide);simp only[gt_iff_lt,Int.sub_pos] at ea eb ec;simp[d0,d1,d2,ea,eb,ec]
def onC(x:String):Prop:=x= "load" ∨x= "take" ∨x= "store" ∨x= "put"
def PlOK(ae:Int)(row:cO):Prop:=∀(x:String) (p:Int) (t:List cO),row=.tup (.str x:: .int p::t)->onC x->p<ae
theorem RT{ae p:Int}{x:String}{t:List cO}(h:p<ae):PlOK ae (.tup (.str x:: .int p::t)):=λy q u e _=>by simp only[cO.tup.injEq,Kl,cO.int.injEq] at e;lia
theorem GB{ae:Int}{x:String}{t:List cO}(h:¬onC x):PlOK ae (.tup (.str x::t)):=λy q u e hy=>by simp only[cO.tup.injEq,Kl,cO.str.injEq,YS] at e;rw[<-e.1] at hy;exact absurd hy h
theorem FD{x:String}(hx:x∈["over","plus","minus","times","least","most","less"]):¬onC x:=λh=>by simp only[Ak,Aw,or_false] at hx;rcases hx with rfl|rfl|rfl|rfl|rfl|rfl|rfl<;>rcases h with h|h|h|h<;>exact absurd h (by decide)
theorem Zt(ns:List Int)(n:Nat)(made:List Int)(sn:cO)(ae:Int)(hl:ns.length<=63)(hn:n<700000)(hs:NH n sn)(hr:0<ae)(hr2:ae<=64):∃row n' sn',n<=n'/\n'<=n+10/\NH n' sn'/\aB (· ∈made) row/\PlOK ae row/\WY [VC ns,WO n,.lst (made.map .int),sn,.int ae]=some (row,[WO n',sn']):=by
  have d0:=DZ ns n 13 hl (by lia) (by decide);have k0:=P4 ns n (b:=13) (by decide);have k1:=HE ns n (b:=13) (by decide);generalize JZ ns n 13=kd at*;unfold WY;rw[bL];unfold QN;by_cases h0:made.isEmpty=true∨kd=0
  · have d1 := DZ ns (n + 1) 2 hl (by lia) (by decide)
    have hor:made.isEmpty=true∨(made.isEmpty=false/\kd=0):=by
      cases hm:made.isEmpty with
      |true=>exact .inl rfl
      | false => rcases h0 with h | h
                 · rw[hm] at h;cases h
                 · exact .inr ⟨rfl,h⟩
    by_cases h2:JZ ns (n+1) 2=0
    · have d2 := DZ ns (n + 2) 1000 hl (by lia) (by decide)
      obtain⟨y,hy,ey⟩:=W8 ns (n+3) [.int 0,.int 1,.int 2,.int 5,.int 999,.int (JZ ns (n+2) 1000)] hl (by lia) (by simp);obtain⟨b,rfl,hb0,hb1⟩:∃b,y=.int b/\0<=b/\b<=999:=by have:=P4 ns (n+2) (b:=1000) (by decide);have:=HE ns (n+2) (b:=1000) (by decide);simp only[Ak,Aw,or_false] at hy;rcases hy with h|h|h|h|h|h<;>exact⟨_,h,by lia,by lia⟩
      refine⟨.tup [.str "number",.int b],n+4,sn,by lia,by lia,hs.mono (by lia),.number hb0 hb1,GB (by unfold onC;decide),?_⟩;rcases hor with h|⟨h,h'⟩
      · simp[bF,↓d0,XJ,h,↓d1,h2,↓d2,ey]
      · simp[bF,↓d0,XJ,h,h',↓d1,h2,↓d2,ey]
    · obtain ⟨p,sn',p0,p1,hs',ep⟩ := IG ns (n + 2) sn "load" ae hl (by lia) (hs.mono (by lia)) hr
      refine⟨.tup [.str "load",.int p],n+4,sn',by lia,by lia,hs',.load p0 (by lia),RT p1,?_⟩;rcases hor with h|⟨h,h'⟩
      · simp[bF,↓d0,XJ,h,↓d1,h2,ep]
      · simp[bF,↓d0,XJ,h,h',↓d1,h2,ep]
  · obtain⟨hm,hkd⟩:=not_or.mp h0
    have hm':made.isEmpty=false:=by simpa using hm
    have bu:0<made.length:=by
      cases made with
      |nil=>cases hm'
      |cons=>simp
    obtain⟨a,b,c,ha,hb,hc,e3⟩:=AI ns (n+1) made hl (by lia) bu .no;have m6:(kd=1∨kd=2)∨kd=3∨(kd=4∨kd=5)∨kd=6∨kd=7∨(8<=kd/\kd<=12):=by lia
    have pl:∀x:Us,∃p sn',0<=p/\p<=63/\p<ae/\NH (n+6) sn'/\∀s tl,cA 5 [1,2] aF (aE (fV 0) (aO 1 (aO 3 (aE (fC (.str x)) (aE (fV 4) bT))))) (.va (VC ns):: .ow (WO (n+4))::s:: .ow sn:: .va (.int ae)::tl)=some (.int p,.va (VC ns):: .ow (WO (n+6))::s:: .ow sn':: .va (.int ae)::tl):=λx=>by obtain⟨p,sn',p0,p1,hs',ep⟩:=IG ns (n+4) sn x ae hl (by lia) (hs.mono (by lia)) hr;exact⟨p,sn',p0,by lia,p1,hs',λs tl=>by simp[ep]⟩
    rcases m6 with h|h|h|h|h|h
    · have t12 : (decide (1 = kd) || decide (2 = kd)) = true := by rcases h with rfl | rfl <;> decide
      obtain⟨p,sn',p0,p1,p2,hs',ep⟩:=pl "load";exact⟨.tup [.str "load",.int p],n+6,sn',by lia,by lia,hs',.load p0 p1,RT p2,by simp[bF,↓d0,XJ,hm',hkd,aY,e3,↓ep,t12]⟩
    · subst h
      obtain⟨p,sn',p0,p1,p2,hs',ep⟩:=pl "take";exact⟨.tup [.str "take",.int p,.int c,.int a],n+6,sn',by lia,by lia,hs',.take p0 p1 hc ha,RT p2,by simp[bF,↓d0,XJ,hm',aY,e3,↓ep]⟩
    · have t45 : (decide (4 = kd) || decide (5 = kd)) = true := by rcases h with rfl | rfl <;> decide
      have n3:¬kd=3:=by lia
      have m1:¬1=kd:=by lia
      have m2:¬2=kd:=by lia
      obtain⟨p,sn',p0,p1,p2,hs',ep⟩:=pl "store";exact⟨.tup [.str "store",.int p,.int a],n+6,sn',by lia,by lia,hs',.store p0 p1 ha,RT p2,by simp[bF,↓d0,XJ,hm',hkd,aY,e3,↓ep,n3,m1,m2,t45]⟩
    · subst h
      obtain⟨p,sn',p0,p1,p2,hs',ep⟩:=pl "put";exact⟨.tup [.str "put",.int p,.int a,.int c],n+6,sn',by lia,by lia,hs',.put p0 p1 ha hc,RT p2,by simp[bF,↓d0,XJ,hm',aY,e3,↓ep]⟩
    · subst h
      exact⟨.tup [.str "pick",.int c,.int a,.int b],n+4,sn,by lia,by lia,hs.mono (by lia),.pick hc ha hb,GB (by unfold onC;decide),by simp[bF,↓d0,XJ,hm',aY,e3]⟩
    · have d4 := DZ ns (n + 4) 7 hl (by lia) (by decide)
      have q0:=P4 ns (n+4) (b:=7) (by decide);have q1:=HE ns (n+4) (b:=7) (by decide);obtain⟨y,hy,ey⟩:=FN (xs:=["over","plus","minus","times","least","most","less"].map λs:String=>cO.str (Bf s)) q0 (by simpa using q1);obtain⟨x,hx,rfl⟩:=Cz.mp hy;simp only[Ay,Ea] at ey;have n1:¬kd=1:=by lia
      have n2:¬kd=2:=by lia
      have n3:¬kd=3:=by lia
      have n4:¬kd=4:=by lia
      have n5:¬kd=5:=by lia
      have n6:¬kd=6:=by lia
      have n7:¬kd=7:=by lia
      have m1:¬1=kd:=by lia
      have m2:¬2=kd:=by lia
      have m4:¬4=kd:=by lia
      have m5:¬5=kd:=by lia
      exact⟨.tup [.str x,.int a,.int b],n+5,sn,by lia,by lia,hs.mono (by lia),.two hx ha hb,GB (FD hx),by simp[bF,↓d0,XJ,hm',hkd,aY,e3,n3,n6,n7,m1,m2,m4,m5,↓d4,ey]⟩
inductive Kd where
 |w|p|n
 deriving DecidableEq
def Nm(kds:List Kd)(k:Kd)(a:Int):Prop:=0<=a/\kds[a.toNat]?=some k
theorem Nm.lt{kds:List Kd}{k:Kd}{a:Int}(h:Nm kds k a):a<kds.length:=by have:=(Ag.mp h.2).1;have:=h.1;lia
theorem Nm.snoc{kds:List Kd}{k j:Kd}{a:Int}(h:Nm kds k a):Nm (kds++[j]) k a:=⟨h.1,by rw[Ao (Ag.mp h.2).1];exact h.2⟩
theorem Nm.new{kds:List Kd}{k:Kd}:Nm (kds++[k]) k kds.length:=⟨by lia,by simp⟩
noncomputable def P0(k:Kd):cO->Kd
 |.tup (.str x::_)=>if x= "store" ∨x= "put" then .n else k
 |_=>.n
theorem aB.imp{M M':Int->Prop}{row:cO}(h:aB M row)(f:∀a,M a->M' a):aB M' row:=by
 cases h with
 |number a b=>exact .number a b
 |two a b c=>exact .two a (f _ b) (f _ c)
 |pick a b c=>exact .pick (f _ a) (f _ b) (f _ c)
 |load a b=>exact .load a b
 |take a b c d=>exact .take a b (f _ c) (f _ d)
 |store a b c=>exact .store a b (f _ c)
 |put a b c d=>exact .put a b (f _ c) (f _ d)
theorem aB.hard{M:Int->Prop}{row:cO}(h:aB M row):row.hard=true:=by
 cases h<;>simp[cO.hard,UF]
@[simp] theorem pN{i:Int}:QW (.int i)=some (.int (-i)):=(rfl)
theorem V0{ds:List cO}{k:Nat}(h:k<=ds.length):VY ds (some (k:Int)) none=ds.drop k:=by unfold VY;rw[HT.E3,HT.IQ,Ik h,Ck (by simp)]
theorem T1{ds:List cO}{k:Nat}:VY ds none (some (k:Int))=ds.take k:=by
 unfold VY;rw[HT.E3,HT.IQ];simp only[Np,Nat.sub_zero];by_cases h:k<=ds.length
 ·rw[Ik h]
 ·rw[Nat.min_eq_right (by lia),Ck (by lia),Ck (by lia)]
@[simp] theorem uf{d:cO}{ds:List cO}:VY (d::ds) (some 1) none=ds:=V0 (k:=1) (by simp)
@[simp] theorem tE{d e:cO}{ds:List cO}:VY (d::e::ds) (some 2) none=ds:=V0 (k:=2) (by simp)
@[simp] theorem uA{ds:List cO}:VY ds none (some 2)=ds.take 2:=T1 (k:=2)
@[simp] theorem u9{ds:List cO}:VY ds none (some 1)=ds.take 1:=T1 (k:=1)
@[simp] theorem sM{α:Type}{xs:List α}{x:α}:U3 (xs++[x]) (-1)=some x:=by
 unfold U3 ixN;rw[if_neg (by decide),if_pos (by simp;lia)];have e:(-1+((xs++[x]).length:Int)).toNat=xs.length:=by simp;lia
 show(xs++[x])[(-1+((xs++[x]).length:Int)).toNat]?=some x;rw[e];simp
@[simp] theorem sZ{α:Type}{x:α}{xs:List α}:U3 (x::xs) 0=some x:=by rw[XD (by decide) (by simp)];rfl
@[simp] theorem ud{α:Type}{x y:α}{xs:List α}:U3 (x::y::xs) 1=some y:=by rw[XD (by decide) (by simp;lia)];rfl
@[simp] theorem rl{α:Type}{x y z:α}{xs:List α}:U3 (x::y::z::xs) 2=some z:=by rw[XD (by decide) (by simp;lia)];rfl
theorem eA{k:Kd}{x:String}{t:List cO}(hx:x∉["store","put"]):P0 k (.tup (.str x::t))=k:=by simp only[Ak,Aw,or_false,not_or] at hx;simp[P0,YS,hx]
theorem pC{k:Kd}{x:String}{t:List cO}(hx:x= "store" ∨x= "put"):P0 k (.tup (.str x::t))=.n:=by
 rcases hx with rfl|rfl<;>simp[P0,YS]
theorem V4{M:Int->Prop}{row:cO}(h:aB M row):∃(x:String) (t:List cO),row=.tup (.str x::t)/\x∉["wide","gather","shuffle"]:=by
 cases h with
 |two hx _ _=>
  simp only[Ak,Aw,or_false] at hx;rcases hx with rfl|rfl|rfl|rfl|rfl|rfl|rfl<;>exact⟨_,_,rfl,by decide⟩
 |_=>exact⟨_,_,rfl,by decide⟩
@[simp] theorem OW(n lo hi:Int):bV [.int n,.int lo,.int hi]=some (.bl (decide (lo<=n)&&decide (n<=hi)),[]):=by unfold bV;rw[bL];unfold SD;simp[bF];by_cases h:lo<=n<;>simp[h]
theorem MD{x:String}(h:x∈["over","plus","minus","times","least","most","less"]):aK [.str x]=some (.tup [.str "row",.str "row"],[]):=by simp only[Ak,Aw,or_false] at h;rcases h with rfl|rfl|rfl|rfl|rfl|rfl|rfl<;>kernel_rfl
@[simp] theorem qH:aK [.str "number"]=some (.tup [.str "word"],[]):=by kernel_rfl
@[simp] theorem tY:aK [.str "pick"]=some (.tup [.str "row",.str "row",.str "row"],[]):=by kernel_rfl
@[simp] theorem rJ:aK [.str "load"]=some (.tup [.str "place"],[]):=by kernel_rfl
@[simp] theorem qp:aK [.str "take"]=some (.tup [.str "place",.str "row",.str "row"],[]):=by kernel_rfl
@[simp] theorem qk:aK [.str "store"]=some (.tup [.str "place",.str "row"],[]):=by kernel_rfl
@[simp] theorem sX:aK [.str "put"]=some (.tup [.str "place",.str "row",.str "row"],[]):=by kernel_rfl
def Ab(able:List Bool)(a:Int):Prop:=0<=a/\able[a.toNat]?=some true
theorem fK{able:List Bool}{a:Int}(h:Ab able a):ZY [.int a,.lst (able.map .bl)]=some (.bl true,[]):=by
 have hlt:=(Ag.mp h.2).1;have h0:=h.1;have h1:a<=(able.length:Int) - 1:=by lia
 have h2:U3 (able.map cO.bl) a=some (.bl true):=by rw[XD h0 (by simp;lia)];simp[h.2]
 unfold ZY;rw[bL];unfold WT;simp[bF,h0,h1,h2]
theorem YV{able:List Bool}{a:Int}(h:Ab able a):XB [.str "row",.int a,.lst (able.map .bl)]=some (.bl true,[]):=by unfold XB;rw[bL];unfold QL;simp[bF,fK h]
theorem CG{d:cO}{a:Int}(h:0<=a)(h':a<=999):XB [.str "word",.int a,d]=some (.bl true,[]):=by unfold XB;rw[bL];unfold QL;simp[bF,UC,h,h']
theorem VH{d:cO}{a:Int}(h:0<=a)(h':a<=63):XB [.str "place",.int a,d]=some (.bl true,[]):=by unfold XB;rw[bL];unfold QL;simp[bF,VD,h,h']
@[simp] theorem tq:NJ []=some []:=(rfl)
@[simp] theorem rh{b:Bool}{ds:List cO}:NJ (.bl b::ds)=(NJ ds).map λks=>b::ks:=(rfl)
@[simp] theorem qG{g:List Bool->Bool}{ds:List cO}:Vx g (.lst ds)=(NJ ds).map λks=>.bl (g ks):=(rfl)
@[simp] theorem sH{ds:List cO}:TQ ds []=[]:=by cases ds<;>rfl
@[simp] theorem tP{d e:cO}{ds es:List cO}:TQ (d::ds) (e::es)=.tup [d,e]::TQ ds es:=(rfl)
theorem Zq{able:List Bool}{row:cO}(h:aB (Ab able) row):Z5 [row,.lst (able.map .bl)]=some (.bl true,[]):=by
 unfold Z5;rw[bL];unfold RF;cases h with
 |number a b=>simp[bF,aY,CG a b]
 |two hx a b=>simp[bF,aY,MD hx,YV a,YV b]
 |pick a b c=>simp[bF,aY,YV a,YV b,YV c]
 |load a b=>simp[bF,aY,VH a b]
 |take a b c d=>simp[bF,aY,VH a b,YV c,YV d]
 |store a b c=>simp[bF,aY,VH a b,YV c]
 |put a b c d=>simp[bF,aY,VH a b,YV c,YV d]
theorem NO(nn:Nat)(fe:VF)(δ:Ev)(f:cO->cO)(hδ:δ.length=nn):∀(ds acc:List cO),(∀d∈ds,fe (δ++[Sl.va d])=some (f d,δ++[Sl.va d]))->acc.length+ds.length<16777216->ZZ nn 1 (gN nn) R7 fe ds acc δ=some (acc++ds.map f,δ)
 |[],acc,_,_=>by simp
 |d::ds,acc,h,hl=>by
  have fj:(δ++[Sl.no]).set nn (.va d)=δ++[Sl.va d]:=by rw[Fq _ _ (by lia)];simp[hδ]
  have ay:(δ++[Sl.va d]).take nn=δ:=by rw[Dt (by lia),Ck (by lia)]
  have az:acc.length<16777216:=by simp at hl;lia
  have ih:=NO nn fe δ f hδ ds (acc++[f d]) (λe he=>h e (An _ he)) (by simp at hl⊢;lia);simp only[RD,Vr,HI,fj,IJ,iQ,Vq,h d Ar,Vm,if_pos az,ay,ih];simp
theorem lM(k:Nat):(Y8 0 k).length=k:=by simp[Y8]
theorem HS:∀(ks:List aG) (ws:List cO) (i:Nat) (k:aG),ks.Nodup->ks.length=ws.length->ks[i]?=some k->aU ks ws k=ws[i]?
 |[],_,i,k,_,_,e=>by simp at e
 |k'::ks,[],i,k,_,hl,_=>by simp at hl
 |k'::ks,w::ws,0,k,_,_,e=>by simp at e;simp[aU,e]
 |k'::ks,w::ws,i+1,k,nd,hl,e=>by
  have e':ks[i]?=some k:=by simpa using e
  have hne:¬k'=k:=λz=>(Cs.mp nd).1 (by rw[z];exact Ej e');have:=HS ks ws i k (Cs.mp nd).2 (by simpa using hl) e';simp[aU,hne,this]
noncomputable def cnt:cO->Nat
 |.tup (.str x::_)=>if x= "number" ∨x= "load" then 0 else if x= "store" then 1 else if x= "pick" then 3 else 2
 |_=>0
theorem dne{x:String}(hx:x∈["over","plus","minus","times","least","most","less"]){y:String}(hy:(["over","plus","minus","times","least","most","less"].contains y)=false):(¬x=y)/\¬y=x:=by
 have h:¬x=y:=λe=>by subst e;rw[List.contains_iff_mem.mpr hx] at hy;cases hy
 exact⟨h,λe=>h e.symm⟩
theorem N7{M:Int->Prop}{row:cO}(h:aB M row):∃as:List Int,(∀a∈as,M a)/\as.length=cnt row/\Z3 [row]=some (.lst (as.map .int),[])/\YN [row]=some (.lst (as.map .int),[]):=by
 cases h with
 | @number n _ _=>
  refine⟨[],(λ_ h=>nomatch h),by kernel_rfl,?_,?_⟩
  ·kernel_rfl
  ·kernel_rfl
 | @two x a b hx ha hb=>
  refine⟨[a,b],by simp[ha,hb],?_,?_,?_⟩
  ·simp only[Ak,Aw,or_false] at hx
   rcases hx with rfl|rfl|rfl|rfl|rfl|rfl|rfl<;>kernel_rfl
  ·simp only[Ak,Aw,or_false] at hx
   rcases hx with rfl|rfl|rfl|rfl|rfl|rfl|rfl<;>kernel_rfl
  ·simp only[Ak,Aw,or_false] at hx
   rcases hx with rfl|rfl|rfl|rfl|rfl|rfl|rfl<;>kernel_rfl
 | @pick c a b hc ha hb=>
  refine⟨[c,a,b],by simp[hc,ha,hb],by kernel_rfl,?_,?_⟩
  ·kernel_rfl
  ·kernel_rfl
 | @load p _ _=>
  refine⟨[],(λ_ h=>nomatch h),by kernel_rfl,?_,?_⟩
  ·kernel_rfl
  ·kernel_rfl
 | @take p c a _ _ hc ha=>
  refine⟨[c,a],by simp[hc,ha],by kernel_rfl,?_,?_⟩
  ·kernel_rfl
  ·kernel_rfl
 | @store p a _ _ ha=>
  refine⟨[a],by simp[ha],by kernel_rfl,?_,?_⟩
  ·kernel_rfl
  ·kernel_rfl
 | @put p a c _ _ ha hc=>
  refine⟨[a,c],by simp[ha,hc],by kernel_rfl,?_,?_⟩
  ·kernel_rfl
  ·kernel_rfl
inductive Bl:List Kd->List cO->List Kd->Prop
 |nil {kds:List Kd}:Bl kds [] kds
 |cons {kds ai:List Kd} {row:cO} {rows:List cO}:aB (Nm kds .w) row->Bl (kds++[P0 .w row]) rows ai->Bl kds (row::rows) ai
theorem Bl.snoc{kds ai:List Kd}{rows:List cO}{row:cO}(h:Bl kds rows ai)(r:aB (Nm ai .w) row):Bl kds (rows++[row]) (ai++[P0 .w row]):=by
 induction h with
 |nil=>exact .cons r .nil
 |cons a _ ih=>exact .cons a (ih r)
theorem Bl.len{kds ai:List Kd}{rows:List cO}(h:Bl kds rows ai):ai.length=kds.length+rows.length:=by
 induction h with
 |nil=>simp
 |cons _ _ ih=>simp only[ih,Cf,Bm,Mr];lia
theorem Bl.all{kds ai:List Kd}{rows:List cO}(h:Bl kds rows ai):∀d∈rows,aB (Nm ai .w) d:=by
 induction h with
 |nil=>intro d hd;cases hd
 | @cons kds ai row rows a t ih=>
  intro d hd;rcases Ak.mp hd with rfl|hd
  ·refine a.imp λx hx => ?_
   have:∀{k k':List Kd} {rs:List cO},Bl k rs k'->Nm k .w x->Nm k' .w x:=by
    intro k k' rs h;induction h with
    |nil=>exact id
    |cons _ _ ih=>exact λz=>ih z.snoc
   exact this t hx.snoc
  ·exact ih d hd
theorem QO:∀ns:List Int,WJ (ns.map .int)=some ns
 |[]=>rfl
 |i::ns=>by show(WJ (ns.map .int)).map (λns=>i::ns)=_;rw[QO ns];rfl
theorem EL{n:Int}:∀{ns:List Int},n∈ns->∃j:Nat,WA n ns=some j/\j<ns.length
 | i :: ns,h => by
  unfold WA;by_cases e:i=n
  ·rw[if_pos e];exact⟨0,rfl,by simp⟩
  ·rw[if_neg e]
   obtain⟨j,h1,h2⟩:=EL (ns:=ns) (by
    rcases Ak.mp h with z|z
    ·exact absurd z.symm e
    ·exact z)
   exact⟨j+1,by rw[h1];rfl,by simp;lia⟩
noncomputable def BI(ns:List Int)(n:Nat)(rows:List cO)(made:List Int)(sn:cO)(ae:Int)(last:cO)(fi:Int)(bs:List Int)(s9 s10:Sl):Ev:=
 [.va (VC ns),.ow (WO n),.va (.lst rows),.va (.lst (made.map .int)),.ow sn,.va (.int ae),.va last,.va (.int fi),.ow (.lst (bs.map .int)),s9,s10]
theorem cS(ns:List Int)(n:Nat)(rows:List cO)(made:List Int)(sn:cO)(ae:Int)(last:cO)(fi:Int)(bs:List Int)(a:Int)(s10:Sl)(hl:ns.length<=63)(hn:n<700000)(ha:a∈made)(hb:bs.length<100):∃b∈made,∃gy,Y4 (BI ns n rows made sn ae last fi bs (.va (.int a)) s10)=some (.nx (BI ns (n+1) rows made sn ae last fi (bs++[b]) (.va (.int a)) gy)):=by
 obtain⟨j,hj,hj2⟩:=EL ha;obtain⟨x,hx,ex⟩:=W8 ns n [.int 1,.int 1,.int 1,.int 1,.int (-1),.int 0,.int 2] hl (by lia) (by simp);obtain⟨p,rfl⟩:∃p,x=.int p:=by simp only[Ak,Aw,or_false] at hx;rcases hx with rfl|rfl|rfl|rfl|rfl|rfl|rfl<;>exact⟨_,rfl⟩
 have hi:F4 (.lst (made.map .int)) (.int a)=some (.int j):=by show(WJ (made.map .int)).bind (λns=>(WA a ns).map λj=>cO.int j)=_;rw[QO,Af,hj];rfl
 have hb':bs.length<16777216:=by lia
 by_cases h1:0<=(j:Int)+p/\(j:Int)+p<made.length
 ·obtain⟨q,hq,eq⟩:=PM (ns:=made) h1.1 h1.2
  by_cases h2:q=(rows.length:Int) - 1
  ·refine⟨a,ha,.va (.int (j+p)),?_⟩
   unfold Y4;simp[BI,hi,ex,h1.1,h1.2,eq,h2,hb']
  ·refine⟨q,hq,.va (.int (j+p)),?_⟩
   unfold Y4;simp[BI,hi,ex,h1.1,h1.2,eq,h2,hb']
 ·refine⟨a,ha,.va (.int (j+p)),?_⟩
  unfold Y4;by_cases h3:0<=(j:Int)+p
  ·have h4 : ¬ (j : Int) + p < made.length := λz => h1 ⟨h3,z⟩
   simp[BI,hi,ex,h3,h4,hb']
  ·simp[BI,hi,ex,h3,hb']
theorem F1(ns:List Int)(rows:List cO)(made:List Int)(sn:cO)(ae:Int)(last:cO)(fi:Int)(hl:ns.length<=63):∀(as:List Int) (n:Nat) (bs:List Int) (s9 s10:Sl),n+as.length<700000->(∀a∈as,a∈made)->bs.length+as.length<100->∃cs:List Int,(∀c∈cs,c∈made)/\cs.length=as.length/\∃s9' gy,W6 (gN 9) Y4 (as.map .int) (BI ns n rows made sn ae last fi bs s9 s10)=some (.nx (BI ns (n+as.length) rows made sn ae last fi (bs++cs) s9' gy))
 |[],n,bs,s9,s10,_,_,_=>⟨[],by simp,rfl,s9,s10,by simp⟩
 | a :: as,n,bs,s9,s10,hn,ha,hb => by
  simp only[Bm] at hn hb;obtain⟨b,hb1,u10,e⟩:=cS ns n rows made sn ae last fi bs a s10 hl (by lia) (ha a Ar) (by lia);obtain⟨cs,h1,h2,s9',gy,ih⟩:=F1 ns rows made sn ae last fi hl as (n+1) (bs++[b]) (.va (.int a)) u10 (by lia) (λx hx=>ha x (An _ hx)) (by simp;lia);refine⟨b::cs,λc hc=>?_,by simp[h2],s9',gy,?_⟩
  ·rcases Ak.mp hc with rfl|hc
   ·exact hb1
   ·exact h1 c hc
  rw[Ay,SA,HI,OJ,show(BI ns n rows made sn ae last fi bs s9 s10).set 9 (.va (.int a))=BI ns n rows made sn ae last fi bs (.va (.int a)) s10 from rfl,e,MI,ih];simp[Tn,Qk 1]
theorem cel4{x:String}(h:onC x):(decide ("load"=x) || (decide ("take"=x) || (decide ("store"=x) || decide ("put"=x))))=true:=by
 rcases h with rfl|rfl|rfl|rfl<;>decide
theorem snM{m k:Nat}{d:cO}(h:Sn m d)(hk:m<=k):Sn k d:=by obtain⟨ks,vs,e,h1,h2,h3⟩:=h;exact⟨ks,vs,e,h1,h2,by lia⟩
theorem PP(ns:List Int)(n:Nat)(rows:List cO)(made:List Int)(sn:cO)(ae:Int){x:String}{p:Int}{as:List Int}{m:Nat}(hl:ns.length<=63)(hn:n<600000)(hm:m<8000000)(hs:Sn m sn)(hr:0<ae)(hx:onC x)(au:U3 rows (-1)=some (.tup (.str x:: .int p::as.map .int)))(ha:∀a∈as,a∈made)(h3:as.length<=3):∃(q:Int) (cs:List Int) (sn':cO),0<=q/\q<ae/\(∀c∈cs,c∈made)/\cs.length=as.length/\Sn (m+1) sn'/\ZI [VC ns,WO n,.lst rows,.lst (made.map .int),sn,.int ae]=some (.tup (.str x:: .int q::cs.map .int),[WO (n+as.length),sn']):=by
 obtain⟨cs,h1,h2,s9,s10,e⟩:=F1 ns rows made sn ae (.tup (.str x:: .int p::as.map .int)) 2 hl as n [] .no .no (by lia) ha (by simp;lia);simp only[BI,Ff,Ea] at e;obtain⟨ks,vs,rfl,k1,k2,k3⟩:=hs;obtain⟨ks',vs',pe,h4,h5,h6,h7,h8⟩:=putI ks vs (.inr (x:Us)) ((p+1) % ae) k1 k2;have hk:ks.length<16777216:=by lia
 refine⟨(p+1) % ae,cs,.dct ks' (vs'.map .int),Il _ (by lia),Ew _ hr,h1,h2,⟨ks',vs',rfl,h4,h5,by lia⟩,?_⟩;unfold ZI;rw[bL,VL.eq_1];have hin:=cel4 hx;have ig:VY (.str x:: .int p::as.map cO.int) (some 2) none=as.map cO.int:=by have:=V0 (ds:=.str x:: .int p::as.map cO.int) (k:=2) (by simp);simpa using this
 have hcl:2+cs.length<=16777216:=by lia
 simp[bF,au,hin,ig,e,hr,hk,k2,pe,h8,hcl]
theorem off4{x:String}(h:¬onC x):(¬x= "load" /\¬ "load"=x)/\(¬x= "take" /\¬ "take"=x)/\(¬x= "store" /\¬ "store"=x)/\¬x= "put" /\¬ "put"=x:=by refine⟨⟨λz=>h (.inl z),λz=>h (.inl z.symm)⟩,⟨λz=>h (.inr (.inl z)),λz=>h (.inr (.inl z.symm))⟩,⟨λz=>h (.inr (.inr (.inl z))),λz=>h (.inr (.inr (.inl z.symm)))⟩,λz=>h (.inr (.inr (.inr z))),λz=>h (.inr (.inr (.inr z.symm)))⟩
theorem IB(ns:List Int)(n:Nat)(rows:List cO)(made:List Int)(sn:cO)(ae:Int){x:String}{as:List Int}(hl:ns.length<=63)(hn:n<600000)(hx:¬onC x)(au:U3 rows (-1)=some (.tup (.str x::as.map .int)))(ha:∀a∈as,a∈made)(h3:as.length<=3):∃cs:List Int,(∀c∈cs,c∈made)/\cs.length=as.length/\ZI [VC ns,WO n,.lst rows,.lst (made.map .int),sn,.int ae]=some (.tup (.str x::cs.map .int),[WO (n+as.length),sn]):=by
 obtain⟨cs,h1,h2,s9,s10,e⟩:=F1 ns rows made sn ae (.tup (.str x::as.map .int)) 1 hl as n [] .no .no (by lia) ha (by simp;lia);simp only[BI,Ff,Ea] at e;refine⟨cs,h1,h2,?_⟩;unfold ZI;rw[bL,VL.eq_1];obtain⟨⟨_,z1⟩,⟨_,z2⟩,⟨_,z3⟩,_,z4⟩:=off4 hx;have ig:VY (.str x::as.map cO.int) (some 1) none=as.map cO.int:=by have:=V0 (ds:=.str x::as.map cO.int) (k:=1) (by simp);simpa using this
 have ly:VY (.str x::as.map cO.int) none (some 1)=[.str x]:=by have:=T1 (ds:=.str x::as.map cO.int) (k:=1);simpa using this
 have hcl:1+cs.length<=16777216:=by lia
 simp[bF,au,z1,z2,z3,z4,ig,ly,e,hcl]
theorem dI(ns:List Int)(n:Nat)(rows:List cO)(made:List Int)(sn:cO)(ae:Int){last:cO}{m:Nat}(hl:ns.length<=63)(hn:n<600000)(hm:m<8000000)(hs:Sn m sn)(hr:0<ae)(hr2:ae<=64)(au:U3 rows (-1)=some last)(ok:aB (· ∈made) last)(nn:∀k,last≠ .tup [.str "number",.int k]):∃row n' sn',n<=n'/\n'<=n+3/\Sn (m+1) sn'/\aB (· ∈made) row/\ZI [VC ns,WO n,.lst rows,.lst (made.map .int),sn,.int ae]=some (row,[WO n',sn']):=by
 cases ok with
 |number=>exact absurd rfl (nn _)
 | @two x a b hx ha hb=>
  obtain⟨cs,h1,h2,e⟩:=IB ns n rows made sn ae (x:=x) (as:=[a,b]) hl hn (FD hx) au (by simp[ha,hb]) (by simp);match cs,h2 with
  |[c,d],_=>exact⟨_,n+2,sn,by lia,by lia,snM hs (by lia),.two hx (h1 c (by simp)) (h1 d (by simp)),e⟩
 | @pick c a b hc ha hb=>
  obtain⟨cs,h1,h2,e⟩:=IB ns n rows made sn ae (x:= "pick") (as:=[c,a,b]) hl hn (λz=>by rcases z with z|z|z|z<;>exact absurd z (by decide)) au (by simp[ha,hb,hc]) (by simp);match cs,h2 with
  |[c,d,f],_=>exact⟨_,n+3,sn,by lia,by lia,snM hs (by lia),.pick (h1 c (by simp)) (h1 d (by simp)) (h1 f (by simp)),e⟩
 | @load p p0 p1=>
  obtain⟨q,cs,sn',q0,q1,h1,h2,hs',e⟩:=PP ns n rows made sn ae (x:= "load") (p:=p) (as:=[]) hl hn hm hs hr (.inl rfl) au (by simp) (by simp);match cs,h2 with
  |[],_=>exact⟨_,n+0,sn',by lia,by lia,hs',.load q0 (by lia),e⟩
 | @take p c a p0 p1 hc ha=>
  obtain⟨q,cs,sn',q0,q1,h1,h2,hs',e⟩:=PP ns n rows made sn ae (x:= "take") (p:=p) (as:=[c,a]) hl hn hm hs hr (.inr (.inl rfl)) au (by simp[hc,ha]) (by simp);match cs,h2 with
  |[c,d],_=>exact⟨_,n+2,sn',by lia,by lia,hs',.take q0 (by lia) (h1 c (by simp)) (h1 d (by simp)),e⟩
 | @store p a p0 p1 ha=>
  obtain⟨q,cs,sn',q0,q1,h1,h2,hs',e⟩:=PP ns n rows made sn ae (x:= "store") (p:=p) (as:=[a]) hl hn hm hs hr (.inr (.inr (.inl rfl))) au (by simp[ha]) (by simp);match cs,h2 with
  |[c],_=>exact⟨_,n+1,sn',by lia,by lia,hs',.store q0 (by lia) (h1 c (by simp)),e⟩
 | @put p a c p0 p1 ha hc=>
  obtain⟨q,cs,sn',q0,q1,h1,h2,hs',e⟩:=PP ns n rows made sn ae (x:= "put") (p:=p) (as:=[a,c]) hl hn hm hs hr (.inr (.inr (.inr rfl))) au (by simp[ha,hc]) (by simp);match cs,h2 with
  |[c,d],_=>exact⟨_,n+2,sn',by lia,by lia,hs',.put q0 (by lia) (h1 c (by simp)) (h1 d (by simp)),e⟩
structure RI(rows:List cO)(made:List Int)(kds:List Kd):Prop where
 bl:Bl [] rows kds
 ex:∀a,a∈made↔Nm kds .w a
 ml:made.length<=rows.length
theorem RI.len{rows:List cO}{made:List Int}{kds:List Kd}(h:RI rows made kds):kds.length=rows.length:=by have:=h.bl.len;simpa using this
theorem fN{kds:List Kd}{k:Kd}{a:Int}:Nm (kds++[k]) .w a↔Nm kds .w a∨(k=.w/\a=kds.length):=by
 constructor
 ·intro h
  have h0:=h.1;have hl:=h.lt;rw[Cf,Jj] at hl;by_cases hi:a.toNat<kds.length
  ·exact .inl ⟨h0,by have:=h.2;rwa[Ao hi] at this⟩
  ·have hi : a.toNat = kds.length := by lia
   have e:=h.2;rw[hi] at e;simp at e;exact .inr ⟨e,by lia⟩
 ·rintro (h|⟨rfl,rfl⟩)
  ·exact h.snoc
  ·exact Nm.new
theorem RI.more{rows:List cO}{made:List Int}{kds:List Kd}{row:cO}(h:RI rows made kds)(r:aB (· ∈made) row):RI (rows++[row]) (if P0 .w row=.w then made++[(rows.length:Int)] else made) (kds++[P0 .w row]):=by
 refine⟨h.bl.snoc (r.imp λa ha=>(h.ex a).mp ha),λa=>?_,?_⟩
 ·rw[fN,<- h.ex a,h.len]
  split
  ·rename_i e
   simp[e]
  ·rename_i e
   simp[e]
 ·have:=h.ml
  split<;>simp<;>lia
theorem RI.last{rs:List cO}{last:cO}{made:List Int}{kds:List Kd}(h:RI (rs++[last]) made kds):aB (· ∈made) last:=(h.bl.all last (by simp)).imp λa ha=>(h.ex a).mpr ha
noncomputable def P1(ns:List Int)(n:Nat)(ah ae:Int)(rows:List cO)(made:List Int)(sn:cO)(s7:Sl):Ev:=
 [.va (VC ns),.ow (WO n),.va (.int ah),.va (.int ae),.ow (.lst rows),.ow (.lst (made.map .int)),.ow sn,s7]
theorem LS:∀vs:List Int,UF (vs.map .int)=true
 |[]=>rfl
 |_::vs=>by show((cO.int _).hard&&UF (vs.map .int))=true;rw[LS vs];rfl
theorem E7{m:Nat}{sn:cO}(h:Sn m sn):UG sn=true:=by obtain⟨ks,vs,rfl,_⟩:=h;exact LS vs
theorem EA{row:cO}(x:String)(t:List cO)(e:row=.tup (.str x::t)):P0 .w row=.w↔ ¬(x= "store" ∨x= "put"):=by
 subst e;by_cases h:x= "store" ∨x= "put"
 ·rw[pC h];simp[h]
 ·have : x ∉ ["store","put"] := by simpa using h
  rw[eA this];simp[h]
theorem gF(ns:List Int)(n:Nat)(ah ae:Int){rows:List cO}{made:List Int}{kds:List Kd}{sn:cO}{m:Nat}(s7:Sl)(hl:ns.length<=63)(hn:n<600000)(hm:m<8000000)(hs:Sn m sn)(hr:0<ae)(hr2:ae<=64)(R:RI rows made kds)(h0:rows≠[])(ag:rows.length<1000):∃aj ar ai n' sn',RI aj ar ai/\rows.length<=aj.length/\((rows.length:Int)<=ah->(aj.length:Int)<=ah)/\aj.length<=rows.length+1/\n<=n'/\n'<=n+3/\Sn (m+1) sn'/\Y5 (P1 ns n ah ae rows made sn s7)=some (.nx (P1 ns n' ah ae aj ar sn' s7)):=by
 obtain⟨rs,last,rfl⟩:∃rs last,rows=rs++[last]:=⟨rows.dropLast,rows.getLast h0,(List.dropLast_concat_getLast h0).symm⟩;have ok:=R.last;have au:=Q8 rs last;have hml:made.length<16777216:=by have:=R.ml;lia
 have hrl:(rs++[last]).length<16777216:=by lia
 generalize q8:rs++[last]=rows at*;obtain⟨x,t,e0,_⟩:=V4 ok;by_cases h1:(rows.length:Int)<ah
 ·by_cases h2:x= "number"
  ·refine ⟨rows,made,kds,n,sn,R,Ap _,id,by lia,by lia,by lia,snM hs (by lia),?_⟩
   unfold Y5;simp[P1,h1,au,e0,h2]
  ·obtain ⟨row,n',sn',n0,n1,hs',okr,e⟩ := dI ns n rows made sn ae hl hn hm hs hr hr2 au ok (λk z => by rw [e0] at z;simp [YS] at z;exact h2 z.1)
   obtain⟨y,u,e1,_⟩:=V4 okr;have hl2:=Q8 rows row;refine⟨_,_,_,n',sn',R.more okr,by simp,by simp;lia,by simp,n0,n1,hs',?_⟩;unfold Y5;have key:=EA y u e1;have hrd:=okr.hard;rw[e1] at hrd;have hsn:=E7 hs';by_cases h3:y= "store" ∨y= "put"
   ·rw [if_neg (by rw [key];simp [h3])]
    rcases h3 with rfl|rfl
    ·simp[P1,h1,au,e0,h2,e,hl2,e1,hrl,hrd,hsn]
    ·simp[P1,h1,au,e0,h2,e,hl2,e1,hrl,hrd,hsn]
   ·rw [if_pos (by rw [key];exact h3)]
    have z1:¬ "store"=y:=λz=>h3 (.inl z.symm);have z2:¬ "put"=y:=λz=>h3 (.inr z.symm);simp[P1,h1,au,e0,h2,e,hl2,e1,hrl,hrd,hsn,z1,z2,hml]
 ·refine ⟨rows,made,kds,n,sn,R,Ap _,id,by lia,by lia,by lia,snM hs (by lia),?_⟩
  unfold Y5;simp[P1,h1]
theorem Yl(ns:List Int)(ah ae:Int)(hl:ns.length<=63)(hr:0<ae)(hr2:ae<=64):∀(ds:List cO) (n:Nat) {rows:List cO} {made:List Int} {kds:List Kd} {sn:cO} {m:Nat} (s7:Sl),n+3*ds.length<600000->m+ds.length<8000000->Sn m sn->RI rows made kds->rows≠[]->rows.length+ds.length<1000->∃aj ar ai n' sn' s7',RI aj ar ai/\rows.length<=aj.length/\((rows.length:Int)<=ah->(aj.length:Int)<=ah)/\n<=n'/\n'<=n+3*ds.length/\Sn (m+ds.length) sn'/\W6 (gN 7) Y5 ds (P1 ns n ah ae rows made sn s7)=some (.nx (P1 ns n' ah ae aj ar sn' s7'))
 |[],n,rows,made,kds,sn,m,s7,_,_,hs,R,_,_=>⟨rows,made,kds,n,sn,s7,R,Ap _,id,by lia,by simp,hs,by simp⟩
 |d::ds,n,rows,made,kds,sn,m,s7,hn,hm,hs,R,h0,hz=>by simp only[Bm] at hn hm hz;obtain⟨k6,ll,nq,n1,sn1,R1,a1,a2,a3,a4,a5,hs1,e1⟩:=gF ns n ah ae (.va d) hl (by lia) (by lia) hs hr hr2 R h0 (by lia);obtain⟨aj,ar,ai,n',sn',s7',R',b1,b2,b3,b4,hs',e⟩:=Yl ns ah ae hl hr hr2 ds n1 (.va d) (by lia) (by lia) hs1 R1 (λz=>by rw[z] at a1;simp at a1;exact h0 a1) (by lia);refine⟨aj,ar,ai,n',sn',s7',R',by lia,λz=>b2 (a2 z),by lia,by simp only[Bm];lia,snM hs' (by simp only[Bm];lia),?_⟩;rw[SA,HI,OJ,show(P1 ns n ah ae rows made sn s7).set 7 (.va d)=P1 ns n ah ae rows made sn (.va d) from rfl,e1,MI,e]
theorem nG(ns:List Int)(n:Nat)(ah ae:Int){rows:List cO}{made:List Int}{kds:List Kd}{sn:cO}(s7:Sl)(hl:ns.length<=63)(hn:n<500000)(hs:NH n sn)(hr:0<ae)(hr2:ae<=64)(R:RI rows made kds)(hlt:(rows.length:Int)<ah)(h40:ah<=40):∃aj ar ai n' sn' s7',RI aj ar ai/\rows.length<aj.length/\(aj.length:Int)<=ah/\n<=n'/\n'<=n+20/\NH n' sn'/\W5 (P1 ns n ah ae rows made sn s7)=some (.nx (P1 ns n' ah ae aj ar sn' s7')):=by
 obtain⟨row,n1,sn1,c1,c2,hs1,okr,_,e⟩:=Zt ns n made sn ae hl (by lia) hs hr hr2;obtain⟨x,hx,ex⟩:=W8 ns n1 [.int 0,.int 1,.int 1,.int 2,.int 3] hl (by lia) (by simp);obtain⟨k,rfl,k0,k3⟩:∃k:Nat,x=.int k/\0<=k/\k<=3:=by
  simp only[Ak,Aw,or_false] at hx;rcases hx with rfl|rfl|rfl|rfl|rfl
  ·exact⟨0,rfl,by lia,by lia⟩
  ·exact⟨1,rfl,by lia,by lia⟩
  ·exact⟨1,rfl,by lia,by lia⟩
  ·exact⟨2,rfl,by lia,by lia⟩
  ·exact⟨3,rfl,by lia,by lia⟩
 have R1:=R.more okr;have hrl:rows.length<16777216:=by lia
 have hml:made.length<16777216:=by have:=R.ml;lia
 have hdl:(Y8 0 k).length=k:=lM k;obtain⟨aj,ar,ai,n',sn',s7',R',b1,b2,b3,b4,hs',ef⟩:=Yl ns ah ae hl hr hr2 (Y8 0 k) (n1+1) s7 (by lia) (by lia) hs1 R1 (by simp) (by simp;lia);refine⟨aj,ar,ai,n',sn',s7',R',by simp at b1;lia,b2 (by simp;lia),by lia,by lia,snM hs' (by lia),?_⟩;obtain⟨y,u,e1,_⟩:=V4 okr;have hl2:=Q8 rows row;have key:=EA y u e1;have hrd:=okr.hard;rw[e1] at hrd;have hsn:=E7 hs1;have hk1:(-4611686018427387904:Int)<=k/\(k:Int)<4611686018427387904:=by lia
 unfold W5;by_cases h3:y= "store" ∨y= "put"
 ·rw [if_neg (by rw [key];simp [h3])] at ef
  simp only[P1] at ef;rw[e1] at ef;rcases h3 with rfl|rfl
  ·simp[P1,e,hl2,e1,hrl,hrd,hsn,ex,hk1,ef]
  ·simp[P1,e,hl2,e1,hrl,hrd,hsn,ex,hk1,ef]
 ·rw [if_pos (by rw [key];exact h3)] at ef
  simp only[P1,Ij,Ay,Ea] at ef;rw[e1] at ef;have z1:¬ "store"=y:=λz=>h3 (.inl z.symm);have z2:¬ "put"=y:=λz=>h3 (.inr z.symm);simp[P1,e,hl2,e1,hrl,hrd,hsn,ex,hk1,z1,z2,hml,ef]
theorem JL{t:VB}{g:VS}{k:Nat}{δ δ1 δ2:Ev}(h:t δ=some (true,δ1))(h2:g δ1=some (.nx δ2)):aM t g (k+1) δ=aM t g k δ2:=by show((t δ).bind λp=>if p.1=true then(g p.2).bind (YB (aM t g k)) else some (.nx p.2))=_;rw[h,Af];show(if true=true then(g δ1).bind (YB (aM t g k)) else _)=_;rw[if_pos rfl,h2];rfl
theorem OV{t:VB}{g:VS}{k:Nat}{δ δ1:Ev}(h:t δ=some (false,δ1)):aM t g (k+1) δ=some (.nx δ1):=by show((t δ).bind λp=>if p.1=true then(g p.2).bind (YB (aM t g k)) else some (.nx p.2))=_;rw[h];rfl
theorem Xi(ns:List Int)(ah ae:Int)(hl:ns.length<=63)(hr:0<ae)(hr2:ae<=64)(h40:ah<=40):∀(f:Nat) (n:Nat) {rows:List cO} {made:List Int} {kds:List Kd} {sn:cO} (s7:Sl),ah - rows.length<=f->(rows.length:Int)<=ah->n+20*f<500000->NH n sn->RI rows made kds->∃aj ar ai n' sn' s7',RI aj ar ai/\(aj.length:Int)=ah/\n<=n'/\n'<=n+20*f/\aM (fB (f2 oLt (f1 YW (fO 4)) (fV 2))) W5 (f+1) (P1 ns n ah ae rows made sn s7)=some (.nx (P1 ns n' ah ae aj ar sn' s7'))
 |0,n,rows,made,kds,sn,s7,h1,h2,hn,hs,R=>by
  refine⟨rows,made,kds,n,sn,s7,R,by lia,by lia,by lia,OV ?_⟩;have:¬(rows.length:Int)<ah:=by lia
  simp[P1,this]
 | f + 1,n,rows,made,kds,sn,s7,h1,h2,hn,hs,R => by
  by_cases hlt:(rows.length:Int)<ah
  ·obtain ⟨k6,ll,nq,n1,sn1,u7,R1,a1,a2,a3,a4,hs1,e1⟩ := nG ns n ah ae s7 hl (by lia) hs hr hr2 R hlt h40
   obtain⟨aj,ar,ai,n',sn',s7',R',b1,b2,b3,e⟩:=Xi ns ah ae hl hr hr2 h40 f n1 u7 (by lia) a2 (by lia) hs1 R1;refine⟨aj,ar,ai,n',sn',s7',R',b1,by lia,by lia,?_⟩;rw[JL (δ1:=P1 ns n ah ae rows made sn s7) (by simp[P1,hlt]) e1,e]
  ·refine ⟨rows,made,kds,n,sn,s7,R,by lia,by lia,by lia,OV ?_⟩
   simp[P1,hlt]
theorem lJ(ns:List Int)(n:Nat)(ah ae:Int)(hl:ns.length<=63)(hn:n<400000)(hr:0<ae)(hr2:ae<=64)(h0:0<=ah)(h40:ah<=40):∃rows kds n',Bl [] rows kds/\(rows.length:Int)=ah/\n<=n'/\n'<=n+20*40/\X2 [VC ns,WO n,.int ah,.int ae]=some (.tup rows,[WO n']):=by obtain⟨rows,made,kds,n',sn,s7,R,a1,a2,a3,e⟩:=Xi ns ah ae hl hr hr2 h40 ah.toNat n (rows:=[]) (made:=[]) (kds:=[]) (sn:=.dct [] []) .no (by simp;lia) (by simpa using h0) (by lia) ⟨[],[],rfl,rfl,List.nodup_nil,Dv _⟩ ⟨.nil,λa=>by simp[Nm],by simp⟩;refine⟨rows,kds,n',R.bl,a1,a2,by lia,?_⟩;have e:=MM e;simp only[P1,Ea] at e;unfold X2;rw[bL,SJ.eq_1];simp[bF,e]
theorem dR{f g:VF}{δ δ1 δ2:Ev}{i j:Int}(h1:f δ=some (.int i,δ1))(h2:g δ1=some (.int j,δ2))(hb:(-4611686018427387904<=i/\i<4611686018427387904)/\ -4611686018427387904<=j/\j<4611686018427387904):iR2 f g δ=some (Y8 i (j - i).toNat,δ2):=by unfold iR2;rw[h1,Af,h2,Af];exact if_pos hb
theorem PD(nn:Nat)(tb:VB)(p:cO->Bool)(fe:VF)(f:cO->cO)(δ:Ev)(hδ:δ.length=nn):∀(ds acc:List cO),(∀d∈ds,tb (δ++[Sl.va d])=some (p d,δ++[Sl.va d])/\(p d=true->fe (δ++[Sl.va d])=some (f d,δ++[Sl.va d])))->acc.length+ds.length<16777216->ZZ nn 1 (gN nn) tb fe ds acc δ=some (acc++(ds.filter p).map f,δ)
 |[],acc,_,_=>by simp
 | d :: ds,acc,h,hl => by
  have fj:(δ++[Sl.no]).set nn (.va d)=δ++[Sl.va d]:=by rw[Fq _ _ (by lia)];simp[hδ]
  have ay:(δ++[Sl.va d]).take nn=δ:=by rw[Dt (by lia),Ck (by lia)]
  have az:acc.length<16777216:=by simp at hl;lia
  obtain⟨h1,h2⟩:=h d Ar;cases hp:p d with
  |true=>
   have ih:=PD nn tb p fe f δ hδ ds (acc++[f d]) (λe he=>h e (An _ he)) (by simp at hl⊢;lia);have h2:=h2 hp;rw[hp] at h1;simp only[RD,Vr,HI,fj,IJ,h1,Vq,h2,Vm,if_pos az,ay,ih];simp[hp]
  |false=>
   have ih:=PD nn tb p fe f δ hδ ds acc (λe he=>h e (An _ he)) (by simp at hl⊢;lia);rw[hp] at h1;simp only[RD,Vr,HI,fj,IJ,h1,Xm,ay,ih];simp[hp]
theorem aB.ints{M:Int->Prop}{row:cO}(h:aB M row):∃(x:String) (a:Int) (as:List Int),row=.tup (.str x:: .int a::as.map .int)/\(x= "over" ->∃b,as=[b]/\M b):=by
 cases h with
 | @number n _ _=>exact⟨"number",n,[],rfl,λz=>absurd z (by decide)⟩
 | @two x a b hx ha hb=>exact⟨x,a,[b],rfl,λ_=>⟨b,rfl,hb⟩⟩
 | @pick c a b _ _ _=>exact⟨"pick",c,[a,b],rfl,λz=>absurd z (by decide)⟩
 | @load p _ _=>exact⟨"load",p,[],rfl,λz=>absurd z (by decide)⟩
 | @take p c a _ _ _ _=>exact⟨"take",p,[c,a],rfl,λz=>absurd z (by decide)⟩
 | @store p a _ _ _=>exact⟨"store",p,[a],rfl,λz=>absurd z (by decide)⟩
 | @put p a c _ _ _ _=>exact⟨"put",p,[a,c],rfl,λz=>absurd z (by decide)⟩
theorem V2{k:Nat}:∀as:List Int,∀d∈as.map cO.int,UM k d
 |[],d,h=>nomatch h
 |a::as,d,h=>by
  rcases Ak.mp h with rfl|h
  ·exact ZA
  ·exact V2 as d h
theorem E1{M:Int->Prop}{row:cO}(h:aB M row):UM 1 row:=by obtain⟨x,a,as,rfl,_⟩:=h.ints;exact T5 (a7 ZM (a7 ZA (V2 as)))
theorem Yq{sure:Int}{rows:List cO}{kds:List Kd}(hb:Bl [] rows kds){i:Int}(h0:0<=i)(h1:i<rows.length):∃b,Y3 [.tup [.int sure,.tup rows],.int i]=some (.bl b,[]):=by
 have ag:kds.length=rows.length:=by simpa using hb.len
 obtain⟨row,h9,e0⟩:∃row∈rows,U3 rows i=some row:=by
  have hi:i.toNat<rows.length:=by lia
  exact⟨rows[i.toNat],Jo hi,by rw[XD h0 h1];simp[hi]⟩
 have ok:=hb.all row h9;obtain⟨x,a,as,rfl,hov⟩:=ok.ints;unfold Y3;rw[bL];unfold QM;by_cases hx:onC x
 ·have m1:=cel4 hx
  exact⟨_,by simp[bF,e0,m1];rfl⟩
 ·obtain⟨⟨_,z1⟩,⟨_,z2⟩,⟨_,z3⟩,_,z4⟩:=off4 hx
  by_cases ho:x= "over"
  ·obtain⟨b,rfl,hbn⟩:=hov ho
   subst ho;have b0:=hbn.1;have b1:=hbn.lt;obtain⟨mj,hr2,e2⟩:∃row∈rows,U3 rows b=some row:=by
    have hi:b.toNat<rows.length:=by lia
    exact⟨rows[b.toNat],Jo hi,by rw[XD b0 (by lia)];simp[hi]⟩
   obtain⟨x2,a2,as2,rfl,_⟩:=(hb.all mj hr2).ints;have ig:VY (.str x2:: .int a2::as2.map cO.int) none (some 2)=[.str x2,.int a2]:=by have:=T1 (ds:=.str x2:: .int a2::as2.map cO.int) (k:=2);simpa using this
   have ei:∀δ,iR2 (fC (.int 1)) (fC (.int 1000)) δ=some (Y8 1 ((1000:Int) - 1).toNat,δ):=λδ=>dR (f:=fC (.int 1)) (g:=fC (.int 1000)) (δ:=δ) (δ1:=δ) (δ2:=δ) (i:=1) (j:=1000) rfl rfl (by lia);have ec:=NO 0 (aT (cN (fC (.str "number")) (cN (fV 0) b6))) [] (λd=>.tup [.str "number",d]) rfl (Y8 1 ((1000:Int) - 1).toNat) [] (λd _=>by simp) (by simp[Y8]);have hin:∀neg,∃b,Z0 neg (.tup [.str x2,.int a2]) (.lst ((Y8 1 ((1000:Int) - 1).toNat).map λd=>.tup [.str "number",d]))=some (.bl b):=λneg=>⟨_,KC (j:=1) (k:=1) (T5 (a7 ZM (a7 ZA ZB))) (λe he=>by
    obtain⟨d,hd,rfl⟩:=Cz.mp he;obtain⟨q,rfl⟩:∃q,d=.int q:=by unfold Y8 at hd;obtain⟨q,_,rfl⟩:=Cz.mp hd;exact⟨_,rfl⟩
    exact T5 (a7 ZM (a7 ZA ZB)))⟩
   obtain⟨bb,hbb⟩:=hin true;simp only[Ff] at ec;generalize (Y8 1 ((1000:Int) - 1).toNat).map (λd=>cO.tup [.str "number",d])=big at*;generalize Y8 1 ((1000:Int) - 1).toNat=rg at*;exact⟨bb,by simp -implicitDefEqProofs [bF,e0,e2,ig,aY,ei,ec,hbb]⟩
  ·exact⟨false,by simp[bF,e0,z1,z2,z3,z4,ho]⟩
noncomputable def ZV(p:Int×Int):cO:=.tup [.int p.1,.int p.2]
noncomputable def NL:cO:=.tup [.str "load",.str "take",.str "store",.str "put"]
noncomputable def QR(blk:cO)(ps:List (Int×Int))(j:Int)(there:Sl)(s5 s6 s7 s8:Sl):Ev:=
 [.va blk,.ow (.lst (ps.map ZV)),.va NL,.va (.int j),there,s5,s6,s7,s8]
theorem kG{bs:List Bool}:Z0 false (.bl true) (.lst (bs.map .bl))=some (.bl (bs.any id)):=by
 rw[KC (j:=0) (k:=0) F7 (λe he=>by obtain⟨b,_,rfl⟩:=Cz.mp he;exact F7)]
 induction bs with
 |nil=>rfl
 |cons b bs ih=>
  have e:BF (.bl b) (.bl true)=b:=by cases b<;>rfl
  simp only[Ay,Vo,Jr,id,e];simp only[Eu,if_false,Option.some.injEq,cO.bl.injEq] at ih⊢;rw[ih]
theorem D5{i:Int}:∀{as:List Int},i∈as->LV (.int i) (as.map .int)=true
 |q::as,h=>by
  simp only[Ay,Vo];rcases Ak.mp h with rfl|h
  ·simp
  ·simp[D5 h]
noncomputable def wrT:cO->Bool
 |.tup (.str x::_)=>decide (Bf "store"=x) || decide (Bf "put"=x)
 |_=>false
theorem OO{s1 s2:VS}{δ δ1:Ev}{r:Option Ou}(h1:s1 δ=some (.nx δ1))(h2:s2 δ1=r):bZ s1 s2 δ=r:=by rw[YG,h1,RW,h2]
theorem mE{sure:Int}{rows:List cO}{kds:List Kd}(hb:Bl [] rows kds)(ps:List (Int×Int)){i j:Int}{here there:cO}(i0:0<=i)(i1:i<rows.length)(j0:0<=j)(j1:j<rows.length)(hh:here∈rows)(ht:there∈rows){as:List Int}(hn:Z3 [there]=some (.lst (as.map .int),[]))(s7 s8:Sl)(hp:ps.length<1000000):∃(c:Bool) (t7 t8:Sl),(i∈as->c=true)/\W3 (QR (.tup [.int sure,.tup rows]) ps j (.va there) (.va (.int i)) (.va here) s7 s8)=some (.nx (QR (.tup [.int sure,.tup rows]) (ps++if c then[(i,j)] else[]) j (.va there) (.va (.int i)) (.va here) t7 t8)):=by
 obtain⟨b1,e1⟩:=Yq (sure:=sure) hb i0 i1;obtain⟨b2,e2⟩:=Yq (sure:=sure) hb j0 j1;have okh:=hb.all here hh;have okt:=hb.all there ht;have kh:=E1 okh;have kt:=E1 okt;obtain⟨x,a,xs,eh,_⟩:=okh.ints;obtain⟨y,b,ys,et,_⟩:=okt.ints;have hin:Z0 false (.int i) (.lst (as.map .int))=some (.bl (LV (.int i) (as.map .int))):=by rw[KC (j:=0) (k:=0) ZA (V2 as)];simp
 have oa:=D5 (i:=i) (as:=as);generalize LV (.int i) (as.map .int)=bi at*;have ew:∃w:List cO,ZZ 0 1 (gN 0) (fB (f2 (Z0 false) (f2 bJ (fV 0) (fC (.int 0))) (aT (cN (fC (.str "store")) (cN (fC (.str "put")) b6))))) (fV 0) [here,there] [] []=some (w,[])/\∀d∈w,UM 1 d:=by
  have c:=PD 0 (fB (f2 (Z0 false) (f2 bJ (fV 0) (fC (.int 0))) (aT (cN (fC (.str "store")) (cN (fC (.str "put")) b6))))) wrT (fV 0) id [] rfl [here,there] [] (λd hd=>by
   simp only[Ak,Aw,or_false] at hd;rcases hd with rfl|rfl
   ·rw[eh];simp[wrT,YS]
   ·rw[et];simp[wrT,YS]) (by simp)
  refine⟨_,c,λd hd=>?_⟩;simp only[Ff,List.map_id_fun,id,Ht,Ak,Aw,or_false] at hd;rcases hd.1 with rfl|rfl
  ·exact kh
  ·exact kt
 obtain⟨w,ew,kw⟩:=ew;have hne:P9 (.lst w) (.lst [])=some (.bl (!BF (.lst w) (.lst []))):=EF (j:=2) (k:=0+1) (YT kw) (YT ZB);generalize (!BF (.lst w) (.lst []))=bw at*;have hp':ps.length<16777216:=by lia
 have x4:∃bx,Z0 false (.str x) NL=some (.bl bx):=⟨_,Ww⟩;have y4:∃by',Z0 false (.str y) NL=some (.bl by'):=⟨_,Ww⟩;have x2:∃bx,Z0 false (.str x) (.tup [.str "store",.str "put"])=some (.bl bx):=⟨_,D6⟩;have y2:∃by',Z0 false (.str y) (.tup [.str "store",.str "put"])=some (.bl by'):=⟨_,D6⟩;obtain⟨bx,x4⟩:=x4;obtain⟨by',y4⟩:=y4;obtain⟨wx,x2⟩:=x2;obtain⟨wy,y2⟩:=y2;subst eh et;have hbl:=kG (bs:=[bi,b1&&b2,bx&&(by'&&(decide (a=b)&&bw)),b1&&wy,b2&&wx]);simp only[Ay,Ea] at hbl;refine⟨[bi,b1&&b2,bx&&(by'&&(decide (a=b)&&bw)),b1&&wy,b2&&wx].any id,.va (.lst w),.ow (.lst [.bl bi,.bl (b1&&b2),.bl (bx&&(by'&&(decide (a=b)&&bw))),.bl (b1&&wy),.bl (b2&&wx)]),?_,?_⟩
 ·intro hi
  rw[oa hi];rfl
 ·unfold W3
  refine OO (δ1:=QR (.tup [.int sure,.tup rows]) ps j (.va (.tup (.str y:: .int b::ys.map .int))) (.va (.int i)) (.va (.tup (.str x:: .int a::xs.map .int))) (.va (.lst w)) s8) (by simp[QR,aY,ew]) ?_;refine OO (δ1:=QR (.tup [.int sure,.tup rows]) ps j (.va (.tup (.str y:: .int b::ys.map .int))) (.va (.int i)) (.va (.tup (.str x:: .int a::xs.map .int))) (.va (.lst w)) (.ow (.lst [.bl bi,.bl (b1&&b2)]))) ?_ ?_
  ·clear hbl
   cases b1<;>simp[QR,hn,hin,e1,e2]
  refine OO (δ1:=QR (.tup [.int sure,.tup rows]) ps j (.va (.tup (.str y:: .int b::ys.map .int))) (.va (.int i)) (.va (.tup (.str x:: .int a::xs.map .int))) (.va (.lst w)) (.ow (.lst [.bl bi,.bl (b1&&b2),.bl (bx&&(by'&&(decide (a=b)&&bw)))]))) ?_ ?_
  ·clear hbl
   cases bx<;>cases by'<;>by_cases hab:a=b<;>simp[QR,x4,y4,hne,hab]
  refine OO (δ1:=QR (.tup [.int sure,.tup rows]) ps j (.va (.tup (.str y:: .int b::ys.map .int))) (.va (.int i)) (.va (.tup (.str x:: .int a::xs.map .int))) (.va (.lst w)) (.ow (.lst [.bl bi,.bl (b1&&b2),.bl (bx&&(by'&&(decide (a=b)&&bw))),.bl (b1&&wy)]))) ?_ ?_
  ·clear hbl
   generalize (bx&&(by'&&(decide (a=b)&&bw)))=q3;cases b1<;>simp[-D6,QR,e1,y2]
  refine OO (δ1:=QR (.tup [.int sure,.tup rows]) ps j (.va (.tup (.str y:: .int b::ys.map .int))) (.va (.int i)) (.va (.tup (.str x:: .int a::xs.map .int))) (.va (.lst w)) (.ow (.lst [.bl bi,.bl (b1&&b2),.bl (bx&&(by'&&(decide (a=b)&&bw))),.bl (b1&&wy),.bl (b2&&wx)]))) ?_ ?_
  ·clear hbl
   generalize (bx&&(by'&&(decide (a=b)&&bw)))=q3;cases b2<;>simp[-D6,QR,e2,x2]
  generalize (bx&&(by'&&(decide (a=b)&&bw)))=q3 at*;generalize hq1:(b1&&b2)=q1 at*;generalize hq4:(b1&&wy)=q4 at*;generalize hq5:(b2&&wx)=q5 at*;generalize hc:[bi,q1,q3,q4,q5].any id=c at*;cases c
  ·simp[QR,hbl]
  ·simp[QR,hbl,hp',ZV]
theorem QJ(i:Nat)(d:cO)(ds:List cO):YC i (d::ds)=.tup [.int i,d]::YC (i+1) ds:=rfl
abbrev GP(a b:Nat):VG:=FV 2 (Z8 (gN a) (Z8 (gN b) V1))
theorem Xe{sure:Int}{rows:List cO}{kds:List Kd}(hb:Bl [] rows kds){j:Int}{there:cO}(j0:0<=j)(j1:j<rows.length)(ht:there∈rows){as:List Int}(hn:Z3 [there]=some (.lst (as.map .int),[])):∀(hs:List cO) (k:Nat) (ps:List (Int×Int)) (s5 s6 s7 s8:Sl),(∀d∈hs,d∈rows)->k+hs.length<=rows.length->ps.length+hs.length<1000000->∃(qs:List (Int×Int)) (t5 t6 t7 t8:Sl),(∀p∈qs,p.2=j/\(k:Int)<=p.1/\p.1<k+hs.length)/\(∀i∈as,(k:Int)<=i->i<k+hs.length->(i,j)∈qs)/\qs.length<=hs.length∧W6 (GP 5 6) W3 (YC k hs) (QR (.tup [.int sure,.tup rows]) ps j (.va there) s5 s6 s7 s8)=some (.nx (QR (.tup [.int sure,.tup rows]) (ps++qs) j (.va there) t5 t6 t7 t8))
 |[],k,ps,s5,s6,s7,s8,_,_,_=>⟨[],s5,s6,s7,s8,by simp,λi _ h1 h2=>by simp at h2;lia,by simp,by simp[YC]⟩
 | h :: hs,k,ps,s5,s6,s7,s8,hm,hk,hp => by
  simp only[Bm] at hk hp;obtain⟨c,t7,t8,c1,e⟩:=mE (sure:=sure) hb ps (i:=(k:Int)) (j:=j) (here:=h) (there:=there) (by lia) (by lia) j0 j1 (hm h Ar) ht hn s7 s8 (by lia);obtain⟨qs,u5,u6,u7,u8,q1,q2,q3,ih⟩:=Xe hb j0 j1 ht hn hs (k+1) (ps++if c then[((k:Int),j)] else[]) (.va (.int k)) (.va h) t7 t8 (λd hd=>hm d (An _ hd)) (by lia) (by cases c<;>simp<;>lia);refine⟨(if c then[((k:Int),j)] else[])++qs,u5,u6,u7,u8,?_,?_,?_,?_⟩
  ·intro p hp
   simp only[Bm];rcases Cq.mp hp with z|z
   ·cases c
    ·simp at z
    ·simp at z;subst z;exact⟨rfl,by simp,by simp;lia⟩
   ·obtain⟨z1,z2,z3⟩:=q1 p z
    exact⟨z1,by lia,by lia⟩
  ·intro i hi h1 h2
   simp only[Bm] at h2;by_cases h3:i=k
   ·subst h3
    rw[c1 hi];simp
   ·exact Cq.mpr (.inr (q2 i hi (by lia) (by lia)))
  ·cases c<;>simp<;>lia
  ·rw[QJ,SA]
   have s1:GP 5 6 (.tup [.int k,h]) (QR (.tup [.int sure,.tup rows]) ps j (.va there) s5 s6 s7 s8)=some (QR (.tup [.int sure,.tup rows]) ps j (.va there) (.va (.int k)) (.va h) s7 s8):=by simp[QR]
   rw[s1,OJ,e,MI,ih,Ax]
structure Prs(rows:List cO)(ps:List (Int×Int)):Prop where
 lt:∀p∈ps,0<=p.1/\p.1<p.2/\p.2<rows.length
 nm:∀(j:Nat) (row:cO) (as:List Int),rows[j]?=some row->Z3 [row]=some (.lst (as.map .int),[])->∀i∈as,0<=i->i<j->(i,(j:Int))∈ps
theorem nP{as bs:List Int}(h:as.map cO.int=bs.map cO.int):as=bs:=by
 induction as generalizing bs with
 |nil=>cases bs with
  |nil=>rfl
  |cons=>simp at h
 | cons a as ih => cases bs with
  |nil=>simp at h
  |cons b bs=>
   simp only[Ay,Kl,cO.int.injEq] at h;rw[h.1,ih h.2]
theorem Wu{sure:Int}{rows:List cO}{kds:List Kd}(hb:Bl [] rows kds)(h40:rows.length<=40):∀(ts:List cO) (k:Nat) (ps:List (Int×Int)) (s3:Int) (s4 s5 s6 s7 s8:Sl) (x3:Sl),rows.drop k=ts->k+ts.length=rows.length->ps.length+40*ts.length<10000->∃(qs:List (Int×Int)) (t3 t4 t5 t6 t7 t8:Sl),(∀p∈qs,0<=p.1/\p.1<p.2/\p.2<rows.length)/\(∀(j:Nat) (row:cO) (as:List Int),k<=j->rows[j]?=some row->Z3 [row]=some (.lst (as.map .int),[])->∀i∈as,0<=i->i<j->(i,(j:Int))∈qs)/\qs.length<=40*ts.length∧W6 (GP 3 4) W4 (YC k ts) [.va (.tup [.int sure,.tup rows]),.ow (.lst (ps.map ZV)),.va NL,x3,s4,s5,s6,s7,s8]=some (.nx [.va (.tup [.int sure,.tup rows]),.ow (.lst ((ps++qs).map ZV)),.va NL,t3,t4,t5,t6,t7,t8])
 |[],k,ps,s3,s4,s5,s6,s7,s8,x3,h1,h2,_=>by refine⟨[],x3,s4,s5,s6,s7,s8,by simp,λj row as h3 h4=>?_,by simp,by simp[YC]⟩;have:=(Ag.mp h4).1;simp at h2;lia
 | t :: ts,k,ps,s3,s4,s5,s6,s7,s8,x3,h1,h2,hp => by
  simp only[Bm] at h2 hp;have ht:t∈rows:=List.mem_of_mem_drop (by rw[h1];exact Ar);have hk:rows[k]?=some t:=by
   have:(rows.drop k)[0]?=some t:=by rw[h1];rfl
   simpa using this
  obtain⟨as,_,_,hn,_⟩:=N7 (hb.all t ht);have ag:(rows.take k).length=k:=by rw[By];lia
  obtain⟨qs1,t5,t6,t7,t8,q1,q2,q3,e⟩:=Xe (sure:=sure) hb (j:=(k:Int)) (by lia) (by lia) ht hn (rows.take k) 0 ps s5 s6 s7 s8 (λd hd=>List.mem_of_mem_take hd) (by lia) (by lia);obtain⟨qs2,u3,u4,u5,u6,u7,u8,r1,r2,r3,ih⟩:=Wu hb h40 ts (k+1) (ps++qs1) 0 (.va t) t5 t6 t7 t8 (.va (.int k)) (by rw[<-So,h1];rfl) (by lia) (by simp;lia);refine⟨qs1++qs2,u3,u4,u5,u6,u7,u8,?_,?_,?_,?_⟩
  ·intro p hp
   rcases Cq.mp hp with z|z
   ·obtain⟨z1,z2,z3⟩:=q1 p z
    rw[ag] at z3;exact⟨by lia,by lia,by lia⟩
   ·exact r1 p z
  ·intro j row bs hj hr hbs i hi i0 i1
   by_cases hjk:j=k
   ·subst hjk
    rw[hk] at hr;injection hr with hr;subst hr;rw[hn] at hbs;have:as=bs:=nP (by simpa using hbs);subst this;exact Cq.mpr (.inl (q2 i hi (by lia) (by rw[ag];lia)))
   ·exact Cq.mpr (.inr (r2 j row bs (by lia) hr hbs i hi i0 i1))
  ·simp only[Cf,Bm];lia
  ·rw[QJ,SA]
   have s1:GP 3 4 (.tup [.int k,t]) [.va (.tup [.int sure,.tup rows]),.ow (.lst (ps.map ZV)),.va NL,x3,s4,s5,s6,s7,s8]=some (QR (.tup [.int sure,.tup rows]) ps k (.va t) s5 s6 s7 s8):=by simp[QR]
   have s2:W4 (QR (.tup [.int sure,.tup rows]) ps k (.va t) s5 s6 s7 s8)=some (.nx (QR (.tup [.int sure,.tup rows]) (ps++qs1) k (.va t) t5 t6 t7 t8)):=by
    unfold W4;have hc:=T1 (ds:=rows) (k:=k);rw[kB];have:NX (J2 (f2 bJ (fV 0) (fC (.int 1))) IE (KM (fV 3))) (QR (.tup [.int sure,.tup rows]) ps k (.va t) s5 s6 s7 s8)=some (YC 0 (rows.take k),QR (.tup [.int sure,.tup rows]) ps k (.va t) s5 s6 s7 s8):=by simp[QR,hc]
    rw[this,qF_s];exact e
   rw[s1,OJ,s2,MI];simp only[QR];rw[ih,Ax]
theorem EM:∀ps:List (Int×Int),OH (ps.map ZV)=some ps
 |[]=>rfl
 |p::ps=>by show(prD (ZV p)).bind (λq=>(OH (ps.map ZV)).map λqs=>q::qs)=_;rw[EM ps];rfl
theorem AD(ps:List (Int×Int)):∃qs:List (Int×Int),qs.Perm ps/\F6 (.lst (ps.map ZV))=some (.lst (qs.map ZV)):=by
 refine⟨(IZ ps).map λi=>ps.getD i (0,0),?_,?_⟩
 ·have h := (UA ps).map λi => ps.getD i (0,0)
  refine h.trans ?_;have:(Bb ps.length).map (λi=>ps.getD i (0,0))=ps:=by refine List.ext_getElem (by simp) λi h1 h2=>?_;simp at h1;simp[h1]
  rw[this]
 ·show (OH (ps.map ZV)).bind (λqs => some (cO.lst ((IZ qs).map λi => (ps.map ZV).getD i cO.non))) = _
  rw[EM,Af,Ql];congr 2;refine Kf λi hi=>?_;have:i<ps.length:=Cn.mp ((UA ps).mem_iff.mp hi);simp[this]
theorem fR{sure:Int}{rows:List cO}{kds:List Kd}(hb:Bl [] rows kds)(h40:rows.length<=40):∃ps:List (Int×Int),Prs rows ps/\ps.length<=1600/\X1 [.tup [.int sure,.tup rows]]=some (.lst (ps.map ZV),[]):=by obtain⟨qs,t3,t4,t5,t6,t7,t8,q1,q2,q3,e⟩:=Wu (sure:=sure) hb h40 rows 0 [] 0 .no .no .no .no .no .no (by simp) (by simp) (by simp;lia);simp only[Ea,Ff,NL] at e;obtain⟨ps,hp,es⟩:=AD qs;refine⟨ps,⟨λp h=>q1 p (hp.mem_iff.mp h),λj row as h1 h2 i hi i0 i1=>hp.mem_iff.mpr (q2 j row as (by lia) h1 h2 i hi i0 i1)⟩,by rw[hp.length_eq];lia,?_⟩;unfold X1;rw[bL,SG.eq_1];simp[bF,e,es]
theorem RE(nn:Nat)(tb:VB)(p:cO->Bool)(fe:VF)(f:cO->cO)(δ:Ev)(hδ:δ.length=nn):∀(ds acc:List cO),(∀d∈ds,∃a b,d=.tup [a,b]/\tb (δ++[Sl.va a,Sl.va b])=some (p d,δ++[Sl.va a,Sl.va b])/\(p d=true->fe (δ++[Sl.va a,Sl.va b])=some (f d,δ++[Sl.va a,Sl.va b])))->acc.length+ds.length<16777216->ZZ nn 2 (GP nn (nn+1)) tb fe ds acc δ=some (acc++(ds.filter p).map f,δ)
 |[],acc,_,_=>by simp
 | d :: ds,acc,h,hl => by
  obtain⟨a,b,rfl,h1,h2⟩:=h d Ar;have fj:GP nn (nn+1) (.tup [a,b]) (δ++[Sl.no,Sl.no])=some (δ++[Sl.va a,Sl.va b]):=by
   have e1:(δ++[Sl.no,Sl.no]).set nn (.va a)=δ++[Sl.va a,Sl.no]:=by rw[Fq _ _ (by lia)];simp[hδ]
   have e2:(δ++[Sl.va a,Sl.no]).set (nn+1) (.va b)=δ++[Sl.va a,Sl.va b]:=by rw[Fq _ _ (by lia),hδ,show nn+1 - nn=1 by lia];rfl
   simp[e1,e2]
  have ay:(δ++[Sl.va a,Sl.va b]).take nn=δ:=by rw[Dt (by lia),Ck (by lia)]
  have az:acc.length<16777216:=by simp at hl;lia
  cases hp:p (.tup [a,b]) with
  |true=>
   have ih:=RE nn tb p fe f δ hδ ds (acc++[f (.tup [a,b])]) (λe he=>h e (An _ he)) (by simp at hl⊢;lia);have h2:=h2 hp;rw[hp] at h1;simp only[RD,Xo,fj,IJ,h1,Vq,h2,Vm,if_pos az,ay,ih];simp[hp]
  |false=>
   have ih:=RE nn tb p fe f δ hδ ds acc (λe he=>h e (An _ he)) (by simp at hl⊢;lia);rw[hp] at h1;simp only[RD,Xo,fj,IJ,h1,Xm,ay,ih];simp[hp]
noncomputable def ost(ns:List Int)(n:Nat)(blk:cO)(ps:List (Int×Int))(left made:List Int)(s6:Sl):Ev:=
 [.va (VC ns),.ow (WO n),.va blk,.va (.lst (ps.map ZV)),.ow (.lst (left.map .int)),.ow (.lst (made.map .int)),s6]
noncomputable def pw(left:List Int)(r:Int):cO->Bool
 |.tup [.int a,.int b]=>decide (b=r)&&LV (.int a) (left.map .int)
 |_=>false
theorem J5{i:Int}:∀{as:List Int},LV (.int i) (as.map .int)=true↔i∈as
 |[]=>by simp
 |a::as=>by rw[Ay,Vo,Ih,pE,decide_eq_true_eq,J5 (as:=as),Ak];exact⟨λh=>h.imp Eq.symm id,λh=>h.imp Eq.symm id⟩
theorem mG(ps:List (Int×Int))(left:List Int)(r:Int)(hp:ps.length<16777216):ZZ 2 2 (GP 2 3) (NI (fB (f2 VT (fV 3) (fV 1))) (fB (f2 (Z0 false) (fV 2) (fO 0)))) (fC (.int 1)) (ps.map ZV) [] [.ow (.lst (left.map .int)),.va (.int r)]=some (((ps.map ZV).filter (pw left r)).map λ_=>.int 1,[.ow (.lst (left.map .int)),.va (.int r)]):=by
 have hin:∀a:Int,Z0 false (.int a) (.lst (left.map .int))=some (.bl (LV (.int a) (left.map .int))):=λa=>by rw[KC (j:=0) (k:=0) ZA (V2 left)];simp
 have:=RE 2 (NI (fB (f2 VT (fV 3) (fV 1))) (fB (f2 (Z0 false) (fV 2) (fO 0)))) (pw left r) (fC (.int 1)) (λ_=>.int 1) [.ow (.lst (left.map .int)),.va (.int r)] rfl (ps.map ZV) [] (λd hd=>by
  obtain⟨⟨a,b⟩,_,rfl⟩:=Cz.mp hd;refine⟨.int a,.int b,rfl,?_,λ_=>by simp⟩;have hi:=hin a;have hpw:pw left r (ZV (a,b))=(decide (b=r)&&LV (.int a) (left.map .int)):=rfl;rw[hpw];generalize left.map cO.int=L at*;by_cases hb:b=r
  ·simp[hb,hi]
  ·simp[hb]) (by simpa using hp)
 simpa using this
theorem FT{ds:List cO}:BF (.lst ds) (.lst [])=ds.isEmpty:=by cases ds<;>rfl
noncomputable def rdD(ps:List (Int×Int))(left:List Int):cO->Bool
 |.int r=>((ps.map ZV).filter (pw left r)).isEmpty
 |_=>false
theorem OG{x:Int}:∀{ns:List Int},x∈ns->∃j,WA x ns=some j/\ns.eraseIdx j=ns.erase x
 | i :: ns,h => by
  unfold WA;by_cases e:i=x
  ·rw[if_pos e];exact⟨0,rfl,by simp[e]⟩
  ·rw[if_neg e]
   obtain⟨j,h1,h2⟩:=OG (ns:=ns) (by
    rcases Ak.mp h with z|z
    ·exact absurd z.symm e
    ·exact z)
   refine⟨j+1,by rw[h1];rfl,?_⟩;rw[List.eraseIdx_cons_succ,h2,List.erase_cons_tail (by simpa using e)]
theorem lW{x:Int}{ns:List Int}(h:x∈ns):mRem (ns.map .int) [.int x]=some ((ns.erase x).map .int):=by obtain⟨j,h1,h2⟩:=OG h;show(WJ (ns.map .int)).bind (λns=>(WA x ns).map λj=>(ns.eraseIdx j).map cO.int)=_;rw[QO,Af,h1,Se,h2]
theorem EW{ps:List (Int×Int)}{left:List Int}{r:Int}:rdD ps left (.int r)=true↔ ∀p∈ps,p.2=r->p.1∉left:=by
 show((ps.map ZV).filter (pw left r)).isEmpty=true↔_;rw[Qq,List.filter_eq_nil_iff];constructor
 ·intro h p hp he hl
  have:=h (ZV p) (Cz.mpr ⟨p,hp,rfl⟩);refine this ?_;show(decide (p.2=r)&&LV (.int p.1) (left.map .int))=true;rw[J5.mpr hl,he];simp
 ·intro h d hd z
  obtain⟨p,hp,rfl⟩:=Cz.mp hd;have z:(decide (p.2=r)&&LV (.int p.1) (left.map .int))=true:=z;rw[Ae,decide_eq_true_eq,J5] at z;exact h p hp z.1 z.2
theorem gU(ps:List (Int×Int))(left:List Int)(hp:ps.length<16777216)(hll:left.length<16777216):ZZ 2 1 (gN 2) (fB (f2 VT (ZG [1,2] 2 (TK (fV 0)) (FV 2 (Z8 (gN 2) (Z8 (gN 3) V1))) (NI (fB (f2 VT (fV 3) (fV 1))) (fB (f2 (Z0 false) (fV 2) (fO 0)))) (fC (.int 1))) (ZT b6))) (fV 2) (left.map .int) [] [.va (.lst (ps.map ZV)),.ow (.lst (left.map .int))]=some ((left.filter λr=>rdD ps left (.int r)).map .int,[.va (.lst (ps.map ZV)),.ow (.lst (left.map .int))]):=by
 have:=PD 2 (fB (f2 VT (ZG [1,2] 2 (TK (fV 0)) (FV 2 (Z8 (gN 2) (Z8 (gN 3) V1))) (NI (fB (f2 VT (fV 3) (fV 1))) (fB (f2 (Z0 false) (fV 2) (fO 0)))) (fC (.int 1))) (ZT b6))) (rdD ps left) (fV 2) id [.va (.lst (ps.map ZV)),.ow (.lst (left.map .int))] rfl (left.map .int) [] (λd hd=>by
  obtain⟨r,_,rfl⟩:=Cz.mp hd;refine⟨?_,λ_=>by simp⟩;have w:=mG ps left r hp;have hq:VT (.lst (((ps.map ZV).filter (pw left r)).map λ_=>cO.int 1)) (.lst [])=some (.bl (rdD ps left (.int r))):=by
   rw[iO (j:=1) (k:=1) (YT λd hd=>by obtain⟨_,_,rfl⟩:=Cz.mp hd;exact ZA) (YT ZB),FT,List.isEmpty_map]
   rfl
  generalize ((ps.map ZV).filter (pw left r)).map (λ_=>cO.int 1)=W at*;generalize rdD ps left (.int r)=B at*;generalize left.map cO.int=L at*;generalize ps.map ZV=Q at*;simp[aY,w,hq]) (by simpa using hll)
 rw[this,List.filter_map];simp[Function.comp_def]
theorem dH(ns:List Int)(n:Nat)(blk:cO)(ps:List (Int×Int))(left made:List Int)(s6:Sl)(hl:ns.length<=63)(hn:n<800000)(hne:left≠[])(hs:left.Pairwise (· < ·))(hlt:∀p∈ps,p.1<p.2)(hll:left.length<1000)(hml:made.length<1000)(hpl:ps.length<10000):∃x∈left,(∀p∈ps,p.2=x->p.1∉left)/\∃s6',ZP (ost ns n blk ps left made s6)=some (.nx (ost ns (n+1) blk ps (left.erase x) (made++[x]) s6')):=by
 have hr:=gU ps left (by lia) (by lia);have h0:0<((left.filter λr=>rdD ps left (.int r)).map cO.int).length:=by
  match left,hne,hs with
  |a::t,_,hs=>
   have:a∈((a::t).filter λr=>rdD ps (a::t) (.int r)):=by
    refine Ht.mpr ⟨Ar,EW.mpr λp hp he hi=>?_⟩;have h1:=hlt p hp;rw[he] at h1;rcases Ak.mp hi with z|z
    ·lia
    ·have:=(List.pairwise_cons.mp hs).1 _ z
     lia
   rw[Bx];exact List.length_pos_of_mem this
 obtain⟨d,hd,ed⟩:=W8 ns n ((left.filter λr=>rdD ps left (.int r)).map .int) hl (by lia) h0;obtain⟨x,hx,rfl⟩:=Cz.mp hd;obtain⟨hx1,hx2⟩:=Ht.mp hx;have hm:=lW hx1;have hla:=Q8 (made.map cO.int) (.int x);have o9:made.length<16777216:=by lia
 refine⟨x,hx1,EW.mp hx2,.va (.lst ((left.filter λr=>rdD ps left (.int r)).map .int)),?_⟩;unfold ZP;simp only[ost,Ij,Ay,Ea];generalize (left.filter λr=>rdD ps left (.int r)).map cO.int=R at*;generalize (left.erase x).map cO.int=E at*;generalize left.map cO.int=L at*;generalize ps.map ZV=Q at*;have o8:(made.map cO.int).length<16777216:=by simpa using o9
 generalize made.map cO.int=D at*;simp[aY,hr,ed,hm,hla,o8]
theorem EJ(ns:List Int)(blk:cO)(ps:List (Int×Int))(hl:ns.length<=63)(hlt:∀p∈ps,p.1<p.2)(hpl:ps.length<10000):∀(f n:Nat) (left made:List Int) (s6:Sl),left.length=f->n+f<700000->left.Pairwise (· < ·)->made.length+left.length<1000->(∀p∈ps,p.1∈made∨p.1∈left)->(∀p∈ps,∀k:Nat,made[k]?=some p.2->p.1∈made.take k)->∃(order:List Int) (s6':Sl),order.Perm (made++left)/\(∀p∈ps,∀k:Nat,order[k]?=some p.2->p.1∈order.take k)/\aM (fB (f2 P9 (fO 4) (ZT b6))) ZP (f+1) (ost ns n blk ps left made s6)=some (.nx (ost ns (n+f) blk ps [] order s6'))
 |0,n,left,made,s6,hf,hn,hs,hm,h1,h2=>by
  have:left=[]:=Gh.mp hf;subst this;refine⟨made,s6,by simp,h2,OV ?_⟩;have e:P9 (.lst []) (.lst [])=some (.bl false):=by rw[EF (j:=1) (k:=1) (YT ZB) (YT ZB),FT];rfl
  simp[ost,e]
 | f + 1,n,left,made,s6,hf,hn,hs,hm,h1,h2 => by
  have hne:left≠[]:=λz=>by rw[z] at hf;simp at hf
  obtain⟨x,hx,hp,u6,e1⟩:=dH ns n blk ps left made s6 hl (by lia) hne hs hlt (by lia) (by lia) hpl;have hle:=List.length_erase_of_mem hx;obtain⟨order,s6',o1,o2,e2⟩:=EJ ns blk ps hl hlt hpl f (n+1) (left.erase x) (made++[x]) u6 (by lia) (by lia) (hs.sublist (List.erase_sublist)) (by simp;lia) (λp hp'=>by
   rcases h1 p hp' with z|z
   ·exact .inl (Cq.mpr (.inl z))
   ·by_cases hxx:p.1=x
    ·exact .inl (by simp[hxx])
    ·exact .inr ((List.mem_erase_of_ne hxx).mpr z)) (λp hp' k hk=>by
   by_cases hkl:k<made.length
   ·rw[Ao hkl] at hk
    rw[Dt (by lia)];exact h2 p hp' k hk
   ·have j8:=(Ag.mp hk).1
    simp at j8;have:k=made.length:=by lia
    subst this;simp at hk;have hnl:=hp p hp' hk.symm;rw[Sr];exact(h1 p hp').resolve_right hnl)
  refine⟨order,s6',?_,o2,?_⟩
  ·refine o1.trans ?_
   rw[Ax,List.singleton_append];exact(List.perm_cons_erase hx).symm.append_left made
  ·have e:P9 (.lst (left.map .int)) (.lst [])=some (.bl true):=by
    rw[EF (j:=1) (k:=1) (YT (V2 left)) (YT ZB),FT];cases left with
    |nil=>exact absurd rfl hne
    |cons=>rfl
   rw[JL (δ1:=ost ns n blk ps left made s6) (by simp[ost,e]) e1,e2,show n+1+f=n+(f+1) by lia]
theorem CF{f:VF}{δ δ1:Ev}{j:Int}(h:f δ=some (.int j,δ1))(h0:0<=j)(h1:j<=16777216):T2 f δ=some (.lst (Y8 0 j.toNat),δ1):=by unfold T2;rw[h,Af];exact if_pos ⟨h0,h1⟩
def C5(k:Nat):List Int:=(Bb k).map λi:Nat=>(i:Int)
theorem iW(k:Nat):Y8 0 k=(C5 k).map .int:=by simp[Y8,C5]
theorem EZ{k:Nat}{a:Int}:a∈C5 k↔0<=a/\a<k:=by
 unfold C5;rw[Cz];constructor
 ·rintro ⟨i,hi,rfl⟩
  have:=Cn.mp hi;lia
 ·rintro ⟨h0,h1⟩
  exact⟨a.toNat,Cn.mpr (by lia),by lia⟩
theorem GK(k:Nat):(C5 k).Pairwise (· < ·):=Ll _ (λa b h=>by lia) (List.pairwise_lt_range)
theorem KR(k:Nat):(C5 k).length=k:=by simp[C5]
theorem jW(ns:List Int)(n:Nat){sure:Int}{rows:List cO}{kds:List Kd}(hl:ns.length<=63)(hn:n<500000)(hb:Bl [] rows kds)(h40:rows.length<=40):∃(ps:List (Int×Int)) (order:List Int),Prs rows ps/\order.Perm (C5 rows.length)/\(∀p∈ps,∀k:Nat,order[k]?=some p.2->p.1∈order.take k)/\aA [VC ns,WO n,.tup [.int sure,.tup rows]]=some (.lst (order.map .int),[WO (n+rows.length)]):=by
 obtain⟨ps,P,hpl,em⟩:=fR (sure:=sure) hb h40;obtain⟨order,s6,o1,o2,e⟩:=EJ ns (.tup [.int sure,.tup rows]) ps hl (λp hp=>(P.lt p hp).2.1) (by lia) rows.length n (C5 rows.length) [] .no (KR _) (by lia) (GK _) (by simp[KR];lia) (λp hp=>.inr (EZ.mpr ⟨(P.lt p hp).1,by have:=P.lt p hp;lia⟩)) (λp hp k hk=>by simp at hk);refine⟨ps,order,P,by simpa using o1,o2,?_⟩;have e:=MM e;simp only[ost,Ea] at e;have er:T2 (f1 YW (f2 bJ (fV 2) (fC (.int 1)))) [.va (VC ns),.ow (WO n),.va (.tup [.int sure,.tup rows]),.no,.no,.no,.no]=some (.lst ((C5 rows.length).map .int),[.va (VC ns),.ow (WO n),.va (.tup [.int sure,.tup rows]),.no,.no,.no,.no]):=by rw[<-iW,CF (j:=(rows.length:Int)) (δ1:=[.va (VC ns),.ow (WO n),.va (.tup [.int sure,.tup rows]),.no,.no,.no,.no]) (by simp) (by lia) (by lia)];simp
 unfold aA;rw[bL,YD.eq_1];generalize (C5 rows.length).map cO.int=L at*;generalize order.map cO.int=O at*;generalize ps.map ZV=Q at*;simp[bF,em,er,e]
theorem aB.strong{M:Int->Prop}{row:cO}(h:aB M row):∃as:List Int,(∀a∈as,M a)/\aB (· ∈as) row/\Z3 [row]=some (.lst (as.map .int),[]):=by
 cases h with
 | @number n h0 h1=>exact⟨[],(λ_ h=>nomatch h),.number h0 h1,by kernel_rfl⟩
 | @two x a b hx ha hb=>
  refine⟨[a,b],by simp[ha,hb],.two hx (by simp) (by simp),?_⟩;simp only[Ak,Aw,or_false] at hx;rcases hx with rfl|rfl|rfl|rfl|rfl|rfl|rfl<;>kernel_rfl
 | @pick c a b hc ha hb=>exact⟨[c,a,b],by simp[hc,ha,hb],.pick (by simp) (by simp) (by simp),by kernel_rfl⟩
 | @load p h0 h1=>exact⟨[],(λ_ h=>nomatch h),.load h0 h1,by kernel_rfl⟩
 | @take p c a h0 h1 hc ha=>exact⟨[c,a],by simp[hc,ha],.take h0 h1 (by simp) (by simp),by kernel_rfl⟩
 | @store p a h0 h1 ha=>exact⟨[a],by simp[ha],.store h0 h1 (by simp),by kernel_rfl⟩
 | @put p a c h0 h1 ha hc=>exact⟨[a,c],by simp[ha,hc],.put h0 h1 (by simp) (by simp),by kernel_rfl⟩
theorem GJ{as:List Int}{row:cO}(h:aB (· ∈as) row){ks:List aG}{vs:List cO}(μ:Int->Int)(hk:∀a∈as,aU ks vs (.inl a)=some (.int (μ a))):∃br,bO [row,.dct ks vs]=some (br,[])/\aB (λb=>∃a∈as,b=μ a) br/\P0 .w br=P0 .w row:=by
 cases h with
 | @number n h0 h1=>
  refine⟨_,?_,.number h0 h1,rfl⟩;unfold bO;rw[bL];unfold aJ;simp[bF]
 | @two x a b hx ha hb=>
  have z0:=(dne hx (y:= "number") (by decide)).1;have z1:=(dne hx (y:= "load") (by decide)).2;have z2:=(dne hx (y:= "take") (by decide)).2;have z3:=(dne hx (y:= "store") (by decide)).2;have z4:=(dne hx (y:= "put") (by decide)).2;refine⟨.tup [.str x,.int (μ a),.int (μ b)],?_,.two hx ⟨a,ha,rfl⟩ ⟨b,hb,rfl⟩,?_⟩
  ·unfold bO
   rw[bL];unfold aJ;simp[bF,z0,z1,z2,z3,z4,aY,hk a ha,hk b hb]
  ·simp only[Ak,Aw,or_false] at hx
   rcases hx with rfl|rfl|rfl|rfl|rfl|rfl|rfl<;>rfl
 | @pick c a b hc ha hb=>
  refine⟨.tup [.str "pick",.int (μ c),.int (μ a),.int (μ b)],?_,.pick ⟨c,hc,rfl⟩ ⟨a,ha,rfl⟩ ⟨b,hb,rfl⟩,rfl⟩;unfold bO;rw[bL];unfold aJ;simp[bF,aY,hk a ha,hk b hb,hk c hc]
 | @load p h0 h1=>
  refine⟨.tup [.str "load",.int p],?_,.load h0 h1,rfl⟩;unfold bO;rw[bL];unfold aJ;simp[bF,aY]
 | @take p c a h0 h1 hc ha=>
  refine⟨.tup [.str "take",.int p,.int (μ c),.int (μ a)],?_,.take h0 h1 ⟨c,hc,rfl⟩ ⟨a,ha,rfl⟩,rfl⟩;unfold bO;rw[bL];unfold aJ;simp[bF,aY,hk a ha,hk c hc]
 | @store p a h0 h1 ha=>
  refine⟨.tup [.str "store",.int p,.int (μ a)],?_,.store h0 h1 ⟨a,ha,rfl⟩,rfl⟩;unfold bO;rw[bL];unfold aJ;simp[bF,aY,hk a ha]
 | @put p a c h0 h1 ha hc=>
  refine⟨.tup [.str "put",.int p,.int (μ a),.int (μ c)],?_,.put h0 h1 ⟨a,ha,rfl⟩ ⟨c,hc,rfl⟩,rfl⟩;unfold bO;rw[bL];unfold aJ;simp[bF,aY,hk a ha,hk c hc]
theorem Bl.at{kds ai:List Kd}{rows:List cO}(h:Bl kds rows ai):∀{j:Nat} {row:cO},rows[j]?=some row->aB (λa=>Nm ai .w a/\a<kds.length+j) row/\ai[kds.length+j]?=some (P0 .w row)/\∀a,Nm kds .w a->Nm ai .w a:=by
 have keep:∀{k k':List Kd} {rs:List cO},Bl k rs k'->∀(i:Nat) (x:Kd),k[i]?=some x->k'[i]?=some x:=by
  intro k k' rs h;induction h with
  |nil=>exact λ_ _ z=>z
  |cons _ _ ih=>exact λi x z=>ih i x (by rw[Ao (Ag.mp z).1];exact z)
 induction h with
 |nil=>intro j row hr;simp at hr
 | @cons kds ai r rows a t ih=>
  intro j row hr;cases j with
  |zero=>
   simp at hr;subst hr;refine⟨a.imp λx hx=>⟨⟨hx.1,keep t _ _ (hx.snoc (j:=P0 .w r)).2⟩,by have:=hx.lt;lia⟩,keep t _ _ (by simp),λx hx=>⟨hx.1,keep t _ _ (hx.snoc (j:=P0 .w r)).2⟩⟩
  |succ j=>
   obtain⟨h1,h2,h3⟩:=ih (by simpa using hr);rw[Cf,Jj] at h1 h2;refine⟨h1.imp λx hx=>⟨hx.1,by have:=hx.2;lia⟩,by rw[show kds.length+(j+1)=kds.length+1+j by lia];exact h2,λx hx=>h3 x hx.snoc⟩
noncomputable def swD:cO->cO
 |.tup [a,b]=>.tup [b,a]
 |_=>.non
noncomputable def BH:Nat->List Int->List (aG×cO)
 |_,[]=>[]
 |k,x::xs=>(.inl x,.int (k:Int))::BH (k+1) xs
theorem HM:∀(xs:List Int) (k:Nat),UH ((YC k (xs.map .int)).map swD)=some (BH k xs)
 |[],_=>rfl
 |x::xs,k=>by rw[Ay,QJ,Ay];show(CM (.tup [.int x,.int (k:Int)])).bind (λp=>(UH ((YC (k+1) (xs.map .int)).map swD)).map λps=>p::ps)=_;rw[HM xs (k+1)];rfl
theorem PN:∀(xs:List Int) (k:Nat),(BH k xs).map Dj=xs.map .inl
 |[],_=>rfl
 |x::xs,k=>by rw[BH,Ay,PN xs (k+1)];rfl
theorem D8:∀(xs:List Int) (k i:Nat),i<xs.length->((BH k xs).map Er)[i]?=some (.int ((k+i:Nat):Int))
 |[],_,i,h=>by simp at h
 |x::xs,k,0,_=>rfl
 |x::xs,k,i+1,h=>by have:=D8 xs (k+1) i (by simpa using h);rw[BH,Ay,List.getElem?_cons_succ,this];congr 3;lia
theorem dG{order:List Int}(nd:order.Nodup){a:Int}(ha:a∈order):aU ((BH 0 order).map Dj) ((BH 0 order).map Er) (.inl a)=some (.int (order.idxOf a:Int)):=by
 have hi:order.idxOf a<order.length:=Km ha;rw[HS _ _ (order.idxOf a) (.inl a) ?_ (by simp) ?_,D8 _ _ _ hi]
 ·simp
 ·rw[PN]
  exact Ll _ (λa b h e=>h (by injection e)) nd
 ·rw[PN,Dh,Cd hi,Pj hi]
  rfl
noncomputable def U6(rows:List cO)(r:Int):cO:=(rows[r.toNat]?).getD .non
noncomputable def GI(rows:List cO)(names:cO):cO->cO
 |.int r=>match bO [U6 rows r,names] with
  |some (d,_)=>d
  |none=>.non
 |_=>.non
theorem EX{rows os:List cO}{names br:cO}{r:Int}(e:bO [U6 rows r,names]=some (br,os)):GI rows names (.int r)=br:=by simp only[GI,e]
def JY(order:List Int):cO:=.dct ((BH 0 order).map Dj) ((BH 0 order).map Er)
theorem Wb{rows:List cO}{kds:List Kd}(hb:Bl [] rows kds){ps:List (Int×Int)}(P:Prs rows ps){order:List Int}(o1:order.Perm (C5 rows.length))(o2:∀p∈ps,∀k:Nat,order[k]?=some p.2->p.1∈order.take k){pre rest:List Int}{r:Int}(ho:order=pre++r::rest):∃br,bO [U6 rows r,JY order]=some (br,[])/\U3 rows r=some (U6 rows r)/\aB (Nm (pre.map λa=>P0 .w (U6 rows a)) .w) br/\P0 .w br=P0 .w (U6 rows r):=by
 have nd:order.Nodup:=o1.nodup_iff.mpr ((GK _).imp λh=>by lia);have hr:r∈order:=by rw[ho];simp
 have hr2:=EZ.mp (o1.mem_iff.mp hr);have h9:rows[r.toNat]?=some (U6 rows r):=by unfold U6;rw[Cd (by lia)];rfl
 obtain⟨h1,h2,_⟩:=hb.at h9;obtain⟨as,a1,a2,a3⟩:=h1.strong;have bu:∀a∈as,a∈pre:=λa ha=>by
  have h3:=a1 a ha;have h4:a<r:=by have:=h3.2;simp at this;lia
  have hp:=P.nm r.toNat _ as h9 a3 a ha h3.1.1 (by lia);have:=o2 _ hp pre.length (by rw[ho];simp;lia);rw[ho,Sr] at this;exact this
 obtain⟨br,e,ok,mk⟩:=GJ a2 (ks:=(BH 0 order).map Dj) (vs:=(BH 0 order).map Er) (λa=>(order.idxOf a:Int)) (λa ha=>dG nd (by rw[ho];exact Cq.mpr (.inl (bu a ha))));refine⟨br,e,by rw[XD hr2.1 (by lia)];exact h9,ok.imp λb hb'=>?_,mk⟩;obtain⟨a,ha,rfl⟩:=hb';have hap:=bu a ha;have hi:pre.idxOf a<pre.length:=Km hap;have hio:order.idxOf a=pre.idxOf a:=by rw[ho,List.idxOf_append,if_pos hap]
 refine⟨by lia,?_⟩;rw[hio,Iu,Dh,Cd hi,Pj hi];have h3:=(a1 a ha).1;have hlt:=h3.lt;have ag:kds.length=rows.length:=by simpa using hb.len
 have lv:rows[a.toNat]?=some (U6 rows a):=by unfold U6;rw[Cd (by have:=h3.1;lia)];rfl
 obtain⟨_,h5,_⟩:=hb.at lv;simp only[Mr,Ks] at h5;have:=h3.2;rw[h5] at this;injection this with this;rw[Se,this]
theorem Yo{rows:List cO}{kds:List Kd}(hb:Bl [] rows kds){ps:List (Int×Int)}(P:Prs rows ps){order:List Int}(o1:order.Perm (C5 rows.length))(o2:∀p∈ps,∀k:Nat,order[k]?=some p.2->p.1∈order.take k):∀(rest pre:List Int),order=pre++rest->Bl (pre.map λa=>P0 .w (U6 rows a)) ((rest.map .int).map (GI rows (JY order))) (order.map λa=>P0 .w (U6 rows a))
 |[],pre,ho=>by rw[ho,Cw];exact .nil
 |r::rest,pre,ho=>by obtain⟨br,e,_,ok,mk⟩:=Wb hb P o1 o2 ho;have er:=EX e;have ih:=Yo hb P o1 o2 rest (pre++[r]) (by rw[ho,Ax];rfl);rw[Ay,Ay,er];refine .cons ok ?_;rw[mk];simpa using ih
theorem oJ(ns:List Int)(n:Nat)(most:Int)(hl:ns.length<=63)(hn:n<100000)(h0:0<=most)(h40:most<=40):∃(sure:Int) (rows:List cO) (kds:List Kd) (n':Nat),Bl [] rows kds/\(rows.length:Int)<=most/\0<=sure/\sure<=64/\n'<=n+1000/\ZN [VC ns,WO n,.int most]=some (.tup [.int sure,.tup rows],[WO n']):=by
 obtain⟨x,hx,ex⟩:=W8 ns n [.int 3,.int 6,.int 9,.int 64] hl (by lia) (by simp);obtain⟨ae,rfl,r0,r1⟩:∃q:Int,x=.int q/\0<q/\q<=64:=by simp only[Ak,Aw,or_false] at hx;rcases hx with rfl|rfl|rfl|rfl<;>exact⟨_,rfl,by lia,by lia⟩
 have d1:=X0 ns (n+1) (ae+1) hl (by lia) (by lia);have d1a:=P4 ns (n+1) (b:=ae+1) (by lia);have d1b:JZ ns (n+1) (ae+1)<ae+1:=Ew _ (by lia);obtain⟨y,hy,ey⟩:=W8 ns (n+2) [.int 0,.int ae,.int ae,.int (JZ ns (n+1) (ae+1))] hl (by lia) (by simp);obtain⟨sure,rfl,s0,s1⟩:∃q:Int,y=.int q/\0<=q/\q<=64:=by simp only[Ak,Aw,or_false] at hy;rcases hy with rfl|rfl|rfl|rfl<;>exact⟨_,rfl,by lia,by lia⟩
 have d2:=X0 ns (n+3) (most+1) hl (by lia) (by lia);have d2a:=P4 ns (n+3) (b:=most+1) (by lia);have d2b:JZ ns (n+3) (most+1)<most+1:=Ew _ (by lia);obtain⟨rows,kds,n1,hb,ag,m1,m2,e1⟩:=lJ ns (n+4) (JZ ns (n+3) (most+1)) ae hl (by lia) r0 r1 d2a (by lia);have d3:=X0 ns n1 3 hl (by lia) (by decide);have hrl:rows.length<=40:=by lia
 by_cases h3:0<JZ ns n1 3
 ·refine ⟨sure,rows,kds,n1 + 1,hb,by lia,s0,s1,by lia,?_⟩
  unfold ZN;rw[bL];unfold WI;simp[bF,ex,d1,ey,d2,e1,d3,h3]
 ·obtain ⟨ps,order,P,o1,o2,e2⟩ := jW ns (n1 + 1) (sure := sure) hl (by lia) hb hrl
  have hol:order.length=rows.length:=by rw[o1.length_eq,KR]
  have nd:order.Nodup:=o1.nodup_iff.mpr ((GK _).imp λh=>by lia);have c1:=RE 0 R7 (λ_=>true) (aT (cN (fV 1) (cN (fV 0) b6))) swD [] rfl (YC 0 (order.map .int)) [] (λd hd=>by obtain⟨i,hi,e⟩:=List.getElem_of_mem hd;obtain⟨z,_,rfl⟩:=NQ (Ag.mpr ⟨hi,e⟩);exact⟨_,_,rfl,by simp,λ_=>by simp[swD]⟩) (by rw[NR];simp;lia)
  have f1:(YC 0 (order.map cO.int)).filter (λ_=>true)=YC 0 (order.map .int):=List.filter_eq_self.mpr λ_ _=>rfl;rw[f1,Ff] at c1;have hd:EC (.lst ((YC 0 (order.map .int)).map swD))=some (JY order):=by
   show(UH ((YC 0 (order.map .int)).map swD)).bind (λkds=>if(kds.map Dj).Nodup then some (cO.dct (kds.map Dj) (kds.map Er)) else none)=_;rw[HM,Af,if_pos]
   ·rfl
   ·rw[PN]
    exact Ll _ (λa b h e=>h (by injection e)) nd
  have c2:=NO 2 (cA 2 [] bO (aE (f2 bJ (f2 bJ (fV 0) (fC (.int 1))) (fV 2)) (aE (fV 1) bT))) [.va (.tup [.int sure,.tup rows]),.va (JY order)] (GI rows (JY order)) rfl (order.map .int) [] (λd hd=>by obtain⟨r,hr,rfl⟩:=Cz.mp hd;obtain⟨pre,rest,ho⟩:=List.append_of_mem hr;obtain⟨br,e,ea,_,_⟩:=Wb hb P o1 o2 ho;have er:=EX e;rw[er];simp[ea,e]) (by simp;lia)
  rw[Ff] at c2;have B:=Yo hb P o1 o2 order [] rfl;refine⟨sure,(order.map .int).map (GI rows (JY order)),_,n1+1+rows.length,B,by simp;lia,s0,s1,by lia,?_⟩;have h3':¬0<JZ ns n1 3:=h3;unfold ZN;rw[bL];unfold WI;have hln:((order.map cO.int).map (GI rows (JY order))).length<=16777216:=by simp;lia
  generalize (order.map cO.int).map (GI rows (JY order))=R at*;generalize (YC 0 (order.map cO.int)).map swD=S at*;generalize JY order=D at*;simp[bF,ex,d1,ey,d2,e1,d3,h3',e2,aY,c1,hd,c2]
noncomputable def MA:List cO:=[.non,.int 5,.tup [],.tup [.int 0],.tup [.int 0,.lst []],.lst [.int 0,.tup []],.tup [.int (-1),.tup []],.tup [.int 65,.tup []],.tup [.bl true,.tup []],.tup [.str "0",.tup []],.tup [.int 0,.tup [],.tup []],.tup [.int 0,.tup [.tup []]],.tup [.int 0,.tup [.tup [.str "number"]]],.tup [.int 0,.tup [.tup [.str "number",.int 1000]]],.tup [.int 0,.tup [.tup [.str "plus",.int 0,.int 0]]],.tup [.int 0,.tup [.lst [.str "load",.int 0]]],.tup [.int 0,.tup [.tup [.str "load",.int 64]]],.tup [.int 0,.tup [.tup [.str "load",.int (-1)]]],.tup [.int 0,.tup [.tup [.str "halve",.int 0]]],.tup [.int 0,.tup [.tup [.int 5,.int 0]]],.tup [.int 0,.tup [.tup [.str "number",.int 1],.tup [.str "store",.int 0,.int 0],.tup [.str "plus",.int 0,.int 1]]],.tup [.int 0,.tup (At 41 (.tup [.str "number",.int 1]))],.tup [.int 0,.tup [.tup [.str "number",.int 1],.tup [.str "plus",.int 0,.int 1]]]]
theorem gT(a b:cO):SH [.va a,.ow b,.no]=bC (cA 3 [1] bW (aE (fV 0) (aO 1 (aE (fV 2) bT)))) [.va a,.ow b,.va (.lst MA)]:=by kernel_rfl
theorem lR(ns:List Int)(n:Nat)(hl:ns.length<=63)(hn:n<900000):∃x∈MA,YM [VC ns,WO n]=some (x,[WO (n+1)]):=by obtain⟨x,hx,ex⟩:=W8 ns n MA hl hn (by simp[MA]);refine⟨x,hx,?_⟩;unfold YM;rw[bL,show bF [1] 3 [VC ns,WO n]=[.va (VC ns),.ow (WO n),.no] from rfl,gT];simp[ex]
noncomputable def JO:Kd->Bool
 |.w=>true
 |_=>false
theorem eI{kds:List Kd}{a:Int}(h:Nm kds .w a):Ab (kds.map JO) a:=⟨h.1,by rw[Dh,h.2];rfl⟩
theorem mkw{x:String}{t:List cO}:aX [.tup (.str x::t)]=some (.bl (JO (P0 .w (.tup (.str x::t)))),[]):=by
 unfold aX;rw[bL];unfold W7;by_cases h:x= "store"
 ·subst h
  simp[bF,W0,P0,YS,JO]
 ·by_cases h2:x= "put"
  ·subst h2
   simp[bF,W0,P0,YS,JO]
  ·have h3 : ¬ "store" = x := λz => h z.symm
   have h4:¬ "put"=x:=λz=>h2 z.symm;simp[bF,W0,P0,YS,JO,h,h2,h3,h4]
theorem DT(rest:List cO)(blk rws:cO)(sure:Int){kds ai:List Kd}{rows:List cO}(h:Bl kds rows ai):kds.length+rows.length<1000->∀s:Sl,∃s',W6 (gN 4) ZJ (rows++rest) [.va blk,.va (.int sure),.va rws,.ow (.lst ((kds.map JO).map .bl)),s]=W6 (gN 4) ZJ rest [.va blk,.va (.int sure),.va rws,.ow (.lst ((ai.map JO).map .bl)),s']:=by
 induction h with
 |nil=>exact λ_ s=>⟨s,rfl⟩
 | @cons kds ai row rows ok h ih=>
  intro hk s;obtain⟨s',ih⟩:=ih (by simp at hk⊢;lia) (.va row);refine⟨s',?_⟩;have e:=Zq (ok.imp λa=>eI);obtain⟨x,t,rfl,_⟩:=V4 ok;have hk':kds.length<16777216:=by simp at hk;lia
  rw[Ij,Ij] at ih;simp only[Ay,Ea] at ih;rw[Hi,SA,HI,OJ];have b1:ZJ [.va blk,.va (.int sure),.va rws,.ow (.lst ((kds.map JO).map .bl)),.va (.tup (.str x::t))]=some (.nx [.va blk,.va (.int sure),.va rws,.ow (.lst ((kds.map JO).map .bl++[.bl (JO (P0 .w (.tup (.str x::t))))])),.va (.tup (.str x::t))]):=by unfold ZJ;simp only[Ql] at e;simp[e,mkw,hk',cO.hard]
  have s1:([.va blk,.va (.int sure),.va rws,.ow (.lst ((kds.map JO).map .bl)),s]:Ev).set 4 (.va (.tup (.str x::t)))=[.va blk,.va (.int sure),.va rws,.ow (.lst ((kds.map JO).map .bl)),.va (.tup (.str x::t))]:=rfl;rw[s1,b1,MI];exact ih
theorem VM{sure:Int}{rows:List cO}{kds:List Kd}(h:Bl [] rows kds)(s0:0<=sure)(s1:sure<=64)(r40:rows.length<=40):bQ [.tup [.int sure,.tup rows]]=some (.bl true,[]):=by
 obtain⟨s',e1⟩:=DT [] (.tup [.int sure,.tup rows]) (.tup rows) sure h (by simp;lia) .no;rw[Cw] at e1;simp only[Ea] at e1;have h40:¬(40:Int)<(rows.length:Int):=by lia
 unfold bQ;rw[bL,VJ.eq_1];simp[bF,WH,WG,s0,s1,h40,e1]
theorem F2:MA.map (λx=>(bQ [x],Z9 [.int 0,x,.non],Z9 [.int 1,x,.non]))=At 23 (some (.bl false,[]),some (.tup [.str "refused",.int 0],[]),some (.tup [.str "refused",.int 0],[])):=by kernel_rfl
theorem lO{x:cO}(hx:x∈MA):bQ [x]=some (.bl false,[])/\Z9 [.int 0,x,.non]=some (.tup [.str "refused",.int 0],[])/\Z9 [.int 1,x,.non]=some (.tup [.str "refused",.int 0],[]):=by have:=List.eq_of_mem_replicate (F2▸Od hx);exact⟨congrArg (·.1) this,congrArg (·.2.1) this,congrArg (·.2.2) this⟩
theorem KA{k:Nat}{d:cO}(h:UM k d)(hk:k<=64:=by decide):P9 d d=some (.bl false):=by rw[EF h h hk hk,kI h];rfl
theorem MZ(d:cO):YL [.exr "NoRow" "row" d]=some (.tup [.str "refused",.int 2],[]):=by kernel_rfl
theorem Xp{δ:Ev}:ER δ none=none:=(rfl)
theorem Yk:qRet none=none:=(rfl)
theorem pl2{a b:cO}:VO [.d a,.d b]=some [a,b]:=(rfl)
section
variable{blk d:cO}{rows:List cO}{sure:Int}(hb:bQ [.tup [.int sure,.tup rows]]=some (.bl true,[]))
include hb
theorem iR{r:Nat}{row:cO}(hr:rows[r]?=some row):ZF [.tup [.int sure,.tup rows],.int r]=some (row,[]):=by
 have hlt:=(Ag.mp hr).1;have h1:(r:Int)<=(rows.length:Int) - 1:=by lia
 have h2:U3 rows (r:Int)=some row:=by rw[XD (by lia) (by lia)];simpa using hr
 have h0:(0:Int)<=(r:Int):=by lia
 unfold ZF;rw[bL];unfold RG;simp[bF,hb,h0,h1,h2]
theorem C6(hw:bV [d,.int 0,.int ((rows.length:Int) - 1)]=some (.bl false,[])):ZF [.tup [.int sure,.tup rows],d]=none/\YU [.tup [.int sure,.tup rows],d]=some (("NoRow":Us),some (("row":Us),d)):=by
 constructor
 ·unfold ZF
  rw[bL];unfold RG;simp[bF,hb,hw];rfl
 ·unfold YU KS O0
  simp[bF,hb,hw,A9,zIf,BA,zNo,PR]
theorem oS(hw:bV [d,.int 0,.int ((rows.length:Int) - 1)]=some (.bl false,[])):Z9 [.int 0,.tup [.int sure,.tup rows],d]=some (.tup [.str "row",d,.tup [.str "refused",.int 2]],[])/\Z9 [.int 1,.tup [.int sure,.tup rows],d]=some (.tup [.str "row",d,.tup [.str "refused",.int 2]],[]):=by
 obtain⟨h1,h2⟩:=C6 hb hw;have r1:XX [.tup [.int sure,.tup rows],d]=none:=by unfold XX;rw[bL];unfold PK;simp[bF,h1];rfl
 have r2:TR [.tup [.int sure,.tup rows],d]=some (("NoRow":Us),some (("row":Us),d)):=by unfold TR KS K5;show((YU [.tup [.int sure,.tup rows],d]).map λx=>(x,_)).map (·.1)=_;rw[h2];rfl
 have v1:XY [.tup [.int sure,.tup rows],d]=none:=by unfold XY;rw[bL];unfold PL;simp[bF,h1];rfl
 have v2:TU [.tup [.int sure,.tup rows],d]=some (("NoRow":Us),some (("row":Us),d)):=by unfold TU KS K6;show((YU [.tup [.int sure,.tup rows],d]).map λx=>(x,_)).map (·.1)=_;rw[h2];rfl
 constructor
 ·unfold Z9
  rw[bL];unfold T3;simp[bF,E5,IS,NT,OZ,OQ,SU,QC,YS,r1,r2,MZ,Xp,Yk,pl2,HH,N9,OY]
 ·unfold Z9
  rw[bL];unfold T3;simp[bF,E5,IS,NT,OZ,OQ,SU,QC,YS,v1,v2,MZ,Xp,Yk,pl2,HH,N9,OY]
end
theorem kX{M:Int->Prop}{row:cO}(h:aB M row):∃d:cO,UM 1 d/\XT [row]=some (d,[])/\YN [row]=some (d,[]):=by
 have h2:=N7 h;obtain⟨as,hM,hc,h3,h4⟩:=h2;refine⟨_,YT (V2 as),?_,h4⟩;rw[<-h3];cases h with
 |number _ _=>kernel_rfl
 |two hx _ _=>
  simp only[Ak,Aw,or_false] at hx;rcases hx with rfl|rfl|rfl|rfl|rfl|rfl|rfl<;>kernel_rfl
 |pick _ _ _=>kernel_rfl
 |load _ _=>kernel_rfl
 |take _ _ _ _=>kernel_rfl
 |store _ _ _=>kernel_rfl
 |put _ _ _ _=>kernel_rfl
theorem mkw2{x:String}{t:List cO}:aX [.tup (.str x::t)]=(Z0 true (.str x) (.tup [.str "store",.str "put"])).map λd=>(d,[]):=by unfold aX;rw[bL];unfold W7;simp[bF,W0]
theorem OX{d:cO}{lo hi:cO}(hd:d=.non∨(∃b,d=.bl b)∨(∃s,d=.str s)∨∃l,d=.lst l):bV [d,lo,hi]=some (.bl false,[]):=by
 rcases hd with rfl|⟨b,rfl⟩|⟨s,rfl⟩|⟨l,rfl⟩<;>kernel_rfl
theorem nC{d:cO}{able:List cO}(hd:bV [d,.int 0,.int ((able.length:Int) - 1)]=some (.bl false,[])):ZY [d,.lst able]=some (.bl false,[]):=by unfold ZY;rw[bL];unfold WT;simp[bF,hd]
theorem rep1(k:Nat)(d:cO):WB k [d]=At k d:=by
 unfold WB;induction k with
 |zero=>rfl
 |succ k ih=>rw[Dy,Gd,ih,Dy];rfl
theorem Xs(d:cO)(k:Int)(h0:0<=k)(h1:k<=64):RO (.lst [d]) (.int k)=some (.lst (At k.toNat d)):=by simp only[RO];rw[if_pos ⟨⟨h0,by lia⟩,by simp;lia⟩,rep1]
theorem Bl.take{kds ai:List Kd}{rows:List cO}(h:Bl kds rows ai):∀m,∃k,Bl kds (rows.take m) k:=by
 induction h with
 | @nil kds=>exact λm=>⟨kds,by rw[List.take_nil];exact .nil⟩
 | @cons kds ai row rows ok h ih=>
  intro m;cases m with
  |zero=>exact⟨kds,.nil⟩
  |succ m=>
   obtain⟨k,hk⟩:=ih m;exact⟨k,by rw[Ny];exact .cons ok hk⟩
noncomputable def gl1:VS:=(aD 1 (xO (ZT b6)))
noncomputable def gl2:VS:=(aD 2 (xV (cA 3 [1] ZN (aE (fV 0) (aO 1 (aE (fC (.int 40)) bT))))))
noncomputable def gl3:VS:=(aD 3 (xV (f1 YW (f2 bJ (fV 2) (fC (.int 1))))))
noncomputable def gl4:VS:=(WM (G2 (fB (f2 S9 (cA 1 [] bQ (aE (fV 2) bT)) (fC (.bl true)))) (fB (f2 S9 (cA 1 [] bQ (aE (aT (cN (fC (.int 64)) (cN (f2 bJ (fV 2) (fC (.int 1))) b6))) bT)) (fC (.bl true))))) (bC (fC (.bl false))) ZQ)
noncomputable def gl5:VS:=(QY (BG (fV 3)) (gN 4) TY)
noncomputable def gl6:VS:=(aD 6 (xV (cA 2 [1] YM (aE (fV 0) (aO 1 bT)))))
noncomputable def gl7:VS:=(WM (G2 (fB (f2 S9 (cA 1 [] bQ (aE (fV 6) bT)) (fC (.bl false)))) (fB (f2 P9 (ZG [6] 1 (BG (fC (.int 2))) (gN 1) R7 (cA 3 [] Z9 (aE (fV 1) (aE (fV 0) (aE (fC .non) bT))))) (f2 RO (fC (.lst [.tup [.str "refused",.int 0]])) (fC (.int 2)))))) (bC (fC (.bl false))) ZQ)
noncomputable def gl8:VS:=(QY (TK (ZT (cN (fC .non) (cN (f1 QW (fC (.int 1))) (cN (fC (.str "0")) (cN (fV 3) (cN (ZT (cN (fC (.int 0)) b6)) b6))))))) (gN 7) Q9)
noncomputable def gl9:VS:=(WM (fB (f2 VT (fV 3) (fC (.int 0)))) (bC (fC (.bl true))) ZQ)
noncomputable def gl10:VS:=(aD 8 (xV (cA 3 [1] bR (aE (fV 0) (aO 1 (aE (fV 3) bT))))))
noncomputable def gl11:VS:=(aD 9 (xO (ZT (cN (aT (cN (fC (.str "plus")) (cN (fC (.int 0)) (cN (fV 8) b6)))) (cN (aT (cN (fC (.str "number")) (cN (f1 QW (fC (.int 1))) b6))) (cN (aT (cN (fC (.str "load")) (cN (fC (.str "0")) b6))) (cN (aT (cN (fC (.str "plus")) (cN (fC (.int 0)) b6))) (cN (aT (cN (fC (.str "store")) (cN (fC (.int 0)) (cN (fC .non) b6)))) (cN (f1 SZ (f2 bJ (f2 bJ (fV 2) (fC (.int 1))) (fV 8))) b6)))))))))
noncomputable def gl12:VS:=(WC 9 UJ (cN (aT (cN (fC (.str "number")) (cN (fC (.bl true)) b6))) b6))
noncomputable def gl13:VS:=(sFrz 9 (aD 4 (xV (cA 3 [1] bW (aE (fV 0) (aO 1 (aE (fV 9) bT)))))))
noncomputable def gl14:VS:=(bC (f2 oIsB (cA 1 [] bQ (aE (aT (cN (f2 bJ (fV 2) (fC (.int 0))) (cN (f2 Z6 (f2 Z6 (J2 (f2 bJ (fV 2) (fC (.int 1))) IE (KM (fV 8))) (aT (cN (fV 4) b6))) (J2 (f2 bJ (fV 2) (fC (.int 1))) (KM (f2 Z6 (fV 8) (fC (.int 1)))) IE)) b6))) bT)) (fC (.bl false))))
theorem mI:Vt=bZ gl1 (bZ gl2 (bZ gl3 (bZ gl4 (bZ gl5 (bZ gl6 (bZ gl7 (bZ gl8 (bZ gl9 (bZ gl10 (bZ gl11 (bZ gl12 (bZ gl13 (gl14))))))))))))):=rfl
theorem nb_t:S9 (.bl true) (.bl true)=some (.bl false):=by kernel_rfl
theorem nb_f:S9 (.bl false) (.bl false)=some (.bl false):=by kernel_rfl
theorem ib_f:oIsB (.bl false) (.bl false)=some (.bl true):=by kernel_rfl
theorem eU(a:List cO)(ts:List cO):Z5 [.tup [.str "number",.int (-1)],.lst a]=some (.bl false,[])/\Z5 [.tup [.str "load",.str "0"],.lst a]=some (.bl false,[])/\Z5 [.tup [.str "plus",.int 0],.lst a]=some (.bl false,[])∧Z5 [.tup [.str "store",.int 0,.non],.lst a]=some (.bl false,[])/\Z5 [.lst ts,.lst a]=some (.bl false,[])/\Z5 [.tup [.str "number",.bl true],.lst a]=some (.bl false,[]):=⟨by kernel_rfl,by kernel_rfl,by kernel_rfl,by kernel_rfl,by kernel_rfl,by kernel_rfl⟩
theorem oH(able:List Bool):∃b,ZY [.int 0,.lst (able.map .bl)]=some (.bl b,[]):=by
 cases able with
 |nil=>exact⟨false,by kernel_rfl⟩
 |cons b able=>
  refine⟨b,?_⟩;have h1:(1:Int)<=((b::able).length:Int):=by rw[Bm];lia
  have h2:U3 ((b::able).map cO.bl) 0=some (.bl b):=by rw[XD (by decide) (by rw[Bx,Bm];lia)];rfl
  unfold ZY;rw[bL];unfold WT;generalize b::able=L at*;simp[bF,h1,h2]
theorem Wv{d a:cO}{b:Bool}(h:ZY [d,a]=some (.bl b,[])):XB [.str "row",d,a]=some (.bl b,[]):=by unfold XB;rw[bL];unfold QL;simp[bF,h]
theorem fJ(able:List Bool):Z5 [.tup [.str "plus",.int 0,.int able.length],.lst (able.map .bl)]=some (.bl false,[]):=by
 obtain⟨b,hb⟩:=oH able;have h0:=Wv hb;have hw:bV [.int able.length,.int 0,.int (((able.map cO.bl).length:Int) - 1)]=some (.bl false,[]):=by
  rw[OW];have:¬(able.length:Int)<=((able.map cO.bl).length:Int) - 1:=by rw[Bx];lia
  rw[decide_eq_false this,Sq]
 have h1:=Wv (nC hw);unfold Z5;rw[bL];unfold RF;simp[bF,aY,MD (x:= "plus") (by simp),h0,h1]
theorem C9{rows rest:List cO}{kds:List Kd}{x:cO}{sure:Int}{m:Nat}(h:Bl [] rows kds)(s0:0<=sure)(s1:sure<=64)(hm:m<rows.length)(h40:m+rest.length<40)(hx:∀able:List Bool,able.length=m->Z5 [x,.lst (able.map .bl)]=some (.bl false,[])):bQ [.tup [.int sure,.tup (rows.take m++x::rest)]]=some (.bl false,[]):=by
 obtain⟨k,hk⟩:=h.take m;have hkl:=hk.len;have htl:(rows.take m).length=m:=by rw[By];lia
 obtain⟨s',e2⟩:=DT (x::rest) (.tup [.int sure,.tup (rows.take m++x::rest)]) (.tup (rows.take m++x::rest)) sure hk (by simp;lia) .no;simp only[Ea] at e2;have hr:=hx (k.map JO) (by simp at hkl⊢;lia);have b1:ZJ [.va (.tup [.int sure,.tup (rows.take m++x::rest)]),.va (.int sure),.va (.tup (rows.take m++x::rest)),.ow (.lst ((k.map JO).map .bl)),.va x]=some (.rt (.bl false) [.va (.tup [.int sure,.tup (rows.take m++x::rest)]),.va (.int sure),.va (.tup (rows.take m++x::rest)),.ow (.lst ((k.map JO).map .bl)),.va x]):=by unfold ZJ;generalize (k.map JO).map cO.bl=A at*;generalize rows.take m++x::rest=R at*;simp[hr,cO.hard]
 have om:¬(40:Int)<((rows.take m++x::rest).length:Int):=by simp[htl];lia
 generalize (k.map JO).map cO.bl=A at*;generalize hR:rows.take m++x::rest=R at*;rw[SA,HI,OJ] at e2;have s2:([.va (.tup [.int sure,.tup R]),.va (.int sure),.va (.tup R),.ow (.lst A),s']:Ev).set 4 (.va x)=[.va (.tup [.int sure,.tup R]),.va (.int sure),.va (.tup R),.ow (.lst A),.va x]:=rfl;rw[s2,b1] at e2;unfold bQ;rw[bL,VJ.eq_1];simp[bF,WH,WG,s0,s1,om,e2]
noncomputable def X5(ns:List Int)(n:Nat)(sure:Int)(rows:List cO)(l:List Sl):Ev:=.va (VC ns):: .ow (WO n):: .va (.tup [.int sure,.tup rows]):: .va (.int rows.length)::l
section
variable(ns:List Int)(hl:ns.length<=63){sure:Int}{rows:List cO}{kds:List Kd}(hb:Bl [] rows kds)(s0:0<=sure)(s1:sure<=64)(r40:rows.length<=40)
include hb s0 s1 r40
theorem mQ{n:Nat}{s5 s6 s7 s8 s9:Sl}{r:Nat}{row:cO}(hr:rows[r]?=some row):TY (X5 ns n sure rows [.va (.int r),s5,s6,s7,s8,s9])=some (.nx (X5 ns n sure rows [.va (.int r),.va row,s6,s7,s8,s9])):=by
 have hib:=VM hb s0 s1 r40;have ra:=iR hib hr;have hlt:=(Ag.mp hr).1;have h2:U3 rows (r:Int)=some row:=by rw[XD (by lia) (by lia)];simpa using hr
 have ok:=hb.all row (Ej hr);obtain⟨d,hd,n1,n2⟩:=kX ok;have nd:=KA hd;obtain⟨x,t,rfl,_⟩:=V4 ok;obtain⟨mb,hmb⟩:∃b,Z0 true (.str x) (.tup [.str "store",.str "put"])=some (.bl b):=⟨JO (P0 .w (.tup (.str x::t))),by
  have z:=(mkw2 (x:=x) (t:=t)).symm.trans mkw;cases q:Z0 true (.str x) (.tup [.str "store",.str "put"]) with
  |none=>rw[q] at z;cases z
  |some e=>rw[q] at z;cases z;rfl⟩
 have mw:aX [.tup (.str x::t)]=some (.bl mb,[]):=by rw[mkw2,hmb];rfl
 have m1:XX [.tup [.int sure,.tup rows],.int r]=some (.bl mb,[]):=by unfold XX;rw[bL];unfold PK;simp[bF,ra,mw]
 have m2:XY [.tup [.int sure,.tup rows],.int r]=some (d,[]):=by unfold XY;rw[bL];unfold PL;simp[bF,ra,n2]
 have nb:=KA (d:=.bl mb) (F7 (k:=0));unfold TY X5;simp[h2,m1,m2,hmb,n1,nd,nb]
theorem Wz{n:Nat}{s6 s7 s8 s9:Sl}:∀(ks:List Nat) (s4 s5:Sl),(∀r∈ks,r<rows.length)->∃s4' s5',W6 (gN 4) TY (ks.map λk:Nat=>.int (0+k)) (X5 ns n sure rows [s4,s5,s6,s7,s8,s9])=some (.nx (X5 ns n sure rows [s4',s5',s6,s7,s8,s9]))
 |[],s4,s5,_=>⟨s4,s5,rfl⟩
 |r::ks,s4,s5,h=>by have hr:=h r (Ar ..);obtain⟨s4',s5',ih⟩:=Wz ks (.va (.int r)) (.va rows[r]) λq hq=>h q (An _ hq);refine⟨s4',s5',?_⟩;have e:=mQ ns hb s0 s1 r40 (n:=n) (s5:=s5) (s6:=s6) (s7:=s7) (s8:=s8) (s9:=s9) (Cd hr);rw[Ay,SA,HI,OJ,Int.zero_add];have st:((X5 ns n sure rows [s4,s5,s6,s7,s8,s9]):Ev).set 4 (.va (.int r))=(X5 ns n sure rows [.va (.int r),s5,s6,s7,s8,s9]):=rfl;rw[st,e,MI];exact ih
theorem jZ{n:Nat}{s4 s5 s6 s8 s9:Sl}{w:cO}{k:Nat}(hk:k<=60)(hw:UM k w)(hn:bV [w,.int 0,.int ((rows.length:Int) - 1)]=some (.bl false,[])):Q9 (X5 ns n sure rows [s4,s5,s6,.va w,s8,s9])=some (.nx (X5 ns n sure rows [s4,s5,s6,.va w,s8,s9])):=by
 obtain⟨a0,a1⟩:=oS (VM hb s0 s1 r40) hn;have r2:=Xs (.tup [.str "row",w,.tup [.str "refused",.int 2]]) 2 (by decide) (by decide);have ok:UM (k+3) (.lst [.tup [.str "row",w,.tup [.str "refused",.int 2]],.tup [.str "row",w,.tup [.str "refused",.int 2]]]):=by have hu:∀j,UM (j+1) (.tup [.str "refused",.int 2]):=λj=>T5 (a7 ZM (a7 ZA ZB));have hw2:UM (k+1) w:=⟨hw.1,hw.2.1,Qa hw.2.2⟩;have h1:UM (k+2) (.tup [.str "row",w,.tup [.str "refused",.int 2]]):=T5 (a7 ZM (a7 hw2 (a7 (hu k) ZB)));exact YT (a7 h1 (a7 h1 ZB))
 have r3:=KA ok (by lia);rw[show(2:Int).toNat=2 from rfl,show At 2 (cO.tup [.str "row",w,.tup [.str "refused",.int 2]])=[.tup [.str "row",w,.tup [.str "refused",.int 2]],.tup [.str "row",w,.tup [.str "refused",.int 2]]] from rfl] at r2;unfold Q9 X5;generalize cO.tup [.int sure,.tup rows]=blk at*;simp[a0,a1,aY,Y9,r2,r3]
end
end L2
namespace RR
open PySem L2
theorem pH(ns:List Int)(hl:ns.length<=63):K7 [.lst (ns.map .int)]=some (.bl true,[]):=by
 obtain⟨sure,rows,kds,n,hb,ag,s0,s1,hn,e1⟩:=oJ ns 0 40 hl (by lia) (by lia) (by lia);have r40:rows.length<=40:=by lia
 have hib:=VM hb s0 s1 r40;have oq:=VM (sure:=64) hb (by decide) (by decide) r40;obtain⟨bad,pj,eb⟩:=lR ns n hl (by lia);obtain⟨c0,c1,c2⟩:=lO pj;have hS:cO.lst (ns.map .int)=VC ns:=rfl;have hx0:bF [] 10 [VC ns]=[.va (VC ns),.no,.no,.no,.no,.no,.no,.no,.no,.no]:=rfl;have g1:gl1 [.va (VC ns),.no,.no,.no,.no,.no,.no,.no,.no,.no]=some (.nx [.va (VC ns),.ow (WO 0),.no,.no,.no,.no,.no,.no,.no,.no]):=rfl;have g2:gl2 [.va (VC ns),.ow (WO 0),.no,.no,.no,.no,.no,.no,.no,.no]=some (.nx [.va (VC ns),.ow (WO n),.va (.tup [.int sure,.tup rows]),.no,.no,.no,.no,.no,.no,.no]):=by unfold gl2;simp[e1]
 have g3:gl3 [.va (VC ns),.ow (WO n),.va (.tup [.int sure,.tup rows]),.no,.no,.no,.no,.no,.no,.no]=some (.nx (X5 ns n sure rows [.no,.no,.no,.no,.no,.no])):=by unfold gl3 X5;simp
 have g4:gl4 (X5 ns n sure rows [.no,.no,.no,.no,.no,.no])=some (.nx (X5 ns n sure rows [.no,.no,.no,.no,.no,.no])):=by unfold gl4 X5;simp[hib,oq,nb_t]
 obtain⟨s4,s5,e5⟩:=Wz ns hb s0 s1 r40 (n:=n) (s6:=.no) (s7:=.no) (s8:=.no) (s9:=.no) (Bb rows.length) .no .no λr hr=>Cn.mp hr;have hr:(-4611686018427387904:Int)<=rows.length/\(rows.length:Int)<4611686018427387904:=by lia
 have g5:gl5 (X5 ns n sure rows [.no,.no,.no,.no,.no,.no])=some (.nx (X5 ns n sure rows [s4,s5,.no,.no,.no,.no])):=by have e5:W6 (gN 4) TY (Y8 0 rows.length) (X5 ns n sure rows [.no,.no,.no,.no,.no,.no])=_:=e5;unfold X5 at e5;unfold gl5 X5;generalize cO.tup [.int sure,.tup rows]=blk at*;simp[hr,e5]
 have g6:gl6 (X5 ns n sure rows [s4,s5,.no,.no,.no,.no])=some (.nx (X5 ns (n+1) sure rows [s4,s5,.va bad,.no,.no,.no])):=by unfold gl6 X5;simp[eb]
 have g7:gl7 (X5 ns (n+1) sure rows [s4,s5,.va bad,.no,.no,.no])=some (.nx (X5 ns (n+1) sure rows [s4,s5,.va bad,.no,.no,.no])):=by
  have r2:=Xs (.tup [.str "refused",.int 0]) 2 (by decide) (by decide);have r3:P9 (.lst [.tup [.str "refused",.int 0],.tup [.str "refused",.int 0]]) (.lst [.tup [.str "refused",.int 0],.tup [.str "refused",.int 0]])=some (.bl false):=by kernel_rfl
  rw[show(2:Int).toNat=2 from rfl,show At 2 (cO.tup [.str "refused",.int 0])=[.tup [.str "refused",.int 0],.tup [.str "refused",.int 0]] from rfl] at r2;unfold gl7 X5;simp[c0,c1,c2,nb_f,aY,Y9,r2,r3]
 have w1:bV [.int (-1),.int 0,.int ((rows.length:Int) - 1)]=some (.bl false,[]):=by rw[OW];simp
 have w2:bV [.int rows.length,.int 0,.int ((rows.length:Int) - 1)]=some (.bl false,[]):=by
  rw[OW];have:¬(rows.length:Int)<=(rows.length:Int) - 1:=by lia
  simp[this]
 have g8:gl8 (X5 ns (n+1) sure rows [s4,s5,.va bad,.no,.no,.no])=some (.nx (X5 ns (n+1) sure rows [s4,s5,.va bad,.va (.lst [.int 0]),.no,.no])):=by have t:∀{w:cO},UM 1 w->bV [w,.int 0,.int ((rows.length:Int) - 1)]=some (.bl false,[])->Q9 (X5 ns (n+1) sure rows [s4,s5,.va bad,.va w,.no,.no])=some (.nx (X5 ns (n+1) sure rows [s4,s5,.va bad,.va w,.no,.no])):=λh1 h2=>jZ ns hb s0 s1 r40 (by decide) h1 h2;have t1:=t mS (OX (.inl rfl));have t2:=t ZA w1;have t3:=t (w:=.str "0") ZM (OX (.inr (.inr (.inl ⟨_,rfl⟩))));have t4:=t ZA w2;have t5:=t (w:=.lst [.int 0]) (YT (a7 ZA ZB)) (OX (.inr (.inr (.inr ⟨_,rfl⟩))));unfold X5 at t1 t2 t3 t4 t5;unfold gl8 X5;generalize cO.tup [.int sure,.tup rows]=blk at*;simp[t1,t2,t3,t4,t5]
 rw[hS];unfold K7;rw[bL,mI,hx0,YG,g1,RW,YG,g2,RW,YG,g3,RW,YG,g4,RW,YG,g5,RW,YG,g6,RW,YG,g7,RW,YG,g8,RW,YG];by_cases h0:rows.length=0
 ·have g9:gl9 (X5 ns (n+1) sure rows [s4,s5,.va bad,.va (.lst [.int 0]),.no,.no])=some (.rt (.bl true) (X5 ns (n+1) sure rows [s4,s5,.va bad,.va (.lst [.int 0]),.no,.no])):=by unfold gl9 X5;generalize cO.tup [.int sure,.tup rows]=blk at*;simp[h0]
  rw[g9];rfl
 ·have g9:gl9 (X5 ns (n+1) sure rows [s4,s5,.va bad,.va (.lst [.int 0]),.no,.no])=some (.nx (X5 ns (n+1) sure rows [s4,s5,.va bad,.va (.lst [.int 0]),.no,.no])):=by have h0': ¬rows=[]:=λz=>h0 (by rw[z];rfl);unfold gl9 X5;generalize cO.tup [.int sure,.tup rows]=blk at*;simp[h0']
  have d1:=X0 ns (n+1) rows.length hl (by lia) (by lia);have d2:=P4 ns (n+1) (b:=(rows.length:Int)) (by lia);have d3:=HE ns (n+1) (b:=(rows.length:Int)) (by lia);obtain⟨m,hm⟩:∃m:Nat,JZ ns (n+1) rows.length=m:=⟨_,(Oi d2).symm⟩;rw[hm] at d1 d2 d3;have hml:m<rows.length:=by lia
  have hat:U3 rows (m:Int)=some rows[m]:=by rw[XD (by lia) (by lia)];simp[hml]
  obtain⟨x0,t0,ht0,_⟩:=V4 (hb.all rows[m] (Jo hml));have hol:SZ rows[m]=some (.lst (.str x0::t0)):=by rw[ht0];rfl
  have g10:gl10 (X5 ns (n+1) sure rows [s4,s5,.va bad,.va (.lst [.int 0]),.no,.no])=some (.nx (X5 ns (n+2) sure rows [s4,s5,.va bad,.va (.lst [.int 0]),.va (.int m),.no])):=by unfold gl10 X5;generalize cO.tup [.int sure,.tup rows]=blk at*;simp[d1]
  have g11:gl11 (X5 ns (n+2) sure rows [s4,s5,.va bad,.va (.lst [.int 0]),.va (.int m),.no])=some (.nx (X5 ns (n+2) sure rows [s4,s5,.va bad,.va (.lst [.int 0]),.va (.int m),.ow (.lst [.tup [.str "plus",.int 0,.int m],.tup [.str "number",.int (-1)],.tup [.str "load",.str "0"],.tup [.str "plus",.int 0],.tup [.str "store",.int 0,.non],.lst (.str x0::t0)])])):=by unfold gl11 X5;simp[hat,hol]
  have g12:gl12 (X5 ns (n+2) sure rows [s4,s5,.va bad,.va (.lst [.int 0]),.va (.int m),.ow (.lst [.tup [.str "plus",.int 0,.int m],.tup [.str "number",.int (-1)],.tup [.str "load",.str "0"],.tup [.str "plus",.int 0],.tup [.str "store",.int 0,.non],.lst (.str x0::t0)])])=some (.nx (X5 ns (n+2) sure rows [s4,s5,.va bad,.va (.lst [.int 0]),.va (.int m),.ow (.lst [.tup [.str "plus",.int 0,.int m],.tup [.str "number",.int (-1)],.tup [.str "load",.str "0"],.tup [.str "plus",.int 0],.tup [.str "store",.int 0,.non],.lst (.str x0::t0),.tup [.str "number",.bl true]])])):=by unfold gl12 X5;simp[cO.hard]
  obtain⟨x,hx,ex⟩:=W8 ns (n+2) [.tup [.str "plus",.int 0,.int m],.tup [.str "number",.int (-1)],.tup [.str "load",.str "0"],.tup [.str "plus",.int 0],.tup [.str "store",.int 0,.non],.lst (.str x0::t0),.tup [.str "number",.bl true]] hl (by lia) (by simp);have hxn:∀able:List Bool,able.length=m->Z5 [x,.lst (able.map .bl)]=some (.bl false,[]):=λable ha=>by
   obtain⟨r1,r2,r3,r4,r5,r6⟩:=eU (able.map .bl) (.str x0::t0);simp only[Ak,Aw,or_false] at hx;rcases hx with rfl|rfl|rfl|rfl|rfl|rfl|rfl
   ·rw[<-ha];exact fJ able
   ·exact r1
   ·exact r2
   ·exact r3
   ·exact r4
   ·exact r5
   ·exact r6
  have sp:=C9 (x:=x) (rest:=rows.drop (m+1)) hb s0 s1 hml (by rw[Jn];lia) hxn;generalize hL:[cO.tup [.str "plus",.int 0,.int m],.tup [.str "number",.int (-1)],.tup [.str "load",.str "0"],.tup [.str "plus",.int 0],.tup [.str "store",.int 0,.non],.lst (.str x0::t0),.tup [.str "number",.bl true]]=L at*;have g13:gl13 (X5 ns (n+2) sure rows [s4,s5,.va bad,.va (.lst [.int 0]),.va (.int m),.ow (.lst L)])=some (.nx (X5 ns (n+3) sure rows [.va x,s5,.va bad,.va (.lst [.int 0]),.va (.int m),.va (.lst L)])):=by unfold gl13 sFrz X5;show aD 4 (xV (cA 3 [1] bW (aE (fV 0) (aO 1 (aE (fV 9) bT))))) (X5 ns (n+2) sure rows [s4,s5,.va bad,.va (.lst [.int 0]),.va (.int m),.va (.lst L)])=_;simp[X5,ex]
  have k1:=T1 (ds:=rows) (k:=m);have k2:=V0 (ds:=rows) (k:=m+1) (by lia);have g14:gl14 (X5 ns (n+3) sure rows [.va x,s5,.va bad,.va (.lst [.int 0]),.va (.int m),.va (.lst L)])=some (.rt (.bl true) (X5 ns (n+3) sure rows [.va x,s5,.va bad,.va (.lst [.int 0]),.va (.int m),.va (.lst L)])):=by
   rw[show(((m+1:Nat):Int))=(m:Int)+1 by lia] at k2;have l1:(rows.take m).length<=40:=by rw[By];lia
   have l2:(rows.drop (m+1)).length<=40:=by rw[Jn];lia
   unfold gl14 X5;generalize rows.take m=A at*;generalize rows.drop (m+1)=B at*;have p1:Z6 (.tup A) (.tup [x])=some (.tup (A++[x])):=by simp only[Z6];rw[if_pos (by simp;lia)]
   have p2:Z6 (.tup (A++[x])) (.tup B)=some (.tup (A++[x]++B)):=by simp only[Z6];rw[if_pos (by simp;lia)]
   simp[k1,k2,p1,p2,sp,ib_f]
  rw[g9,RW,YG,g10,RW,YG,g11,RW,YG,g12,RW,YG,g13,RW,g14];rfl
end RR
namespace KK
open PySem PySem.W
noncomputable abbrev g(a i:Nat)(n:Us)(d m:Ul):Uy:=⟨.type "function",none,.func (fnOf n n (L2.YR (RR.top i)) (L2.aP (RR.top i)) (L2.cL (RR.top i)) d .none .none m none (.ref (a - 1)) .none),#[]⟩
theorem p(P:Qg)(a i:Nat)(n:Us)(m:Ul)(h1:nsIn (K P) Up n=some (some (.ref a)):=by kernel_rfl)(h2:(K P).lookup a=some (g a i n .none m):=by kernel_rfl)(h3:codeIn (K P) (.ref (a - 1)) n=true:=by kernel_rfl):L2.A4 (K P) n (RR.top i) a:=L2.a4 h1 h2 h3 (by unfold keepIn;simp only[h2])
end KK
namespace RR
open PySem L2
abbrev Zn(K:Ai)(x:Us):Prop:=Et K Up x=some none
abbrev Gn(K:Ai)(x:Us)(v:Ul):Prop:=Et K Up x=some (some v)
theorem G3{α:Type}{P:List α->Prop}(z:∀a,P [a]):∀us:List α,us.length=1->P us
 |[a],_=>z a
theorem QE{α:Type}{P:List α->Prop}(z:∀a b,P [a,b]):∀us:List α,us.length=2->P us
 |[a,b],_=>z a b
theorem G4{α:Type}{P:List α->Prop}(z:∀a b c,P [a,b,c]):∀us:List α,us.length=3->P us
 |[a,b,c],_=>z a b c
theorem Len4{α:Type}{P:List α->Prop}(z:∀a b c d,P [a,b,c,d]):∀us:List α,us.length=4->P us
 |[a,b,c,d],_=>z a b c d
theorem Len5{α:Type}{P:List α->Prop}(z:∀a b c d e,P [a,b,c,d,e]):∀us:List α,us.length=5->P us
 |[a,b,c,d,e],_=>z a b c d e
theorem Len6{α:Type}{P:List α->Prop}(z:∀a b c d e f,P [a,b,c,d,e,f]):∀us:List α,us.length=6->P us
 |[a,b,c,d,e,f],_=>z a b c d e f
theorem CI{K:Ai}{fd:Cu}(f:Um)(F:X8 K "__init__" "NoRow.__init__" (mem 4 0) f fd):K8 K "NoRow.__init__" (mem 4 0) "row" "there is no such row" f fd:=
 ⟨F,YQ,F.binds λ_ _ _ _ _ _=>QE λ_ _=>rfl,rfl,rfl,rfl,by decide,by decide,⟨_,_,_,_,_,_,_,_,_,_,_,_,rfl,λ_ _=>rfl,λ_ _=>rfl,λ_ _=>rfl⟩⟩
theorem zJ7{l:Tw}{w:Uu}{K:Ai}{h:Uw}{mg:Us->Option Ul}{fa:Um}(X:K.In h)(G:h.Ns Up mg)(hfa:mg "law"=some (.ref fa)){f_x0 f_x1 f_x2 f_x3 f_x4 f_x5 f_x6 f_x7 f_x8 f_x9 f_x10 f_x11 f_x12 f_x13 f_x14 f_x15 f_x16 f_x18 f_x17 f_x20 f_x21 f_x22 f_x25 f_x26 f_x19 f_x23 f_x24 f_x27 f_x28 f_x29:Um}{kV_x29 dc_x29 pm_x29 cd_x29 ct_x29:Ul}{t1 t2 t3 t4 t5 t6 t7 t8:Vh}{a9:Um}{t10 t11 t12 t13 t14:Vh}{a15:Um}{t16 t17 t18 t19 t20 t21 t22:Vh}{a23:Um}{t24 t25 t26:Vh}{a27:Um}{t28:Vh}{a29:Um}{t30 t31 t32:Vh}{a33:Um}{t34 t35:Vh}{a36:Um}{t37 t38 t39:Vh}{a40 a41:Um}{h42 h43 h44 h45 h46 h47:Int}{t48 t49:Vh}{a50 a51 a52 a53 a54 a55 a56 a57 a58 a59 a60 a61 a62 a63 a64:Um}(ng:A4 K "is_whole" (top 19) f_x0)(mz:A4 K "parts_of" (top 27) f_x1)(my:A4 K "makes_word" (top 28) f_x2)(mx:A4 K "names_of" (top 29) f_x3)(mv:A4 K "may_name" (top 30) f_x4)(mq:A4 K "fits" (top 31) f_x5)(mo:A4 K "is_row" (top 32) f_x6)(mn:A4 K "is_block" (top 33) f_x7)(k7:A4 K "row_at" (top 34) f_x8)(j7:A4 K "makes" (top 35) f_x9)(gc:A4 K "named" (top 36) f_x10)(l6:A4 K "_law_cell_at" (top 38) f_x11)(l5:A4 K "_law_mixed" (top 39) f_x12)(l0:A4 K "_law_draw" (top 40) f_x13)(kz:A4 K "_law_pick" (top 41) f_x14)(ky:A4 K "_law_place" (top 42) f_x15)(kx:A4 K "_law_row" (top 43) f_x16)(kr:A4 K "_law_next" (top 45) f_x18)(ku:A4 K "_law_rows" (top 44) f_x17)(ko:A4 K "_law_names" (top 47) f_x20)(km:A4 K "_law_may" (top 48) f_x21)(kl:A4 K "_law_must" (top 49) f_x22)(kg:A4 K "_law_mixed_order" (top 52) f_x25)(kf:A4 K "_law_renamed" (top 53) f_x26)(kq:A4 K "_law_block" (top 46) f_x19)(kj:A4 K "_law_which" (top 50) f_x23)(ki:A4 K "_law_none" (top 51) f_x24)(k9:A4 K "_law_ask" (top 54) f_x27)(k8:A4 K "_law_named" (top 55) f_x28)(mf:Et K Up "law"=some (some (.ref f_x29)))(ln:K.lookup f_x29=some ⟨.type "function",none,.func (Mc "law" "law" (YR (top 56)) (aP (top 56)) (cL (top 56)) .none kV_x29 dc_x29 pm_x29 none cd_x29 ct_x29),#[]⟩)(me:Op K cd_x29 "law"=true)(lq:Hh K (.ref f_x29)=true)(jy:Zn K "len")(j6:Zn K "range")(jw:Zn K "min")(jx:Zn K "max")(ji:Zn K "list")(j5:Zn K "tuple")(gu:Zn K "sorted")(de:Zn K "isinstance")(jk:Zn K "bool")(jz:Zn K "int")(jv:Zn K "str")(dn:Zn K "enumerate")(ju:Zn K "zip")(k4:Zn K "all")(jj:Zn K "dict")(df:Zn K "ValueError")(f6:Gn K "MOST_WORD" (.int 999 t1))(nh:K.lookup a9=some ⟨.type "tuple",none,.seq #[.str "plus" t2,.str "minus" t3,.str "times" t4,.str "least" t5,.str "most" t6,.str "less" t7,.str "over" t8] 0,#[]⟩)(j9:Gn K "DEEDS" (.ref a9))(f7:Gn K "MOST_SURE" (.int 64 t10))(f8:Gn K "MOST_ROWS" (.int 40 t11))(dj:Gn K "MOST_PLACE" (.int 63 t12))(li:K.lookup a15=some ⟨.type "tuple",none,.seq #[.str "row" t13,.str "row" t14] 0,#[]⟩)(dk:Gn K "DEED_PARTS" (.ref a15))(lh:K.lookup a23=some ⟨.type "tuple",none,.seq #[.str "word" t22] 0,#[]⟩)(lg:K.lookup a27=some ⟨.type "tuple",none,.seq #[.str "row" t24,.str "row" t25,.str "row" t26] 0,#[]⟩)(lf:K.lookup a29=some ⟨.type "tuple",none,.seq #[.str "place" t28] 0,#[]⟩)(lc:K.lookup a33=some ⟨.type "tuple",none,.seq #[.str "place" t30,.str "row" t31,.str "row" t32] 0,#[]⟩)(lb:K.lookup a36=some ⟨.type "tuple",none,.seq #[.str "place" t34,.str "row" t35] 0,#[]⟩)(la:K.lookup a40=some ⟨.type "tuple",none,.seq #[.str "place" t37,.str "row" t38,.str "row" t39] 0,#[]⟩)(l9:K.lookup a41=some ⟨.type "dict",none,.dict #[⟨h42,.str "number" t16,.ref a23⟩,⟨h43,.str "pick" t17,.ref a27⟩,⟨h44,.str "load" t18,.ref a29⟩,⟨h45,.str "take" t19,.ref a33⟩,⟨h46,.str "store" t20,.ref a36⟩,⟨h47,.str "put" t21,.ref a40⟩] 6,#[]⟩)(lm:(a41==Fy)=false)(cq:Gn K "OTHER_PARTS" (.ref a41))(l8:K.lookup a50=some ⟨.type "tuple",none,.seq #[.str "store" t48,.str "put" t49] 0,#[]⟩)(gn:Gn K "WRITERS" (.ref a50))(cx:Gn K "Nothing" (.ref a51))(cj:Gn K "NotValid" (.ref a52))(cw:Gn K "TooLong" (.ref a53))(cv:Gn K "TooMany" (.ref a54))(eo:Gn K "NoName" (.ref a55))(eg:Gn K "NoText" (.ref a56))(ez:Gn K "NoLoop" (.ref a57))(ee:Gn K "NoTree" (.ref a58))(cg:Gn K "NoProgram" (.ref a59))(en:Gn K "NoPlan" (.ref a60))(cy:Gn K "NoLanes" (.ref a61))(gf:Gn K "NoRow" (.ref a62))(cz:Gn K "NoCells" (.ref a63))(d7:Gn K "NoBlock" (.ref a64))(bo:XE K "NoBlock" a64)(bp:XZ K "NoRow" "row" a62)(gv:xqOk K OY "NoRow" a62=true)(xk:xiOk K OY UY=true):∃fd:Cu,(∀(s:Ad) (v:Ul),Po s fd ⟨[v],[]⟩ [("_law_script",v)])/\∀base:Uw,K.In base->base.Ns Up mg->Z7 l.prog w K mg base CX0 9 fa fd ["_law_script"] (spV K [] 1 K7):=by
 have e:=hfa.symm.trans (Dx X G mf);cases e;have T:Txt K mg:=⟨λ_ _ e=>Dx X G e,De X G jy,De X G j6,De X G jw,De X G jx,De X G ji,De X G j5,De X G gu,De X G de,De X G jk,De X G jz,De X G jv,De X G dn,De X G ju,De X G k4,De X G jj,De X G df,⟨_,.ref a9,Dx X G j9,rfl,λ_ _ _=>(.tup (xs:=[.str "plus",.str "minus",.str "times",.str "least",.str "most",.str "less",.str "over"]) (.inr ⟨_,_,_,nh,rfl,rfl,(by show 7<=sizeLine;decide),(.cons ⟨_,rfl⟩ (.cons ⟨_,rfl⟩ (.cons ⟨_,rfl⟩ (.cons ⟨_,rfl⟩ (.cons ⟨_,rfl⟩ (.cons ⟨_,rfl⟩ (.cons ⟨_,rfl⟩ .nil)))))))⟩) (.cons (.str _) (.cons (.str _) (.cons (.str _) (.cons (.str _) (.cons (.str _) (.cons (.str _) (.cons (.str _) .nil))))))))⟩,⟨_,.ref a15,Dx X G dk,rfl,λ_ _ _=>(.tup (xs:=[.str "row",.str "row"]) (.inr ⟨_,_,_,li,rfl,rfl,(by show 2<=sizeLine;decide),(.cons ⟨_,rfl⟩ (.cons ⟨_,rfl⟩ .nil))⟩) (.cons (.str _) (.cons (.str _) .nil)))⟩,⟨_,.int 63,Dx X G dj,⟨_,rfl⟩,λ_ _ _=>(.int _)⟩,⟨_,.int 40,Dx X G f8,⟨_,rfl⟩,λ_ _ _=>(.int _)⟩,⟨_,.int 64,Dx X G f7,⟨_,rfl⟩,λ_ _ _=>(.int _)⟩,⟨_,.int 999,Dx X G f6,⟨_,rfl⟩,λ_ _ _=>(.int _)⟩,⟨_,.ref a41,Dx X G cq,rfl,λ_ _ _=>(.ktb (D:=[("number",.ref a23),("pick",.ref a27),("load",.ref a29),("take",.ref a33),("store",.ref a36),("put",.ref a40)]) ⟨lm,_,_,_,l9,⟨rfl,rfl,rfl⟩,rfl,(.cons rfl rfl (.cons rfl rfl (.cons rfl rfl (.cons rfl rfl (.cons rfl rfl (.cons rfl rfl .nil))))))⟩ (.cons (.tup (xs:=[.str "word"]) (.inr ⟨_,_,_,lh,rfl,rfl,(by show 1<=sizeLine;decide),(.cons ⟨_,rfl⟩ .nil)⟩) (.cons (.str _) .nil)) (.cons (.tup (xs:=[.str "row",.str "row",.str "row"]) (.inr ⟨_,_,_,lg,rfl,rfl,(by show 3<=sizeLine;decide),(.cons ⟨_,rfl⟩ (.cons ⟨_,rfl⟩ (.cons ⟨_,rfl⟩ .nil)))⟩) (.cons (.str _) (.cons (.str _) (.cons (.str _) .nil)))) (.cons (.tup (xs:=[.str "place"]) (.inr ⟨_,_,_,lf,rfl,rfl,(by show 1<=sizeLine;decide),(.cons ⟨_,rfl⟩ .nil)⟩) (.cons (.str _) .nil)) (.cons (.tup (xs:=[.str "place",.str "row",.str "row"]) (.inr ⟨_,_,_,lc,rfl,rfl,(by show 3<=sizeLine;decide),(.cons ⟨_,rfl⟩ (.cons ⟨_,rfl⟩ (.cons ⟨_,rfl⟩ .nil)))⟩) (.cons (.str _) (.cons (.str _) (.cons (.str _) .nil)))) (.cons (.tup (xs:=[.str "place",.str "row"]) (.inr ⟨_,_,_,lb,rfl,rfl,(by show 2<=sizeLine;decide),(.cons ⟨_,rfl⟩ (.cons ⟨_,rfl⟩ .nil))⟩) (.cons (.str _) (.cons (.str _) .nil))) (.cons (.tup (xs:=[.str "place",.str "row",.str "row"]) (.inr ⟨_,_,_,la,rfl,rfl,(by show 3<=sizeLine;decide),(.cons ⟨_,rfl⟩ (.cons ⟨_,rfl⟩ (.cons ⟨_,rfl⟩ .nil)))⟩) (.cons (.str _) (.cons (.str _) (.cons (.str _) .nil)))) .nil)))))))⟩,⟨_,.ref a50,Dx X G gn,rfl,λ_ _ _=>(.tup (xs:=[.str "store",.str "put"]) (.inr ⟨_,_,_,l8,rfl,rfl,(by show 2<=sizeLine;decide),(.cons ⟨_,rfl⟩ (.cons ⟨_,rfl⟩ .nil))⟩) (.cons (.str _) (.cons (.str _) .nil)))⟩,⟨_,.ref a51,Dx X G cx,rfl,λ_ _ _=>.fn cx⟩,⟨_,.ref a52,Dx X G cj,rfl,λ_ _ _=>.fn cj⟩,⟨_,.ref a53,Dx X G cw,rfl,λ_ _ _=>.fn cw⟩,⟨_,.ref a54,Dx X G cv,rfl,λ_ _ _=>.fn cv⟩,⟨_,.ref a55,Dx X G eo,rfl,λ_ _ _=>.fn eo⟩,⟨_,.ref a56,Dx X G eg,rfl,λ_ _ _=>.fn eg⟩,⟨_,.ref a57,Dx X G ez,rfl,λ_ _ _=>.fn ez⟩,⟨_,.ref a58,Dx X G ee,rfl,λ_ _ _=>.fn ee⟩,⟨_,.ref a59,Dx X G cg,rfl,λ_ _ _=>.fn cg⟩,⟨_,.ref a60,Dx X G en,rfl,λ_ _ _=>.fn en⟩,⟨_,.ref a61,Dx X G cy,rfl,λ_ _ _=>.fn cy⟩,⟨_,.ref a62,Dx X G gf,rfl,λ_ _ _=>.fn gf⟩,⟨_,.ref a63,Dx X G cz,rfl,λ_ _ _=>.fn cz⟩,⟨_,.ref a64,Dx X G d7,rfl,λ_ _ _=>.fn d7⟩,⟨_,.ref f_x10,Dx X G gc.ns,rfl,λ_ _ _=>.fn gc.ns⟩,⟨_,.ref f_x9,Dx X G j7.ns,rfl,λ_ _ _=>.fn j7.ns⟩,⟨_,bo,Dx X G bo.xc.at_⟩,⟨_,bp,Dx X G bp.xc.at_⟩,⟨_,Dx X G bp.xc.at_,XQ.of gv⟩,XI.of (Nj.mpr ⟨⟨_,bo.xc⟩,Nj.mpr ⟨⟨_,bp.xc⟩,nofun⟩⟩) xk⟩
 have mh:=J3 (st:=top 56) ln me lq;refine⟨Mc "law" "law" (YR (top 56)) (aP (top 56)) (cL (top 56)) .none kV_x29 dc_x29 pm_x29 none cd_x29 ct_x29,λs v=>.of_eq rfl,λbase _ _=>?_⟩;have bn:bI l.prog w K mg base "is_whole" 1 Qx0 [] bV f_x0:=X9 X G ng (λU=>nA U T) (G4 λ_ _ _=>rfl);have gq:bI l.prog w K mg base "parts_of" 1 Qx1 [] aK f_x1:=X9 X G mz (λU=>Za U T) (G3 λ_=>rfl);have cu:bI l.prog w K mg base "makes_word" 1 Qx2 [] aX f_x2:=X9 X G my (λU=>jM U T) (G3 λ_=>rfl);have fw:bI l.prog w K mg base "names_of" 2 Qx3 [] YN f_x3:=X9 X G mx (λU=>eC U T gq) (G3 λ_=>rfl);have jt:bI l.prog w K mg base "may_name" 2 Qx4 [] ZY f_x4:=X9 X G mv (λU=>cV U T bn) (QE λ_ _=>rfl);have js:bI l.prog w K mg base "fits" 3 Qx5 [] XB f_x5:=X9 X G mq (λU=>lI U T bn jt) (G4 λ_ _ _=>rfl);have jr:bI l.prog w K mg base "is_row" 4 Qx6 [] Z5 f_x6:=X9 X G mo (λU=>jJ U T gq js) (QE λ_ _=>rfl);have cb:bI l.prog w K mg base "is_block" 5 Qx7 [] bQ f_x7:=X9 X G mn (λU=>pJ U T bn cu jr) (G3 λ_=>rfl);have da:M0 l.prog w K mg base "row_at" 6 BP YU f_x8:=Vp X G k7 (λU=>oT U T bn cb) (QE λ_ _=>rfl);have cr:bI l.prog w K mg base "row_at" 6 BP [] ZF f_x8:=X9 X G k7 (λU=>oR U T bn cb) (QE λ_ _=>rfl);have j4:M0 l.prog w K mg base "makes" 7 Qx9 TR f_x9:=Vp X G j7 (λU=>oE U T cu cr da) (QE λ_ _=>rfl);have gp:bI l.prog w K mg base "makes" 7 Qx9 [] XX f_x9:=X9 X G j7 (λU=>dJ U T cu cr) (QE λ_ _=>rfl);have g0:M0 l.prog w K mg base "named" 7 NG TU f_x10:=Vp X G gc (λU=>lT U T fw cr da) (QE λ_ _=>rfl);have d9:bI l.prog w K mg base "named" 7 NG [] XY f_x10:=X9 X G gc (λU=>fG U T fw cr) (QE λ_ _=>rfl);have j3:bI l.prog w K mg base "_law_cell_at" 1 Qx11 [] Z2 f_x11:=X9 X G l6 (λU=>kF U T) (QE λ_ _=>rfl);have iz:bI l.prog w K mg base "_law_mixed" 2 Qx12 [] YK f_x12:=X9 X G l5 (λU=>mO U T j3) (G4 λ_ _ _=>rfl);have ap:bI l.prog w K mg base "_law_draw" 3 JR [1] bR f_x13:=X9 X G l0 (λU=>iZ U T iz) (G4 λ_ _ _=>rfl);have ak:bI l.prog w K mg base "_law_pick" 4 PU [1] bW f_x14:=X9 X G kz (λU=>jF U T ap) (G4 λ_ _ _=>rfl);have cm:bI l.prog w K mg base "_law_place" 5 Qx15 [1,2] aF f_x15:=X9 X G ky (λU=>gP U T ap ak) (Len5 λ_ _ _ _ _=>rfl);have iy:bI l.prog w K mg base "_law_row" 6 Qx16 [1,3] WY f_x16:=X9 X G kx (λU=>jE U T ap ak cm) (Len5 λ_ _ _ _ _=>rfl);have iu:bI l.prog w K mg base "_law_next" 5 Qx18 [1,4] ZI f_x18:=X9 X G kr (λU=>mB U T ak) (Len6 λ_ _ _ _ _ _=>rfl);have iw:bI l.prog w K mg base "_law_rows" 7 Qx17 [1] X2 f_x17:=X9 X G ku (λU=>oP U T ak iy iu) (Len4 λ_ _ _ _=>rfl);have ip:bI l.prog w K mg base "_law_names" 1 Qx20 [] Z3 f_x20:=X9 X G ko (λU=>dY U T) (G3 λ_=>rfl);have d8:bI l.prog w K mg base "_law_may" 1 Qx21 [] Y3 f_x21:=X9 X G km (λU=>iD U T) (QE λ_ _=>rfl);have io:bI l.prog w K mg base "_law_must" 2 Qx22 [] X1 f_x22:=X9 X G kl (λU=>Zr U T ip d8) (G3 λ_=>rfl);have il:bI l.prog w K mg base "_law_mixed_order" 5 Qx25 [1] aA f_x25:=X9 X G kg (λU=>fM U T ak io) (G4 λ_ _ _=>rfl);have ik:bI l.prog w K mg base "_law_renamed" 1 Qx26 [] bO f_x26:=X9 X G kf (λU=>iM U T) (QE λ_ _=>rfl);have iq:bI l.prog w K mg base "_law_block" 8 Qx19 [1] ZN f_x19:=X9 X G kq (λU=>cZ U T ap ak iw il ik) (G4 λ_ _ _=>rfl);have dm:DefH l.prog w K mg base "_law_which" 1 Qx23 (spV K [] 1 YL) f_x23:=cX X G kj (λU=>iF U T) (G3 λ_=>rfl);have im:bI l.prog w K mg base "_law_none" 5 Qx24 [1] YM f_x24:=X9 X G ki (λU=>nO U T ak) (QE λ_ _=>rfl);have gl:bI l.prog w K mg base "_law_ask" 8 Qx27 [] Z9 f_x27:=X9 X G k9 (λU=>gY U T gp d9 dm j4 g0) (G4 λ_ _ _=>rfl);have ij:bI l.prog w K mg base "_law_named" 1 Qx28 [] XT f_x28:=X9 X G k8 (λU=>hZ U T) (G3 λ_=>rfl);exact lS mh T cb gp d9 ap ak iq im gl ij
theorem AE(K:Ai)(H:Hp)(a:Um)(ns:List Int)(hl:ns.length<=63)(h:X6 K H a (ns.map V.int)):spV K [] 1 K7 [.ref a] H (λv _=>v=.bl true) λ_ _ _=>False:=by
 have hr:bY K (Zp (λ_=>False) [] [.ref a]) H (ns.map V.int) (ns.map cO.int):=by
  clear h hl;induction ns with
  |nil=>exact .nil
  |cons n ns ih=>exact .cons (.int n) ih
 have hz:∀b,¬Zp (λ_=>False) [] [V.ref a] b:=λb h=>by
  rcases h with h|⟨i,h,_⟩
  ·exact h
  ·cases h
 refine⟨λ_=>False,[.lst (ns.map .int)],.bl true,[],rfl,⟨rfl,(λi h=>nomatch h),λi d hi e=>?_,(λi d h=>nomatch h),(λi j b h=>nomatch h),λa h=>h.elim⟩,pH ns hl,λv H' _ _ r=>by cases r;rfl⟩;cases i with
 |zero=>
  cases e;refine⟨_,rfl,?_⟩;rcases h with(h|⟨o,h⟩)|h
  ·exact .lst h (hz a) hr
  ·exact .fzl (.inl ⟨o,h⟩) hr
  ·exact .fzl (.inr h) hr
 |succ i=>cases i<;>cases e
end RR
open PySem PySem.W PyProof.Rows
set_option maxRecDepth 100000 in
set_option maxHeartbeats 0 in
theorem PySem.Challenge.cw_lanepacks_k01_blocks_holds : PySem.Challenge.rw_lanepacks_k01_blocks.Holds := by
 w_on;refine holds_law KK.said λsaid=>?_
 refine holds_open (q:=KK.view) (loose:=KK.lo) (Xt:=KK.X) (XP:=XL KK.view []) (Yf:=KK.H.obs) (Ya:=KK.H.val) (YP:=KK.H.says) (N:=8904) KK.hl (Hook.of _) (Hook.keeps _) (λs e=>xl_of s (Dn.mp e).1) XL.keeps (by rfl) (by rfl) (by rfl) (λs e=>recFacts_of (Dn.mp e).2) (by rfl) (by first|assumption|decide+kernel) (by decide+kernel) ⟨rfl,rfl,rfl,rfl,rfl,by decide+kernel⟩ ?hw ?hc
 case hw=>w_witness2
 refine L2.A7 (l:=Na) (n:=63) (k:=9) (x:= "_law_script") (CX:=L2.CX0) (sp:=λK=>L2.spV K [] 1 L2.K7) rfl (by decide) rfl ⟨rfl,by decide,by decide⟩ (λw h Y=>W.kIn_of (K:=KK.K) (as:=KK.A) (e:=KK.kA) Y) ?F (λK H a ns hl _ hS=>RR.AE K H a ns hl hS) λ_ _ _ _ z=>z
 case F=>
  intro w mg fa h KX G hmg;exact RR.zJ7 (K:=KK.K w.params) (f_x0:=224) (f_x1:=240) (f_x2:=247) (f_x3:=252) (f_x4:=259) (f_x5:=266) (f_x6:=271) (f_x7:=278) (f_x8:=285) (f_x9:=292) (f_x10:=299) (f_x11:=306) (f_x12:=313) (f_x13:=320) (f_x14:=327) (f_x15:=334) (f_x16:=339) (f_x18:=353) (f_x17:=346) (f_x20:=365) (f_x21:=370) (f_x22:=375) (f_x25:=394) (f_x26:=399) (f_x19:=358) (f_x23:=382) (f_x24:=389) (f_x27:=406) (f_x28:=413) (f_x29:=418) (kV_x29:=.none) (dc_x29:=.none) (pm_x29:=.str "law_lanepacks_k01_blocks" 598) (cd_x29:=.ref 417) (ct_x29:=.none) (t1:=460) (t2:=462) (t3:=463) (t4:=464) (t5:=465) (t6:=466) (t7:=467) (t8:=468) (a9:=217) (t10:=481) (t11:=483) (t12:=485) (t13:=487) (t14:=488) (a15:=225) (t16:=490) (t17:=492) (t18:=496) (t19:=498) (t20:=502) (t21:=505) (t22:=491) (a23:=227) (t24:=493) (t25:=494) (t26:=495) (a27:=228) (t28:=497) (a29:=229) (t30:=499) (t31:=500) (t32:=501) (a33:=230) (t34:=503) (t35:=504) (a36:=231) (t37:=506) (t38:=507) (t39:=508) (a40:=232) (a41:=226) (h42:=Ex w.params "number") (h43:=Ex w.params "pick") (h44:=Ex w.params "load") (h45:=Ex w.params "take") (h46:=Ex w.params "store") (h47:=Ex w.params "put") (t48:=516) (t49:=517) (a50:=233) (a51:=214) (a52:=202) (a53:=183) (a54:=171) (a55:=159) (a56:=140) (a57:=128) (a58:=116) (a59:=104) (a60:=92) (a61:=80) (a62:=68) (a63:=49) (a64:=37) KX G hmg
   (KK.p _ 224 19 "is_whole" (.str "lanepacks.words" 458))
   (KK.p _ 240 27 "parts_of" (.str "lanepacks.blocks" 479))
   (KK.p _ 247 28 "makes_word" (.str "lanepacks.blocks" 479))
   (KK.p _ 252 29 "names_of" (.str "lanepacks.blocks" 479))
   (KK.p _ 259 30 "may_name" (.str "lanepacks.blocks" 479))
   (KK.p _ 266 31 "fits" (.str "lanepacks.blocks" 479))
   (KK.p _ 271 32 "is_row" (.str "lanepacks.blocks" 479))
   (KK.p _ 278 33 "is_block" (.str "lanepacks.blocks" 479))
   (KK.p _ 285 34 "row_at" (.str "lanepacks.blocks" 479))
   (KK.p _ 292 35 "makes" (.str "lanepacks.blocks" 479))
   (KK.p _ 299 36 "named" (.str "lanepacks.blocks" 479))
   (KK.p _ 306 38 "_law_cell_at" KK.m)
   (KK.p _ 313 39 "_law_mixed" KK.m)
   (KK.p _ 320 40 "_law_draw" KK.m)
   (KK.p _ 327 41 "_law_pick" KK.m)
   (KK.p _ 334 42 "_law_place" KK.m)
   (KK.p _ 339 43 "_law_row" KK.m)
   (KK.p _ 353 45 "_law_next" KK.m)
   (KK.p _ 346 44 "_law_rows" KK.m)
   (KK.p _ 365 47 "_law_names" KK.m)
   (KK.p _ 370 48 "_law_may" KK.m)
   (KK.p _ 375 49 "_law_must" KK.m)
   (KK.p _ 394 52 "_law_mixed_order" KK.m)
   (KK.p _ 399 53 "_law_renamed" KK.m)
   (KK.p _ 358 46 "_law_block" KK.m)
   (KK.p _ 382 50 "_law_which" KK.m)
   (KK.p _ 389 51 "_law_none" KK.m)
   (KK.p _ 406 54 "_law_ask" KK.m)
   (KK.p _ 413 55 "_law_named" KK.m)
   (by kernel_rfl)
   (by kernel_rfl)
   (by kernel_rfl)
   (by kernel_rfl)
   (by kernel_rfl)
   (by kernel_rfl)
   (by kernel_rfl)
   (by kernel_rfl)
   (by kernel_rfl)
   (by kernel_rfl)
   (by kernel_rfl)
   (by kernel_rfl)
   (by kernel_rfl)
   (by kernel_rfl)
   (by kernel_rfl)
   (by kernel_rfl)
   (by kernel_rfl)
   (by kernel_rfl)
   (by kernel_rfl)
   (by kernel_rfl)
   (by kernel_rfl)
   (by kernel_rfl)
   (by kernel_rfl)
   (by kernel_rfl)
   (by kernel_rfl)
   (by kernel_rfl)
   (by kernel_rfl)
   (by kernel_rfl)
   (by kernel_rfl)
   (by kernel_rfl)
   (by kernel_rfl)
   (by kernel_rfl)
   (by kernel_rfl)
   (by kernel_rfl)
   (by kernel_rfl)
   (by decide)
   (by kernel_rfl)
   (by kernel_rfl)
   (by kernel_rfl)
   (by kernel_rfl)
   (by kernel_rfl)
   (by kernel_rfl)
   (by kernel_rfl)
   (by kernel_rfl)
   (by kernel_rfl)
   (by kernel_rfl)
   (by kernel_rfl)
   (by kernel_rfl)
   (by kernel_rfl)
   (by kernel_rfl)
   (by kernel_rfl)
   (by kernel_rfl)
   (by kernel_rfl)
   ⟨⟨by kernel_rfl,⟨by kernel_rfl,by kernel_rfl,by kernel_rfl,by kernel_rfl,by kernel_rfl,by kernel_rfl,by kernel_rfl⟩,by kernel_rfl,24,⟨by kernel_rfl,by kernel_rfl,by kernel_rfl,by kernel_rfl,by kernel_rfl⟩⟩,by kernel_rfl⟩
   ⟨⟨by kernel_rfl,⟨by kernel_rfl,by kernel_rfl,by kernel_rfl,by kernel_rfl,by kernel_rfl,by kernel_rfl,by kernel_rfl⟩,by kernel_rfl,24,⟨by kernel_rfl,by kernel_rfl,by kernel_rfl,by kernel_rfl,by kernel_rfl⟩⟩,24,65,"NoRow.__init__",RR.mem 4 0,"there is no such row",_,by kernel_rfl,by kernel_rfl,by kernel_rfl,(RR.CI _ ⟨⟨.type "function",none,.none,.none,.str "lanepacks.errors" 187,none,.ref 64,.none,#[],rfl,by kernel_rfl,by kernel_rfl⟩,by kernel_rfl⟩),(L2.XG.of (by kernel_rfl) (by kernel_rfl) (by kernel_rfl)),⟨by kernel_rfl,by kernel_rfl,by kernel_rfl⟩⟩
   (by kernel_rfl)
   (by kernel_rfl)
end
