import PyProof.Rows.All
import KE.KFromBytes
import KE.KTab
import KE.KIsAll
import KE.KDictOf
import KE.KEqDeep
import KE.KItem
import KE.KUnpackStar
import Wide.FinOn
import Wide.Line
import KE.KSortTup
import PyProof.AttrMissSeq
import OpenK.KOwn
import Open.TreeImp
import OpenK.KMore
import PyProof.InstStoreFacts
import KE.KRevIter
import PySem.Challenge.RW_lanepacks_k08_orders_refused
set_option Elab.async false
set_option linter.all false
set_option maxRecDepth 100000
set_option maxHeartbeats 4000000
set_option bootstrap.genMatcherCode false
set_option compiler.extract_closed false
open PySem renaming Value->Uq,Addr->Ur,starEach->Us,wpAny->Ut,mainGlobals->Uu,model->Uv,Str->Uw,Expr->Ux,World->Uy,assignEach->Uz,Heap->Va,foldedSetIterable->Vb,Obj->Vc,Stmt->Vd,swapsWith->Ve,cellsFrom->Vf,Scope->Vg,NameKind->Vh,assignInOrder->Vi,Sem->Vk,Tok->Vl,Model->Vm
open PySem.W renaming Frag->Vj
open PySem renaming wpAny_bind->Aa,Shared->Ad,wpAny_pure->Ag,wpAny_mono->Aq,Program->Av,bootBuiltins->Be,mem_of_lookup->Bm,wpAny_holding->Bo,Around->Br,sizeLine_eq->Bt,wpAny_newObj_type->Cm,wpAny_standAt->Dd,compareOp->De,FuncData->Df,wpAny_callSpecial?_slot->Dm,Builtin->Dq,wpAny_call_entry->Du,backTo->Dv,wpAny_field->Dw,wpAny_truthy_bool->Ea,wpAny_Call_Name_kw->Es,recursionLimit->Ez,wpAny_seqItems->Fa,letOwnedTupleGo->Fb,codeAny->Fd,keywordEach->Fe,Spec->Fk,binaryOp->Fm,attributeBase->Fn,wpAny_setField_rec->Fp,codeAny_call_builtin->Ft,sysModules->Fu,assign->Fv,wpAny_passesOwn->Fw,wpAny_pyIter_list->Fx,call_meets->Gb,swapsWithSole->Gf,swappedStores->Gg,wpAny_rule->Gk,codeAny_mono->Gq,excClassObj->Gs,wpAny_assign_Name->Gw,wpAny_loadPart_at->Gz,wpAny_newFunctionEnv_cells->Hb,wpAny_loadName_local->Hd,wpAny_of_eq->Hj,wpAny_call->Hl,wpAny_comprehension_free->Hn,importedModules->Ht,wpAny_execs_nil->Hv,wpAny_pyIter_tuple->Hw,behindInMarks->Hy,backToKw->Ic,tupleKind_room_in1->Ie,wpAny_pyIter_rangeiter->Il,sliceBounds->Iu,Keyword->Iv,bindName->Iy,wpAny_bindName->Iz,codeAny_call_function->Jd,checkBuiltinCall->Jj,wpAny_updateSeq_pair->Jl,unpackItems->Jt,pushCells_keeps->Ka,getAttrByItsOwn->Kb,codeAny_builtin->Kc,wpAny_typeOf->Km,newFunctionEnv->Ks,wpAny_binaryOp_repeat_ref->Kt,wpAny_Name->Kw,wpAny_sequenceKey->Kx,pushCells->Lb,isInstance->Lc,fenceModules?->Lg,IsRangeIter->Lk,getItem->Ll,wpAny_onRaise->Lo,wpAny_attempt->Lp,wpAny_eqBool_int->Lv,wpAny_execs_cons->Lw,noFill_tuple_add->Lz,wpAny_pyNext_list_item->Md,wpAny_pyNext_range_end->Me,codeAny_compStart_list->Mh,DictEntry->Mj,standAt->Ml,wpAny_pyNext_list_end->Mm,concat_meets->Mn,call_meetsIn->Mp,noteFrame->Mr,theTreesLotGoes->Ms,wpAny_specialOf->Mt,exec_Assign_Name_used->Mx,codeAny_of_tree->Mz,typeIs_int->Nb,ZipApart->Nc,typeOf->Nl,PyData->No,wpAny_loadPart->Nr,callerA->Nv,OwnTail->Ob,wpAny_isSubtype_exc->Od,bltViewBooted->Of,Result->Oj,seq_tuple_add->Om,name_of_addr->Ox,frameOf->Oz,callWith->Pb,getattributeRaised->Pf,plainId_quiet->Pg,ExceptHandler->Pj,BindsTo->Pq,valueAt->Pr,wpAny_Call_method->Ps,wpAny_pyIter_enum->Px,Params->Qh,call_range_1->Qj,codeAny_func->Qk,codeAny_loop->Qm,entryPlaceOf->Qp,wpAny_mkText->Qq,seqSlot_of->Rc,bindArgs->Rj,compTurn->Rl,compEnvC->Rm,interactive->Rs,PassesOwn->Rt,pyIter->Ru,lastMarks->Rv,wpAny_noted->Rx,wpAny_letGo->Sa,again->Sc,setField->Su,call->Tc,newObjAsIs->Te,holding->Ti,newList->Tn,Builtin->Tr,getAttr?->Ts,Within->Tw,stored->Tz
open PySem.Heap renaming get?_push_of_some->Ac,lt_size->Aj,get?_push_size->Ao,size_push->Cg,SameBut->Ey,get?_update_other->Go,get?_push_ne->Iw,get?_update_self->Jh,get?_none_of_le->Jk,ExtBut->Jw,FlyingW->Ko,get?_update_ne->Oe,get?_some_iff->Oy,size_update->Qz
open Bool renaming and_eq_true->Ae,false_ne_true->Cs,and_eq_true_iff->Dr,false_eq_true->Fo,or_eq_true->Ih,beq_eq_decide_eq->Na,not_eq_true'->Qd,or_false->Tk,false_or->Tl,true_and->Tu
open Option renaming bind_some->Af,isSome_some->Oo,getD_none->Qt,map_some->So,map->Up
open List renaming getElem?_eq_some_iff->Ah,getElem?_append_left->Ak,mem_cons->Al,size_toArray->An,mem_cons_of_mem->Ap,range->Ar,replicate->As,mem_append_right->Au,mem_cons_self->Ax,mem_singleton->Ay,map_cons->Az,not_mem_nil->Bb,mem_append_left->Bk,getElem?_eq_none->Bp,getElem?_set_ne->Bu,length_map->By,length_cons->Bz,mem_range->Ca,length_take->Cb,length_append->Cc,length_set->Cd,take_of_length_le->Ce,getElem?_take_of_lt->Cf,getElem?_append_right->Ch,lookup_cons->Ci,getElem?_replicate->Cj,mem_append->Ck,getElem?_map->Co,append_nil->Cu,nodup_cons->Cv,take_append_of_le_length->Cz,getElem?_set_self->Db,getElem?_eq_getElem->Dg,mem_map->Dj,drop_eq_getElem_cons->Dt,replicate_succ->Dz,lookup_cons_self->Ec,map_nil->Eh,all_eq_true->Ei,append_assoc->Ek,set_comm->Em,mem_of_getElem?->Ew,nil_append->Fg,flatten_cons->Gc,length_eq_zero_iff->Gi,drop_length->Gj,find?_cons->Gr,set_append_right->Gu,any_cons->Gx,length_range->Gy,getElem?_eq_none_iff->Hf,lookup->Hi,mem_filter->Hu,mem_filterMap->Hx,of_mem_zip->Ia,map_append->Ij,range_succ_eq_map->Io,length_replicate->Jb,length_singleton->Je,mem_iff_getElem?->Jg,cons_append->Ji,filterMap_cons->Js,forIn_cons->Jv,map_congr_left->Jx,idxOf_lt_length_of_mem->Kg,ext_getElem?->Kz,zip_nil_left->La,getElem_mem->Mc,length_nil->Mo,zip_append->Mv,getElem?_mapIdx->Nf,forall_mem_cons->Nj,drop_zero->Np,forIn_nil->Nq,mem_map_of_mem->Nz,getElem_range->Oq,zip_cons_cons->Pc,zip_nil_right->Pd,getElem?_take->Pe,getElem_idxOf->Pl,map_map->Qo,getElem_inj->Qr,length_drop->Qs,isEmpty_iff->Qu,zipIdx_cons->Qv,zipIdx_nil->Rz,mapM_cons->Ss,take_left->Sw,all_cons->To,all_map->Ub
open PySem.W renaming Frag->Ai,mg_none_of->Ct,mg_of->Ds,nsIn->Er,kia_one->Fc,kitOne->Hh,looks_findIn->Ho,keepIn->Hz,opening->Jq,callWith_K->Kl,hideAll_get->Lh,kas_item->Ls,cellsFrom_some->Lx,fnOf->Ly,hideAll_none->Nk,SharedT->Nt,kitx_list->Nu,codeIn->Ol,subIn->Qa,of_hideAll->Qi,funFrames_hide->Rb,openEnds->Rh,findIn->Ri,methodObj->Rq,hideAll->Rr,kasC_bind->Se,kasC_modify->Sf,kas_item_eq->Si,clsIn->Sj,looseW->Sx,absHeap->Tf,instObj->Tv,OpenLaw->Ua
open Nat renaming le_refl->Am,lt_of_lt_of_le->At,ne_of_lt->Aw,lt_irrefl->Bq,le_trans->Dh,zero_le->Di,le_succ->Dx,le_of_succ_le->El,ne_of_gt->Gp,zero_add->Ja,lt_succ_of_lt->Ld,lt_of_not_le->Ma,lt_of_succ_lt_succ->Mg,le_of_lt->Mk,not_lt_zero->Mw,lt_of_le_of_lt->Op,le_succ_of_le->Qb,lt_trans->Ql,add_comm->Qn,succ_le_succ->Qx,not_le_of_lt->Qy,min_le_left->Sb,min_eq_left->Sm
open PySem.Value renaming ref->Ba,bool->Hk,type->Kv,builtin->Pa,int->Ro,str->Rp,isStrOf->Th,isInt->Uf,float->Ug
open PySem.Str renaming ofString->Bf,ofString_eq_toList->Ip
open PySem.F renaming slot_list_append->Bg,type_list_append->Bi,slot_dict_get->Eb,entry_dict_get->Fi,slot_tuple_iterator_next->Fj,excBase_ValueError->Hc,args_tuple_add_2->Hm,slot_list_extend->Hr,type_list_extend->Hs,entry_tuple_add->Ib,args_dict_get_2->Ig,plainAttrs_list->Ii,slot_tuple_add->Im,args_tuple_iterator_next_1->Jo,entry_tuple_iterator_next->Jy,slot_zip_next->Jz,slot_int_rmul->Ke,slot_dict_getitem->Kr,args_dict_get_3->Lm,plainAttrs_dict->Ln,slot_list_index->Lq,type_list_index->Lr,type_dict_get->Mq,entry_bexc_ga->My,args_bexc_ga->Ng,plain_reversed_new->Nh,args_list_index_2->Ny,entry_list_index->Ov,args_tuple_mul_2->Pk,args_zip_next_1->Py,slot_list_index->Pz,args_int_rmul_2->Qe,entry_tuple_mul->Qf,entry_zip_next->Qw,entry_int_rmul->Rf,slot_tuple_mul->Rg,fills_int_mul->Sk
open PySem.NameKind renaming free->Bj,cell->Bv
open PySem.Builtin.SmallTypes renaming nextOf->Bw,ownedTupleIsFree->Dy,ownedTupleHandOut->Hg
open Option.some renaming inj->Bx
open PyProof.Rows renaming callWith_type1->Cn,assignInOrder_cons->Ed,slot_tuple_getitem->Ej,seqObj->Hq,assignInOrder_nil->Iq,SortSt->Jm,AllBare->Li,subscriptTail_builtinR->Mf,listUpdate_at->Ph,unpackItems_tuple->Pp,IntsAre->Pt,pairsOf->Qc,SortKind->Rn,seqEpoch_at->Sh,expectedOf->Sy,plainGoodE->Sz,plainGoodD->Ta,boot_range->Tb,drecsOf->Tg,tail_any->Tj
open PySem.AutoSeq1 renaming wpAny_loadPart'->Cq,idx_int->Mb
open PySem.Builtin.Range renaming rangeFitsLong->Cr,rangeSize->Gh,rangeFields->Sv,small->Uk
open ForInStep renaming yield->Cw
open Ne renaming symm->Dk
open Prod renaming fst->Dn,snd->Eo
open PySem.Calls renaming spliced_cons->Ee,evalArgs_plain->Eg,callWith_builtin->Fh,spliced_nil->Fy,Name_function_global->Ha,loadGlobal_global->Lj,Constant_str->Oh
open PySem.PassesOwn renaming never->Ef
open PySem.SeqAt renaming shaped->Ep,list_indexAt->Ow
open Or renaming inr->Et,inl->Gd
open Int renaming emod_lt_of_pos->Eu,emod_nonneg->Ik,toNat_natCast->Ir
open PySem.PyData renaming keyHash->Ex,depthAll->Ff,canLay0->Gm,canLayAll0->Ix,depth->Jf,eqv->Jp,int->Pw,strOk->Ud
open PySem.Obj renaming mapSeq->Fl,data_mapFields->Ot,mapFields->Tq
open PySem.Builtin.Slice renaming slicePlaces->Fq,sliceAdjust->He,sliceApplied->Kh,slicePartIndex->Rk,sliceFields->Sr
open PyProof.Rows.KTD renaming datumAt->Fs
open PySem.Builtin.Tuple renaming tupleExact->Fz,tupleItemsOf->Ki,tupleTooMany->Kk,tupleIsExact->Sq
open PySem.Builtin.List renaming listTooLong->Ga
open Array renaming length_toList->Ge,perm_iff_toList_perm->Kj,find?_toList->Oi,toList_inj->Ra,toList->Tx
open False renaming elim->Gv
open PySem.Around renaming under_plainId->Jn
open Prod.mk renaming inj->Jr
open PyProof.Rows.IsTup renaming new->Ju
open List.cons renaming injEq->Kf
open PySem.Code renaming quiet_builtin->Kn,builtin->Uc
open PySem.Challenge renaming pw_lanepacks_k08_orders_refused->Kq,rw_lanepacks_k08_orders_refused->Ku
open List.Pairwise renaming nil->Ky,map->Lf
open PyProof.Rows.SortSt renaming mk'->Le
open PySem.Builtin.Dict renaming updateFrom->Lu,pairItems->Mi,missed->Nx
open Classical renaming choose_spec->Mu
open PySem.W.Looks renaming ld->Nd
open PySem.SeqAt.EqAt renaming bool_bool->Ni
open PySem.Heap.SameBut renaming update->Nw
open PySem.EntryCells renaming newEntry->Oa
open PySem.Paired renaming length->Og,snoc->Uj
open Sum renaming inl->Pn,inr->Po
open Char renaming toNat->Qg
open PySem.Heap.DictOf renaming new->Rw
open PySem.Shared renaming heap->Ry
open Pure renaming pure->Sd
open List.Perm renaming trans->Sg
open PySem.Walks renaming list->Td,range->Uh
open Function renaming comp->Tp
open PySem.Heap.UpToSlots renaming of_keeps->Tt
open PySem.MeetsSeq.EqGives renaming int->Ue
open PySem.IsRange renaming new->Ui
open PySem.Heap.Ns renaming new->Ul
open PySem.Heap.IsSliceOf renaming new->Um
open PySem.W.WShape renaming has->Uo
noncomputable section
namespace KK
open PySem PySem.W
noncomputable def GL:List Vc->Nat->BT->Option BT
 |[],_,t=>some t
 |o::l,n,t=>match((t.ins n o).get n).isSome with
  |true=>GL l (n+1) (t.ins n o)
  |false=>none
theorem K5{life:Life}:∀{l:List Vc} {n:Nat} {t t':BT},GL l n t=some t'->Tf t' (n+l.length) life=⟨(Tf t n life).objs++l.toArray,life⟩
 |[],n,t,t',h=>by cases h;simp[Tf]
 | o :: l,n,t,t',h => by
  unfold GL at h;split at h
  ·rename_i g
   have ih:=K5 (life:=life) h;rw[show n+(o::l).length=n+1+l.length by simp;lia,ih,absHeap_ins g];simp[Heap.push]
  ·cases h
noncomputable def toT(s:Ad):Option Nt:=(GL s.heap.objs.toList 0 .nil).map λt=>⟨t,s.heap.objs.size,s.heap.life,s.gens,s.drawn,s.toks,s.os⟩
theorem EF{s:Ad}{u:Nt}(h:toT s=some u):u.abs=s:=by
 unfold toT at h;cases e:GL s.heap.objs.toList 0 .nil with
 |none=>rw[e] at h;cases h
 |some t=>
  rw[e] at h;cases h;have:=K5 (life:=s.heap.life) e;simp only[Ja,Ge] at this;obtain⟨⟨objs,life⟩,gens,drawn,toks,os⟩:=s;show(⟨Tf t objs.size life,gens,drawn,toks,os⟩:Ad)=_;rw[this];simp[Tf,BT.list]
noncomputable def VY(tb:String->Option Dq)(p:Av)(w:Uy)(n₀:Nat)(ann:Option Uq):Nat->Nt->Thread->Option Nt
 |0,_,_=>none
 | n + 1,s,t => match through t with
  |true=>some s
  | false => match stepOk n₀ ann t with
   |false=>none
   |true=>match stepT (denote tb) p w s t with
    |some (s',t')=>VY tb p w n₀ ann n s' t'
    |none=>none
theorem OM{tb:String->Option Dq}{p:Av}{w:Uy}{n₀:Nat}{ann:Option Uq}:∀{n:Nat} {s s':Nt} {t:Thread},VY tb p w n₀ ann n s t=some s'->topRun tb p w n₀ ann n s.abs t=some s'.abs
 |0,_,_,_,h=>by cases h
 | n + 1,s,s',t,h => by
  unfold VY at h;unfold topRun;cases ht:through t with
  |true=>rw[ht] at h;cases h;rfl
  |false=>
   rw[ht] at h;cases hk:stepOk n₀ ann t with
   |false=>rw[hk] at h;cases h
   |true=>
    rw[hk] at h;cases hs:stepT (denote tb) p w s t with
    |none=>rw[hs] at h;cases h
    |some r=>obtain⟨s₂,t₂⟩:=r;rw[hs] at h;rw[stepT_spec hs];exact OM h
noncomputable def E6(tb:String->Option Dq)(p:Av)(w:Uy):Nat->Nt->Thread->Option Nt
 |0,_,_=>none
 | n + 1,s,t => match t.atExitBegin with
  |some []=>some s
  |some (_::_)=>none
  |none=>match stepT (denote tb) p w s t with
   |some (s',t')=>E6 tb p w n s' t'
   |none=>none
theorem DB{tb:String->Option Dq}{p:Av}{w:Uy}:∀{n:Nat} {s s':Nt} {t:Thread},E6 tb p w n s t=some s'->importEnds tb p w n s.abs t=some s'.abs
 |0,_,_,_,h=>by cases h
 | n + 1,s,s',t,h => by
  unfold E6 at h;unfold importEnds;cases he:t.atExitBegin with
  |some x=>
   rw[he] at h;cases x with
   |nil=>cases h;rfl
   |cons=>cases h
  |none=>
   rw[he] at h;cases hs:stepT (denote tb) p w s t with
   |none=>rw[hs] at h;cases h
   |some r=>obtain⟨s₂,t₂⟩:=r;rw[hs] at h;dsimp only;rw[stepT_spec hs];exact DB h
noncomputable def ND(tb:String->Option Dq)(p:Av)(w:Uy)(N:Nat):Option Ad:=
 (toT (start (Jq p)).1).bind λu=>(E6 tb (Jq p) w N u (start (Jq p)).2).bind λu1=>(Lg p u1.abs).bind λs₀=>
 match s₀.heap.isNs Uu&&s₀.gens.size==0 with
 | true => (toT s₀).bind λv => (VY tb p w s₀.heap.objs.size (s₀.heap.nsMap Uu "__annotations__") N v (topStub p)).bind λv1 =>
  match staticsOk (Ht p.main.body) s₀.heap v1.abs.heap&&namesBound p v1.abs.heap&&gensDone v1.abs&&laidKept s₀.heap v1.abs.heap with
   |true=>some v1.abs
   |false=>none
 |false=>none
theorem GU{tb:String->Option Dq}{p:Av}{w:Uy}{N:Nat}{s:Ad}(h:ND tb p w N=some s):Rh tb p w N=some s:=by
 unfold ND at h;unfold Rh fencedOpening;cases e1:toT (start (Jq p)).1 with
 |none=>rw[e1] at h;cases h
 |some u=>
  rw[e1,Af] at h;cases e2:E6 tb (Jq p) w N u (start (Jq p)).2 with
  |none=>rw[e2] at h;cases h
  |some u1=>
   rw[e2,Af] at h;have e3:=DB e2;rw[EF e1] at e3;rw[e3,Af];cases e4:Lg p u1.abs with
   |none=>rw[e4] at h;cases h
   |some s₀=>
    rw[e4,Af] at h;rw[Af];unfold topFrom;cases e5:(s₀.heap.isNs Uu&&s₀.gens.size==0) with
    |false=>rw[e5] at h;cases h
    |true=>
     rw[e5] at h;dsimp only at h⊢;cases e6:toT s₀ with
     |none=>rw[e6] at h;cases h
     |some v=>
      rw[e6,Af] at h;cases e7:VY tb p w s₀.heap.objs.size (s₀.heap.nsMap Uu "__annotations__") N v (topStub p) with
      |none=>rw[e7] at h;cases h
      |some v1=>
       rw[e7,Af] at h;have e8:=OM e7;rw[EF e6] at e8;rw[e8,Af];exact h
theorem HA{α:Type}{tb:String->Option Dq}{p:Av}{w:Uy}{N:Nat}{f:Ad->α}{v:α}(h:(ND tb p w N).map f=some v):(Rh tb p w N).map f=some v:=by
 cases e:ND tb p w N with
 |none=>rw[e] at h;cases h
 |some s=>
  rw[e] at h;rw[GU e];exact h
noncomputable def chkU(p:Av)(s₀ s:Ad):Bool:=staticsOk (Ht p.main.body) s₀.heap s.heap&&namesBound p s.heap&&gensDone s&&laidKept s₀.heap s.heap
noncomputable def GV(tb:String->Option Dq)(p:Av)(w:Uy)(N:Nat):Option (Ad×Ad):=
 (toT (start (Jq p)).1).bind λu=>(E6 tb (Jq p) w N u (start (Jq p)).2).bind λu1=>(Lg p u1.abs).bind λs₀=>
 match s₀.heap.isNs Uu&&s₀.gens.size==0 with
 |true=>(toT s₀).bind λv=>(VY tb p w s₀.heap.objs.size (s₀.heap.nsMap Uu "__annotations__") N v (topStub p)).bind λv1=>some (s₀,v1.abs)
 |false=>none
theorem rT{tb:String->Option Dq}{p:Av}{w:Uy}{N:Nat}{q:Ad×Ad}(h:GV tb p w N=some q)(hc:chkU p q.1 q.2=true):ND tb p w N=some q.2:=by
 unfold GV at h;unfold ND;cases e1:toT (start (Jq p)).1 with
 |none=>rw[e1] at h;cases h
 |some u=>
  rw[e1,Af] at h;rw[Af];cases e2:E6 tb (Jq p) w N u (start (Jq p)).2 with
  |none=>rw[e2] at h;cases h
  |some u1=>
   rw[e2,Af] at h;rw[Af];cases e4:Lg p u1.abs with
   |none=>rw[e4] at h;cases h
   |some s₀=>
    rw[e4,Af] at h;rw[Af];cases e5:(s₀.heap.isNs Uu&&s₀.gens.size==0) with
    |false=>rw[e5] at h;cases h
    |true=>
     rw[e5] at h;dsimp only at h⊢;cases e6:toT s₀ with
     |none=>rw[e6] at h;cases h
     |some v=>
      rw[e6,Af] at h;rw[Af];cases e7:VY tb p w s₀.heap.objs.size (s₀.heap.nsMap Uu "__annotations__") N v (topStub p) with
      |none=>rw[e7] at h;cases h
      |some v1=>
       rw[e7,Af] at h;cases h;rw[Af];unfold chkU at hc;rw[hc]
theorem mapU{α:Type}{tb:String->Option Dq}{p:Av}{w:Uy}{N:Nat}{f:Ad->α}{v:α}(h:(GV tb p w N).map (λq=>f q.2)=some v)(hc:(GV tb p w N).map (λq=>chkU p q.1 q.2)=some true):(Rh tb p w N).map f=some v:=by
 cases e:GV tb p w N with
 |none=>rw[e] at h;cases h
 |some q=>
  rw[e] at h hc;rw[GU (rT e (Bx hc))];exact h
end KK
namespace RR
open PySem
def top(i:Nat):Vd:=PySem.Challenge.pw_lanepacks_k08_orders_refused.main.body.getD i (.Pass ⟨0,0,0,0⟩)
def mem(i j:Nat):Vd:=match top i with
 |.ClassDef _ _ _ b _ _ _ _ _ _ _=>b.getD j (.Pass ⟨0,0,0,0⟩)
 |s=>s
end RR
namespace KK
open PySem PySem.W PySem.Calls PyProof.Rows
def dA(s:Vd):Arguments:=match s with
 |.FunctionDef _ a _ _ _ _ _ _ _ _=>a
 |_=>⟨[],[],none,[],[],none,[]⟩
def dB(s:Vd):List Vd:=match s with
 |.FunctionDef _ _ b _ _ _ _ _ _ _=>b
 |_=>[]
def dS(s:Vd):Vg:=match s with
 |.FunctionDef _ _ _ _ _ _ c _ _ _=>c
 |_=>{kind:=.function,names:=[],isGenerator:=false,isCoroutine:=false}
abbrev s(x:Uw)(t:Nat):Uq:=.str x t
abbrev e(P:Qh)(x:Uw)(t:Nat)(v:Uq):Mj:=⟨PyData.keyHash P x,s x t,v⟩
abbrev f(a i:Nat)(n:Uw)(d m:Uq):Nat×Vc:=(a,⟨.type "function",none,.func (fnOf n n (dA (RR.top i)) (dB (RR.top i)) (dS (RR.top i)) d .none .none m none (.ref (a - 1)) .none),#[]⟩)
abbrev fm(a i j:Nat)(q:Uw)(m:Uq):Nat×Vc:=(a,⟨.type "function",none,.func (fnOf "__init__" q (dA (RR.mem i j)) (dB (RR.mem i j)) (dS (RR.mem i j)) .none .none .none m none (.ref (a - 1)) .none),#[]⟩)
abbrev fk(a i:Nat)(n:Uw)(d k m:Uq):Nat×Vc:=(a,⟨.type "function",none,.func (fnOf n n (dA (RR.top i)) (dB (RR.top i)) (dS (RR.top i)) d k .none m none (.ref (a - 1)) .none),#[]⟩)
abbrev co(a:Nat)(n:Uw)(t:Nat)(l k:Int)(u:Nat)(x y z v:Uq):Nat×Vc:=(a,⟨.type "code",none,.fields #[s n t,s n (t+1),s "/claim/cut.py" (t+2),.int l 0,.int k 0,.int 0 0,.int 0 0,.int 3 0,x,.bool true,.int 181 0,y,.none,z,v,.ref (a - 1),.int u 0,.int l 0,s "/claim/cut.py" (u+1)],#[]⟩)
abbrev c(a:Nat)(n:Uw)(t:Nat)(l k:Int)(u:Nat):Nat×Vc:=co a n t l k u (.ref (a - 5)) (.ref (a - 4)) (.ref (a - 3)) (.ref (a - 2))
abbrev b(a:Nat)(n:Uw)(t:Nat)(l k:Int)(u:Nat):Nat×Vc:=co a n t l k u (.ref (a - 3)) (.ref (a - 2)) .none .none
abbrev m:Uq:=s "law_lanepacks_k08_orders_refused" 667
abbrev kc(a q:Nat)(n:Uw)(b t u:Nat):Nat×Vc:=(a,⟨.type "type",none,.cls {name:=n,bases:=[.ref q],mro:=[.ref a,.ref q,.type "ValueError",.type "Exception",.type "BaseException",.type "object"],ns:=a - 1,qualname:=n},#[some (.ref b),none,some (s n t),some (s n u),some (.builtin "ValueError.__new__"),some (.bool true)]⟩)
abbrev kn(P:Qh)(a m w l r:Nat):Nat×Vc:=(a,⟨.type "dict",none,.dict #[e P "__module__" m (s "lanepacks.errors" w),e P "__firstlineno__" (m+4) (.int l (m+3)),e P "__static_attributes__" (m+5) (.ref r),e P "__doc__" (m+6) .none] 2,#[]⟩)
noncomputable def K(P:Qh):Vj:=[(2,⟨.none,none,.dict #[] 0,#[]⟩),(3,⟨.type "dict",none,.dict #[e P "__name__" 165 (s "law_lanepacks_k08_orders_refused" 667),e P "__doc__" 166 (.none),e P "__package__" 167 (.none),e P "__loader__" 168 (.builtin "__main__.__loader__#opaque"),e P "__spec__" 169 (.none),e P "__annotations__" 170 (.ref 6),e P "__builtins__" 171 (.ref 4),e P "__file__" 173 (s "/claim/cut.py" 172),e P "__cached__" 174 (.none),e P "PackError" 206 (.ref 24),e P "NoBlock" 222 (.ref 37),e P "NoCells" 238 (.ref 49),e P "NoRow" 263 (.ref 68),e P "NoLanes" 279 (.ref 80),e P "NoPlan" 295 (.ref 92),e P "NoProgram" 311 (.ref 104),e P "NoTree" 327 (.ref 116),e P "NoLoop" 343 (.ref 128),e P "NoText" 359 (.ref 140),e P "NoName" 384 (.ref 159),e P "TooMany" 400 (.ref 171),e P "TooLong" 416 (.ref 183),e P "NotValid" 441 (.ref 202),e P "Nothing" 457 (.ref 214),e P "MOST_WORD" 461 (.int 999 460),e P "DEEDS" 469 (.ref 217),e P "is_whole" 478 (.ref 224),e P "MOST_SURE" 482 (.int 64 481),e P "MOST_ROWS" 484 (.int 40 483),e P "MOST_PLACE" 486 (.int 63 485),e P "DEED_PARTS" 489 (.ref 225),e P "OTHER_PARTS" 515 (.ref 226),e P "READERS" 518 (.ref 233),e P "WRITERS" 521 (.ref 234),e P "parts_of" 528 (.ref 241),e P "makes_word" 535 (.ref 248),e P "place_of" 542 (.ref 255),e P "names_of" 548 (.ref 260),e P "may_name" 556 (.ref 267),e P "fits" 565 (.ref 274),e P "is_row" 571 (.ref 279),e P "is_block" 582 (.ref 286),e P "row_at" 591 (.ref 293),e P "writes" 600 (.ref 300),e P "is_safe_number" 607 (.ref 307),e P "can_fault" 619 (.ref 314),e P "share_written_cell" 627 (.ref 321),e P "must_stay" 639 (.ref 328),e P "must_pairs" 645 (.ref 333),e P "may_fault" 653 (.ref 340),e P "must" 660 (.ref 347),e P "ahead" 666 (.ref 352),e P "_law_cell_at" 678 (.ref 359),e P "_law_mixed" 688 (.ref 366),e P "_law_draw" 697 (.ref 373),e P "_law_pick" 706 (.ref 380),e P "_law_place" 717 (.ref 387),e P "_law_row" 723 (.ref 392),e P "_law_rows" 737 (.ref 399),e P "_law_next" 754 (.ref 406),e P "_law_block" 760 (.ref 411),e P "_law_names" 767 (.ref 418),e P "_law_may" 773 (.ref 423),e P "_law_must" 779 (.ref 428),e P "_law_which" 787 (.ref 435),e P "_law_none" 796 (.ref 442),e P "_law_mixed_order" 802 (.ref 447),e P "_law_renamed" 808 (.ref 452),e P "_law_ask" 818 (.ref 459),e P "law" 824 (.ref 464)] 70,#[]⟩),(23,⟨.type "dict",none,.dict #[e P "__module__" 196 (s "lanepacks.errors" 187),e P "__firstlineno__" 200 (.int 2 199),e P "__static_attributes__" 201 (.ref 22),e P "__weakref__" 203 (.ref 25),e P "__doc__" 204 (.none)] 3,#[]⟩),(24,⟨.type "type",none,.cls {name:= "PackError",bases:=[.type "ValueError"],mro:=[.ref 24,.type "ValueError",.type "Exception",.type "BaseException",.type "object"],ns:=23,qualname:= "PackError",subclasses:=[.ref 37,.ref 49,.ref 68,.ref 80,.ref 92,.ref 104,.ref 116,.ref 128,.ref 140,.ref 159,.ref 171,.ref 183,.ref 202,.ref 214]},#[some (.ref 15),none,some (s "PackError" 189),some (s "PackError" 197),some (.builtin "ValueError.__new__"),some (.bool true)]⟩),kn P 36 214 187 4 35,kc 37 24 "NoBlock" 28 207 215,kn P 48 230 187 6 47,kc 49 24 "NoCells" 40 223 231,fm 65 4 0 "NoRow.__init__" (s "lanepacks.errors" 187),(64,⟨.type "code",none,.fields #[s "__init__" 251,s "NoRow.__init__" 252,s "/claim/cut.py" 253,.int 10 0,.int 2 0,.int 0 0,.int 0 0,.int 3 0,.ref 59,.bool true,.int 181 0,.ref 60,.none,.ref 61,.ref 62,.ref 63,.int 256 0,.int 10 0,s "/claim/cut.py" 257],#[]⟩),(67,⟨.type "dict",none,.dict #[e P "__module__" 246 (s "lanepacks.errors" 187),e P "__firstlineno__" 250 (.int 8 249),e P "__init__" 258 (.ref 65),e P "__static_attributes__" 260 (.ref 66),e P "__doc__" 261 (.none)] 2,#[]⟩),kc 68 24 "NoRow" 52 239 247,kn P 79 271 187 13 78,kc 80 24 "NoLanes" 71 264 272,kn P 91 287 187 15 90,kc 92 24 "NoPlan" 83 280 288,kn P 103 303 187 17 102,kc 104 24 "NoProgram" 95 296 304,kn P 115 319 187 19 114,kc 116 24 "NoTree" 107 312 320,kn P 127 335 187 21 126,kc 128 24 "NoLoop" 119 328 336,kn P 139 351 187 23 138,kc 140 24 "NoText" 131 344 352,(158,⟨.type "dict",none,.dict #[e P "__module__" 367 (s "lanepacks.errors" 187),e P "__firstlineno__" 371 (.int 25 370),e P "__init__" 379 (.ref 156),e P "__static_attributes__" 381 (.ref 157),e P "__doc__" 382 (.none)] 2,#[]⟩),kc 159 24 "NoName" 143 360 368,kn P 170 392 187 30 169,kc 171 24 "TooMany" 162 385 393,kn P 182 408 187 32 181,kc 183 24 "TooLong" 174 401 409,(201,⟨.type "dict",none,.dict #[e P "__module__" 424 (s "lanepacks.errors" 187),e P "__firstlineno__" 428 (.int 34 427),e P "__init__" 436 (.ref 199),e P "__static_attributes__" 438 (.ref 200),e P "__doc__" 439 (.none)] 2,#[]⟩),kc 202 24 "NotValid" 186 417 425,kn P 213 449 187 39 212,kc 214 24 "Nothing" 205 442 450,(217,⟨.type "tuple",none,.seq #[s "plus" 462,s "minus" 463,s "times" 464,s "least" 465,s "most" 466,s "less" 467,s "over" 468] 0,#[]⟩),f 224 19 "is_whole" (.none) (s "lanepacks.words" 458),c 223 "is_whole" 470 44 3 476,(225,⟨.type "tuple",none,.seq #[s "row" 487,s "row" 488] 0,#[]⟩),(226,⟨.type "dict",none,.dict #[e P "number" 490 (.ref 227),e P "pick" 492 (.ref 228),e P "load" 496 (.ref 229),e P "take" 498 (.ref 230),e P "store" 502 (.ref 231),e P "put" 505 (.ref 232)] 6,#[]⟩),(227,⟨.type "tuple",none,.seq #[s "word" 491] 0,#[]⟩),(228,⟨.type "tuple",none,.seq #[s "row" 493,s "row" 494,s "row" 495] 0,#[]⟩),(229,⟨.type "tuple",none,.seq #[s "place" 497] 0,#[]⟩),(230,⟨.type "tuple",none,.seq #[s "place" 499,s "row" 500,s "row" 501] 0,#[]⟩),(231,⟨.type "tuple",none,.seq #[s "place" 503,s "row" 504] 0,#[]⟩),(232,⟨.type "tuple",none,.seq #[s "place" 506,s "row" 507,s "row" 508] 0,#[]⟩),(233,⟨.type "tuple",none,.seq #[s "load" 516,s "take" 517] 0,#[]⟩),(234,⟨.type "tuple",none,.seq #[s "store" 519,s "put" 520] 0,#[]⟩),f 241 28 "parts_of" (.none) (s "lanepacks.blocks" 479),c 240 "parts_of" 522 56 1 526,f 248 29 "makes_word" (.none) (s "lanepacks.blocks" 479),c 247 "makes_word" 529 60 1 533,f 255 30 "place_of" (.none) (s "lanepacks.blocks" 479),c 254 "place_of" 536 62 1 540,f 260 31 "names_of" (.none) (s "lanepacks.blocks" 479),b 259 "names_of" 543 64 1 546,f 267 32 "may_name" (.none) (s "lanepacks.blocks" 479),c 266 "may_name" 549 67 2 554,f 274 33 "fits" (.none) (s "lanepacks.blocks" 479),c 273 "fits" 557 69 3 563,f 279 34 "is_row" (.none) (s "lanepacks.blocks" 479),b 278 "is_row" 566 75 2 569,f 286 35 "is_block" (.none) (s "lanepacks.blocks" 479),c 285 "is_block" 572 83 1 580,f 293 36 "row_at" (.none) (s "lanepacks.blocks" 479),c 292 "row_at" 583 97 2 589,f 300 38 "writes" (.none) (s "lanepacks.orders" 592),c 299 "writes" 594 105 1 598,f 307 39 "is_safe_number" (.none) (s "lanepacks.orders" 592),c 306 "is_safe_number" 601 107 1 605,f 314 40 "can_fault" (.none) (s "lanepacks.orders" 592),c 313 "can_fault" 608 109 2 617,f 321 41 "share_written_cell" (.none) (s "lanepacks.orders" 592),c 320 "share_written_cell" 620 116 2 625,f 328 42 "must_stay" (.none) (s "lanepacks.orders" 592),c 327 "must_stay" 628 118 3 637,f 333 43 "must_pairs" (.none) (s "lanepacks.orders" 592),b 332 "must_pairs" 640 126 1 643,f 340 44 "may_fault" (.none) (s "lanepacks.orders" 592),c 339 "may_fault" 646 130 2 651,f 347 45 "must" (.none) (s "lanepacks.orders" 592),c 346 "must" 654 133 1 658,f 352 46 "ahead" (.none) (s "lanepacks.orders" 592),b 351 "ahead" 661 137 2 664,f 359 48 "_law_cell_at" (.none) m,c 358 "_law_cell_at" 669 145 2 676,f 366 49 "_law_mixed" (.none) m,c 365 "_law_mixed" 679 154 3 686,f 373 50 "_law_draw" (.none) m,c 372 "_law_draw" 689 157 3 695,f 380 51 "_law_pick" (.none) m,c 379 "_law_pick" 698 160 3 704,f 387 52 "_law_place" (.none) m,c 386 "_law_place" 707 162 5 715,f 392 53 "_law_row" (.none) m,b 391 "_law_row" 718 165 5 721,f 399 54 "_law_rows" (.none) m,c 398 "_law_rows" 724 183 4 735,f 406 55 "_law_next" (.none) m,c 405 "_law_next" 738 195 6 752,f 411 56 "_law_block" (.none) m,b 410 "_law_block" 755 206 3 758,f 418 57 "_law_names" (.none) m,c 417 "_law_names" 761 215 1 765,f 423 58 "_law_may" (.none) m,b 422 "_law_may" 768 219 2 771,f 428 59 "_law_must" (.none) m,b 427 "_law_must" 774 224 1 777,f 435 60 "_law_which" (.none) m,c 434 "_law_which" 780 236 1 785,f 442 61 "_law_none" (.none) m,c 441 "_law_none" 788 244 2 794,f 447 62 "_law_mixed_order" (.none) m,b 446 "_law_mixed_order" 797 251 3 800,f 452 63 "_law_renamed" (.none) m,b 451 "_law_renamed" 803 258 2 806,f 459 64 "_law_ask" (.none) m,c 458 "_law_ask" 809 263 3 816,f 464 65 "law" (.none) m,b 463 "law" 819 270 1 822]
noncomputable def A:List Nat:=[2,3,23,24,36,37,48,49,65,64,67,68,79,80,91,92,103,104,115,116,127,128,139,140,158,159,170,171,182,183,201,202,213,214,217,224,223,225,226,227,228,229,230,231,232,233,234,241,240,248,247,255,254,260,259,267,266,274,273,279,278,286,285,293,292,300,299,307,306,314,313,321,320,328,327,333,332,340,339,347,346,352,351,359,358,366,365,373,372,380,379,387,386,392,391,399,398,406,405,411,410,418,417,423,422,428,427,435,434,442,441,447,446,452,451,459,458,464,463]
noncomputable def view:Av:={Kq with main:={PySem.Challenge.pw_lanepacks_k08_orders_refused.main with body:=[1,2,3,4,5,6,7,8,9,10,11,12,13,14,15,17,18,19,21,22,23,24,25,26,27,28,29,30,31,32,33,34,35,36,38,39,40,41,42,43,44,45,46,48,49,50,51,52,53,54,55,56,57,58,59,60,61,62,63,64,65].map RR.top}}
abbrev lo:List Uw:=["OTHER_PARTS"]
theorem kA(P:Qh):A=(K P).map (·.1):=by kernel_rfl
noncomputable def X(s:Ad):Bool:=xlAt view [] s&&recOk (RowW.records (OpenRow.toRowW PySem.Challenge.rw_lanepacks_k08_orders_refused.row)) s
noncomputable abbrev H:Hook:=kHook K A kA
abbrev pr:Av:=PySem.Challenge.rw_lanepacks_k08_orders_refused.row.prog
abbrev go(w:Uy)(b:Bool):Option Ad:=ND treeTable pr (w.withFollow "special-get-raises" b) 9360
noncomputable abbrev fA(s:Ad):=seen ((recsOf view).map (·.name)) (ownsOf view) [] {s with gens:= #[]}
noncomputable abbrev fB(s:Ad):=(s.heap.bltView,tabsOk view s)
noncomputable abbrev fC(s:Ad):Bool:=s.heap.keysOk (Sx view lo) ((recsOf view).map (·.name)) ((litsOf view).map (·.1)) ((clssOf view (Sx view lo)).map (·.name))&&s.heap.accountedOkI (Ht pr.main.body)&&s.heap.isNs Uu&&s.heap.isNs builtinsNs&&tablesOk view s.heap&&X s&&(if true then s.gens.size==0 else !leftWithCleanup s.gens)
noncomputable abbrev fD(s:Ad):=(pinSeenD view (Tg view) s,plainSeenE view (Sx view lo) s,plainSeenD view lo s,wideSeen view s,clsSeenW view lo s,H.obs s)
set_option maxRecDepth 100000 in
set_option maxHeartbeats 0 in
theorem rAf(w:Uy):(go w false).map fA=some (Sy view):=by kernel_rfl
set_option maxRecDepth 100000 in
set_option maxHeartbeats 0 in
theorem rBf(w:Uy):(go w false).map fB=some ((Of,true)):=by kernel_rfl
set_option maxRecDepth 100000 in
set_option maxHeartbeats 0 in
theorem rCf(w:Uy):(go w false).map fC=some (true):=by kernel_rfl
set_option maxRecDepth 100000 in
set_option maxHeartbeats 0 in
theorem rDf(w:Uy):(go w false).map fD=some ((pinGoodD (Tg view),Sz view (Sx view lo),Ta view lo,wideGood view,clsGoodW view lo,H.val (w.withFollow "special-get-raises" false))):=by kernel_rfl
set_option maxRecDepth 100000 in
set_option maxHeartbeats 0 in
theorem rAt(w:Uy):(go w true).map fA=some (Sy view):=by kernel_rfl
set_option maxRecDepth 100000 in
set_option maxHeartbeats 0 in
theorem rBt(w:Uy):(go w true).map fB=some ((Of,true)):=by kernel_rfl
set_option maxRecDepth 100000 in
set_option maxHeartbeats 0 in
theorem rCt(w:Uy):(go w true).map fC=some (true):=by kernel_rfl
set_option maxRecDepth 100000 in
set_option maxHeartbeats 0 in
theorem rDt(w:Uy):(go w true).map fD=some ((pinGoodD (Tg view),Sz view (Sx view lo),Ta view lo,wideGood view,clsGoodW view lo,H.val (w.withFollow "special-get-raises" true))):=by kernel_rfl
theorem jn{o:Option Ad}{v:H.α}(ha:o.map fA=some (Sy view))(hb:o.map fB=some (Of,true))(hc:o.map fC=some true)(hd:o.map fD=some (pinGoodD (Tg view),Sz view (Sx view lo),Ta view lo,wideGood view,clsGoodW view lo,v)):o.map (λs=>(openSeen view lo (Ht pr.main.body) X true s,H.obs s))=some (openGood view lo,v):=by
 cases o with
 |none=>cases ha
 |some s=>
  have ea:fA s=_:=Bx ha;have eb:fB s=_:=Bx hb;have ec:fC s=_:=Bx hc;have ed:fD s=_:=Bx hd;obtain⟨b1,b2⟩:=Jr eb;obtain⟨d1,ed⟩:=Jr ed;obtain⟨d2,ed⟩:=Jr ed;obtain⟨d3,ed⟩:=Jr ed;obtain⟨d4,ed⟩:=Jr ed;obtain⟨d5,d6⟩:=Jr ed;show some ((fA s,s.heap.bltView,fC s,tabsOk view s,pinSeenD view (Tg view) s,plainSeenE view (Sx view lo) s,plainSeenD view lo s,wideSeen view s,clsSeenW view lo s),H.obs s)=_;rw[ea,b1,ec,b2,d1,d2,d3,d4,d5,d6];rfl
theorem hl:LeftO pr view lo X H.obs H.val 9360:=λw=>byRow2 "special-get-raises" (P:=λw=>(Rh treeTable pr w 9360).map (λs=>(openSeen view lo (Ht pr.main.body) X true s,H.obs s))=some (openGood view lo,H.val w)) (λw=>jn (HA (rAf w)) (HA (rBf w)) (HA (rCf w)) (HA (rDf w))) (λw=>jn (HA (rAt w)) (HA (rBt w)) (HA (rCt w)) (HA (rDt w))) w
set_option maxRecDepth 100000 in
set_option maxHeartbeats 0 in
theorem said:PySem.Challenge.rw_lanepacks_k08_orders_refused.wellSaid=true:=by kernel_rfl
end KK
namespace L2
open PySem PySem.Spec PyProof.Rows
abbrev aK:=Sum Int Uw
noncomputable def LO:aK->Uq->Bool
 |.inl k,v=>Uf k v
 |.inr x,v=>Th x v
def keyH(w:Uy):aK->Int
 |.inl k=>hashInt k
 |.inr x=>hashStr w x
theorem Z2:∀{k:aK} {v:Uq},LO k v=true->(∃i t,k=Pn i/\v=Ro i t)∨(∃x t,k=Po x/\v=Rp x t)
 |.inl i,v,h=>by obtain⟨t,e⟩:=Value.isInt_shape (k:=i) (v:=v) h;exact .inl ⟨i,t,rfl,e⟩
 |.inr x,v,h=>by obtain⟨t,e⟩:=Value.isStrOf_shape (x:=x) (v:=v) h;exact .inr ⟨x,t,rfl,e⟩
theorem BK(i:Int)(t:Vl):LO (.inl i) (.int i t)=true:=by simp[LO,Uf]
theorem BL(x:Uw)(t:Vl):LO (.inr x) (.str x t)=true:=by simp[LO,Th]
theorem dY(a b:Int):decide ((Pn a:aK)=Pn b)=(a==b):=by
 by_cases e:a=b
 ·subst e;simp
 ·have h : ¬ (Pn a : aK) = Pn b := λq => e (Sum.inl.inj q)
  rw[decide_eq_false h];exact(beq_eq_false_iff_ne.mpr e).symm
theorem pE(a b:Uw):decide ((Po a:aK)=Po b)=decide (a=b):=by
 by_cases e:a=b
 ·subst e;simp
 ·have h : ¬ (Po a : aK) = Po b := λq => e (Sum.inr.inj q)
  rw[decide_eq_false h,decide_eq_false e]
theorem nC(a:Int)(b:Uw):decide ((Pn a:aK)=Po b)=false:=decide_eq_false (λq=>nomatch q)
theorem qZ(a:Uw)(b:Int):decide ((Po a:aK)=Pn b)=false:=decide_eq_false (λq=>nomatch q)
def aU(prog:Av)(w:Uy):PySem.KeyKind prog w aK where
 is:=LO
 hash:=keyH w
 inj:=λv a b ha hb=>by
  rcases Z2 ha with⟨i,t,rfl,rfl⟩|⟨x,t,rfl,rfl⟩
  ·rcases Z2 hb with⟨j,u,rfl,e⟩|⟨y,u,rfl,e⟩
   ·injection e with e1 _;rw[e1]
   ·exact nomatch e
  ·rcases Z2 hb with⟨j,u,rfl,e⟩|⟨y,u,rfl,e⟩
   ·exact nomatch e
   ·injection e with e1 _;rw[e1]
 byValue:=λk v h=>by
  rcases Z2 h with⟨i,t,rfl,rfl⟩|⟨x,t,rfl,rfl⟩<;>rfl
 pyHash:=λhv h=>by
  rcases Z2 hv with⟨i,t,rfl,rfl⟩|⟨x,t,rfl,rfl⟩
  ·exact wpAny_pyHash_int h
  ·exact wpAny_pyHash_str h
 eqBool:=λhu hv h=>by
  rcases Z2 hu with⟨i,t,rfl,rfl⟩|⟨x,t,rfl,rfl⟩
  ·rcases Z2 hv with⟨j,u,rfl,rfl⟩|⟨y,u,rfl,rfl⟩
   ·rw[dY] at h;exact Lv h
   ·rw[nC] at h;exact SeqAt.EqAt.int_str i t y u _ _ _ _ h
  ·rcases Z2 hv with⟨j,u,rfl,rfl⟩|⟨y,u,rfl,rfl⟩
   ·rw[qZ] at h;exact SeqAt.EqAt.str_int x t j u _ _ _ _ h
   ·rw[pE] at h;exact wpAny_eqBool_str h
 «strs» :=λk x t v h=>by
  rcases Z2 h with⟨i,u,rfl,e⟩|⟨y,u,rfl,e⟩
  ·exact nomatch e
  ·injection e with e1 _
   subst e1;cases v<;>rfl
theorem HB(prog:Av)(w:Uy)(i:Int)(t:Vl):(aU prog w).is (.inl i) (.int i t)=true:=BK i t
theorem HC(prog:Av)(w:Uy)(x:Uw)(t:Vl):(aU prog w).is (.inr x) (.str x t)=true:=BL x t
inductive V where
 |non|bl (b:Bool)|int (i:Int)|str (x:Uw)|byt (b:Array UInt8)|flt (b:UInt64)|ref (a:Ur)|ty (n:String)
 deriving DecidableEq
def b5:V->Uq->Prop
 |.non,u=>u=Value.none
 |.bl b,u=>u=Hk b
 |.int i,u=>∃t,u=Ro i t
 |.str x,u=>∃t,u=Rp x t
 |.byt b,u=>∃t,u=Value.bytes b t
 |.flt b,u=>∃t,u=Ug b t
 |.ref a,u=>u=Ba a
 |.ty n,u=>u=Kv n
abbrev bN:List V->List Uq->Prop:=Paired b5
theorem bN.length{xs:List V}{us:List Uq}(r:bN xs us):xs.length=us.length:=Og r
theorem bN.get:∀{xs:List V} {us:List Uq} {i:Nat} {x:V},bN xs us->xs[i]?=some x->∃u,us[i]?=some u/\b5 x u
 |_,_,_,_,.nil,e=>by simp at e
 |_,_,0,_,.cons r _,e=>by simp at e;subst e;exact⟨_,rfl,r⟩
 |_,_,i+1,x,.cons _ t,e=>by obtain⟨u,h1,h2⟩:=bN.get (i:=i) (x:=x) t (by simpa using e);exact⟨u,by simpa using h1,h2⟩
theorem bN.append:∀{xs ys:List V} {us ws:List Uq},bN xs us->bN ys ws->bN (xs++ys) (us++ws)
 |_,_,_,_,.nil,s=>s
 |_,_,_,_,.cons r t,s=>.cons r (bN.append t s)
theorem bN.take:∀{xs:List V} {us:List Uq} (n:Nat),bN xs us->bN (xs.take n) (us.take n)
 |_,_,0,_=>.nil
 |_,_,_+1,.nil=>.nil
 |_,_,n+1,.cons r t=>.cons r (bN.take n t)
theorem bN.drop:∀{xs:List V} {us:List Uq} (n:Nat),bN xs us->bN (xs.drop n) (us.drop n)
 |_,_,0,r=>r
 |_,_,_+1,.nil=>.nil
 |_,_,n+1,.cons _ t=>bN.drop n t
noncomputable def TH:Option V->Option Uq->Prop
 |some v,some u=>b5 v u
 |none,none=>True
 |_,_=>False
def KV{κ:Type}:List (κ×V)->List (κ×Uq)->Prop:=Paired λ(p:κ×V) (q:κ×Uq)=>p.1=q.1/\b5 p.2 q.2
noncomputable def kV:aK->V
 |.inl i=>.int i
 |.inr x=>.str x
inductive HO where
 |lst (xs:List V)
 |tup (xs:List V)
 |dK (kvs:List (aK×V))|dT (kvs:List (List aK×V))
 |set (S:Int->Bool) (n:Nat)
 |ins (C dx:Ur) (fs:List (Uw×V))
 |own (x:Ur)
 |xd (fs:List (Uw×V))
 |met (f x:Ur)
 |rng (lo hi:Int)
 |frz (o:Vc) (u:HO)
 |tbl (ps:Array Uq)
 |ext (φ:Va->Prop)
abbrev Hp:=Ur->Option HO
def upd(H:Hp)(a:Ur)(o:HO):Hp:=λb=>if b=a then some o else H b
theorem cF{H:Hp}{a:Ur}{o:HO}:upd H a o a=some o:=by unfold upd;rw[if_pos rfl]
theorem b6{H:Hp}{a b:Ur}{o:HO}(h:b≠a):upd H a o b=H b:=by unfold upd;rw[if_neg h]
theorem fM{H:Hp}{a b:Ur}{o u:HO}(h:H a=some o)(h':H b=some u)(d:o≠u):a≠b:=by intro e;subst e;rw[h] at h';exact d (Bx h')
theorem X6{H:Hp}{a b:Ur}{o:HO}(h:H a=some o)(h':H b=none):a≠b:=by intro e;subst e;rw[h] at h';cases h'
section
variable(P:Av)(w:Uy)
def Z0(H:Hp)(h:Va)(a:Ur):HO->Prop
 |.lst xs=>xs.length<=sizeLine/\∃(its:List Uq) (n:Nat),bN xs its/\h.get? a=some {cls:=.type "list",data:=.seq its.toArray n}
 |.tup xs=>xs.length<=sizeLine/\∃its:List Uq,bN xs its/\IsTup h a its.toArray
 |.dK kvs=>kvs.length<=sizeLine/\(a==Fu)=false/\∃vs,KV kvs vs/\h.DictOf (aU P w) a vs
 | .dT kvs => kvs.length <= sizeLine /\ (a == Fu) = false /\ ∃ xs : List (List aK × Ur × Uq),
   Paired (λ(p:List aK×V) (q:List aK×Ur×Uq)=>p.1=q.1/\H q.2.1=some (.tup (p.1.map kV))/\b5 p.2 q.2.2) kvs xs∧
   ∃o es ep,h.get? a=some o/\o.ExactDict/\o.data=.dict es ep/\es.toList=xs.map (entryOfKey (tupleKind (aU P w)))/\(xs.map (·.1)).Nodup
 |.set S n=>h.SetOf (intKind P w) a S n
 | .ins C dx fs => H dx = some (.own a) /\ fs.length <= 1000 /\ dx ≠ a /\ h.get? a = some (Tv C dx) ∧
   ∃mA,h.Ns1 dx mA/\(∀f,TH (fs.lookup f) (mA f))/\Tw mA (fs.map (·.1))
 |.own _=>∃o,h.get? a=some o
 |.xd fs=>∃mA,h.Ns1 a mA/\∀f,TH (fs.lookup f) (mA f)
 |.rng lo hi=>∃t u v,h.get? a=some {cls:=.type "range",data:=.fields #[.int lo t,.int hi u,.int 1 v]}
 |.frz o u=>h.get? a=some o/\Z0 H h a u
 |.tbl ps=>h.get? a=some {cls:=.none,data:=.fields ps}
 |.met f x=>h.get? a=some (Rq (.ref f) (.ref x))
 |.ext φ=>φ h/\(∃o,h.get? a=some o)/\∀h1 h2:Va,φ h1->(∀o,h1.get? a=some o->h2.get? a=some o)->φ h2
def TF(H:Hp)(h:Va):Prop:=∀a o,H a=some o->Z0 P w H h a o
end
section
variable{P:Av}{w:Uy}{H H':Hp}{h h':Va}{a:Ur}{o:HO}
theorem Z0.lt(x:Z0 P w H h a o):a<h.objs.size:=by
 cases o with
 |lst xs=>obtain⟨_,_,_,_,e⟩:=x;exact Aj e
 |tup xs=>obtain⟨_,_,_,p⟩:=x;exact p.lt
 |dK kvs=>obtain⟨_,_,_,_,o,_,_,e,_⟩:=x;exact Aj e
 |dT kvs=>obtain⟨_,_,_,_,o,_,_,e,_⟩:=x;exact Aj e
 |set S n=>obtain⟨o,_,_,_,e,_⟩:=x;exact Aj e
 |ins C dx fs=>obtain⟨_,_,_,e,_⟩:=x;exact Aj e
 |own y=>obtain⟨_,e⟩:=x;exact Aj e
 |xd fs=>obtain⟨_,⟨_,_,_,e,_⟩,_⟩:=x;exact Aj e
 |rng lo hi=>obtain⟨_,_,_,e⟩:=x;exact Aj e
 |frz ob u=>obtain⟨e,_⟩:=x;exact Aj e
 |tbl ps=>exact Aj (show h.get? a=some _ from x)
 |met f y=>exact Aj (show h.get? a=some _ from x)
 |ext φ=>obtain⟨_,⟨_,e⟩,_⟩:=x;exact Aj e
theorem Paired.mapP{α β:Type}{F G:α->β->Prop}:∀{l₁:List α} {l₂:List β},Paired F l₁ l₂->(∀a b,F a b->G a b)->Paired G l₁ l₂
 |_,_,.nil,_=>.nil
 |_,_,.cons r t,f=>.cons (f _ _ r) (Paired.mapP t f)
theorem Z0.stay(x:Z0 P w H h a o)(k:∀b u,(b=a∨H b=some (.own a))->h.get? b=some u->h'.get? b=some u)(ho:∀b,H b=some (.own a)->H' b=some (.own a))(ht:∀b xs,H b=some (.tup xs)->H' b=some (.tup xs)):Z0 P w H' h' a o:=by
 induction o with
 |lst xs=>obtain⟨z,its,n,r,e⟩:=x;exact⟨z,its,n,r,k _ _ (.inl rfl) e⟩
 |tup xs=>obtain⟨z,its,r,ob,e,c⟩:=x;exact⟨z,its,r,ob,k _ _ (.inl rfl) e,c⟩
 |dK kvs=>obtain⟨z,y,vs,r,ob,es,ep,e,c⟩:=x;exact⟨z,y,vs,r,ob,es,ep,k _ _ (.inl rfl) e,c⟩
 |dT kvs=>
  obtain⟨z,y,xs,r,ob,es,ep,e,c⟩:=x;exact⟨z,y,xs,Paired.mapP r λp q z=>⟨z.1,ht _ _ z.2.1,z.2.2⟩,ob,es,ep,k _ _ (.inl rfl) e,c⟩
 |set S n=>obtain⟨ob,es,ep,t,e,c⟩:=x;exact⟨ob,es,ep,t,k _ _ (.inl rfl) e,c⟩
 |ins C dx fs=>
  obtain⟨d,z,ne,e,mA,⟨od,es,ep,e2,c⟩,r⟩:=x;exact⟨ho _ d,z,ne,k _ _ (.inl rfl) e,mA,⟨od,es,ep,k _ _ (.inr d) e2,c⟩,r⟩
 |own y=>obtain⟨ob,e⟩:=x;exact⟨ob,k _ _ (.inl rfl) e⟩
 |xd fs=>obtain⟨mA,⟨od,es,ep,e,c⟩,r⟩:=x;exact⟨mA,⟨od,es,ep,k _ _ (.inl rfl) e,c⟩,r⟩
 |rng lo hi=>obtain⟨t,u,v,e⟩:=x;exact⟨t,u,v,k _ _ (.inl rfl) e⟩
 |frz ob u ih=>obtain⟨e,q⟩:=x;exact⟨k _ _ (.inl rfl) e,ih q⟩
 |tbl ps=>
  have e:h.get? a=some {cls:=.none,data:=.fields ps}:=x;show h'.get? a=some {cls:=.none,data:=.fields ps};exact k a _ (.inl rfl) e
 |met f y=>
  have e:h.get? a=some (Rq (.ref f) (.ref y)):=x;show h'.get? a=some (Rq (.ref f) (.ref y));exact k a _ (.inl rfl) e
 |ext φ=>obtain⟨p,⟨o,e⟩,st⟩:=x;exact⟨st _ _ p λo q=>k _ _ (.inl rfl) q,⟨o,k _ _ (.inl rfl) e⟩,st⟩
theorem TF.lt(x:TF P w H h)(e:H a=some o):a<h.objs.size:=(x a o e).lt
theorem TF.fresh(x:TF P w H h)(e:h.objs.size<=a):H a=none:=by
 cases q:H a with
 |none=>rfl
 |some u=>exact absurd (At (x.lt q) e) (Bq _)
theorem TF.kept(x:TF P w H h)(k:∀b u,h.get? b=some u->h'.get? b=some u):TF P w H h':=λa o e=>
 (x a o e).stay (λb u _ q=>k b u q) (λ_ q=>q) λ_ _ q=>q
theorem TF.laid(x:TF P w H h)(k:∀b u,h.get? b=some u->h'.get? b=some u)(hp:h.objs.size<=a)(new:Z0 P w (upd H a o) h' a o):TF P w (upd H a o) h':=λb u e=>by
 have hn:=x.fresh hp;by_cases hb:b=a
 ·subst hb;rw[cF] at e;cases e;exact new
 ·rw[b6 hb] at e
  exact(x b u e).stay (λc v _ q=>k c v q) (λc q=>by rw[b6 (X6 q hn)];exact q) λc xs q=>by rw[b6 (X6 q hn)];exact q
end
def Rd(H:Hp)(a:Ur)(u:HO):Prop:=H a=some u∨∃o,H a=some (.frz o u)
theorem Rd.ok{P:Av}{w:Uy}{H:Hp}{h:Va}{a:Ur}{u:HO}(r:Rd H a u)(x:TF P w H h):Z0 P w H h a u:=by
 rcases r with r|⟨o,r⟩
 ·exact x a u r
 ·obtain⟨_,q⟩:=x a _ r
  exact q
def Mut:Option HO->Prop
 |some (.lst _)=>True
 |some (.dK _)=>True
 |some (.dT _)=>True
 |some (.set _ _)=>True
 |some (.ins _ _ _)=>True
 |some (.ext _)=>True
 |_=>False
section
variable{P:Av}{w:Uy}{H:Hp}{h h':Va}{x e:Ur}{o':HO}
theorem TF.write(ok:TF P w H h)(mu:Mut (H x))(he:e=x∨H e=some (.own x))(k:∀b u,b≠e->h.get? b=some u->h'.get? b=some u)(heo:∃u,h'.get? e=some u)
  (new:Z0 P w (upd H x o') h' x o'):TF P w (upd H x o') h':=λb u q=>by
 have mx:∀c y,H c=some (.own y)->c≠x:=λc y r z=>by subst z;rw[r] at mu;exact mu
 have q8:∀c xs,H c=some (.tup xs)->c≠x:=λc xs r z=>by subst z;rw[r] at mu;exact mu
 by_cases hb:b=x
 ·subst hb;rw[cF] at q;cases q;exact new
 ·rw[b6 hb] at q
  by_cases hbe:b=e
  ·have q':H b=some (.own x):=by
    rcases he with z|z
    ·exact absurd (hbe.trans z) hb
    ·rw[hbe];exact z
   rw[q] at q';cases q';obtain⟨v,hv⟩:=heo;exact⟨v,by rw[hbe];exact hv⟩
  ·refine (ok b u q).stay (λc v hc r => k c v ?_ r) (λc r => by rw [b6 (mx c b r)];exact r) λc xs r => by rw [b6 (q8 c xs r)];exact r
   rcases hc with rfl|hc
   ·exact hbe
   ·rintro rfl
    rcases he with z|z
    ·exact mx c b hc z
    ·rw[hc] at z;cases z;exact hb rfl
end
structure Un(fs ex:List Ur)(H H':Hp)(h h':Va):Prop where
 keep:∀b o,h.get? b=some o->H b=none->b∉fs->b∉ex->h'.get? b=some o
 slot:∀b o,h.get? b=some o->H b=none->b∈fs->b∉ex->∃sl,h'.get? b=some {o with slots:=sl}
 free:∀b o,h.get? b=some o->H b=none->b∉ex->H' b=none
 there:∀b o,h.get? b=some o->b∉ex->∃o',h'.get? b=some o'
 tups:∀b xs,H b=some (.tup xs)->H' b=some (.tup xs)
 frzs:∀b o u,H b=some (.frz o u)->H' b=some (.frz o u)
 tbls:∀b ps,H b=some (.tbl ps)->∃more,H' b=some (.tbl (ps++more))
section
variable{fs fs' ex ex':List Ur}{H H1 H2:Hp}{h h1 h2 h':Va}{a x e:Ur}{o:HO}
theorem Un.any(u:Un fs ex H H1 h h1){b:Ur}{ob:Vc}(q:h.get? b=some ob)(n:H b=none)(hx:b∉ex):∃sl,h1.get? b=some {ob with slots:=sl}:=by
 by_cases hb:b∈fs
 ·exact u.slot b ob q n hb hx
 ·exact⟨ob.slots,u.keep b ob q n hb hx⟩
theorem Un.kept(k:∀b u,h.get? b=some u->h'.get? b=some u):Un fs ex H H h h':=
 ⟨λb ob q _ _ _=>k b ob q,λb ob q _ _ _=>⟨ob.slots,k b ob q⟩,λ_ _ _ n _=>n,λb ob q _=>⟨ob,k b ob q⟩,λ_ _ q=>q,λ_ _ _ q=>q,λ_ ps q=>⟨#[],by rw[q];simp⟩⟩
theorem Un.refl:Un fs ex H H h h:=Un.kept λ_ _ q=>q
theorem Un.laid(k:∀b u,h.get? b=some u->h'.get? b=some u)(hp:h.objs.size<=a)(hn:H a=none):Un fs ex H (upd H a o) h h' where
 keep:=λb u q _ _ _=>k b u q
 slot:=λb u q _ _ _=>⟨u.slots,k b u q⟩
 free:=λb u q n _=>by rw[b6 (Aw (At (Aj q) hp))];exact n
 there:=λb u q _=>⟨u,k b u q⟩
 tups:=λb xs q=>by rw[b6 (X6 q hn)];exact q
 frzs:=λb u xs q=>by rw[b6 (X6 q hn)];exact q
 tbls:=λb ps q=>⟨#[],by rw[b6 (X6 q hn),q];simp⟩
theorem Un.write(mu:Mut (H x))(he:e=x∨H e=some (.own x))(k:∀b u,b≠e->h.get? b=some u->h'.get? b=some u)(heo:∃u,h'.get? e=some u):Un fs ex H (upd H x o) h h':=by
 have hx:∀b,H b=none->b≠x:=λb n z=>by subst z;rw[n] at mu;exact mu
 have hb:∀b,H b=none->b≠e:=λb n z=>by
  subst z;rcases he with r|r
  ·exact hx b n r
  ·rw[n] at r;cases r
 have hm:∀b u,H b=some u->¬Mut (some u)->b≠x:=λb u q nm z=>by subst z;rw[q] at mu;exact nm mu
 refine⟨λb u q n _ _=>k b u (hb b n) q,λb u q n _ _=>⟨u.slots,k b u (hb b n) q⟩,λb u q n _=>by rw[b6 (hx b n)];exact n,λb u q _=>?_,λb xs q=>by rw[b6 (hm b _ q λz=>z)];exact q,λb u xs q=>by rw[b6 (hm b _ q λz=>z)];exact q,λb ps q=>⟨#[],by rw[b6 (hm b _ q λz=>z),q];simp⟩⟩
 by_cases hbe:b=e
 ·subst hbe;exact heo
 ·exact⟨u,k b u hbe q⟩
end
def trk(h:Va)(H:Hp):List Ur:=(Ar h.objs.size).filter λa=>(H a).isSome
def JS(h:Va)(H:Hp):Va:=Rr h (trk h H)
theorem BI(h:Va)(H:Hp):(JS h H).objs.size=h.objs.size:=W.hideAll_size _ _
theorem jZ{h:Va}{H:Hp}{b:Ur}{o:Vc}(e:h.get? b=some o)(n:H b=none):(JS h H).get? b=some o:=
 Lh _ e λhm=>by have q:(H b).isSome=true:=(Hu.mp hm).2;rw[n] at q;simp at q
theorem fK{h:Va}{H:Hp}{b:Ur}{o:Vc}(e:(JS h H).get? b=some o):h.get? b=some o/\H b=none:=by
 have e':h.get? b=some o:=Qi (trk h H) e;refine⟨e',?_⟩;cases q:H b with
 |none=>rfl
 |some x=>
  have hm:b∈trk h H:=Hu.mpr ⟨Ca.mpr (Aj e'),by simp[q]⟩;have z:(JS h H).get? b=none:=Nk (trk h H) hm;rw[z] at e;cases e
structure Mod(K:Ai)(mg:Uw->Option Uq)(base:Va):Prop where
 kin:K.In base
 glob:base.Ns Uu mg
 blt:∃mb,base.Ns builtinsNs mb/\∀x:Uw,x≠ "__name__" ->mb x=Be x
 nolimit:base.NoLimit
structure Cx where
 prog:Av
 w:Uy
 K:Ai
 mg:Uw->Option Uq
 base:Va
 A:Br
 N:List Uw
 s₀:Ad
 H₀:Hp
 env:Env
 outer:List Env
 stack:List Env
 ex:List Ur
 fn:Uw->Bool
 calm:Bool
 pn:List (Ur×Vc)
 xe:Uq->Ad->Prop
def U7(l:List Env):List Ur:=l.filterMap (·.frame)
abbrev Cx.fs(X:Cx):List Ur:=U7 X.outer
def Vis(sc:Vg)(x:Uw):Prop:=sc.names.lookup x=some .local∨sc.names.lookup x=some .cell∨sc.names.lookup x=some .free
def AL(sc:Vg)(x:Uw):Prop:=sc.names.lookup x=some .local∨sc.names.lookup x=some .cell
def Look(env:Env)(h:Va)(m:Uw->Option Uq)(x:Uw)(u:Uq):Prop:=
 (env.kindOf x=some .local/\m x=some u)∨((env.kindOf x=some .cell∨env.kindOf x=some .free)/\∃c,env.cells.lookup x=some c/\h.IsCell c (some u))
structure Cx.Ok(X:Cx):Prop where
 mod:Mod X.K X.mg X.base
 kind:X.env.scope.kind=.function
 glob:X.env.globals=Uu
 blt:X.env.builtins=builtinsNs
 above:X.s₀.heap.objs.size<=X.env.locals
 inj:∀x y c,X.env.cells.lookup x=some c->X.env.cells.lookup y=some c->x=y
 has:∀x,(X.env.kindOf x=some .cell∨X.env.kindOf x=some .free)->∃c,X.env.cells.lookup x=some c
 cab:∀x c,X.fn x=true->X.env.cells.lookup x=some c->X.s₀.heap.objs.size<=c
 hd:X.calm=true->X.A.handled=none
 frames:X.A.frames=some X.stack
 stk:X.stack=X.outer∨(X.stack=X.env::X.outer/\X.env.frame=some X.env.locals)
 exf:∀b∈X.ex,b≠X.env.locals/\∀x c,X.env.cells.lookup x=some c->c≠b
 bs:∀b o,X.base.get? b=some o->X.s₀.heap.get? b=some o/\X.H₀ b=none
 bsz:X.base.objs.size<=X.s₀.heap.objs.size
 noex:∀b o,X.base.get? b=some o->b∉X.ex
 exfs:∀b∈X.ex,b∉X.fs
 funs:X.s₀.heap.FunFrames X.base X.outer
 frf:∀b∈X.fs,X.H₀ b=none
structure cK(X:Cx)(aa:List (Ur×Vc))(σ:List (Option V))(H:Hp)(s:Ad):Prop where
 ok:X.Ok
 os:s.os=X.s₀.os
 bare:Li s.gens
 base:Un X.fs X.ex X.H₀ H X.s₀.heap s.heap
 loc:∃m,s.heap.Ns X.env.locals m/\∀(i:Nat) (x:Uw) (v:V),X.N[i]?=some x->σ[i]?=some (some v)->Vis X.env.scope x->∃u,b5 v u/\Look X.env s.heap m x u
 cell:∀x c,X.env.cells.lookup x=some c->∃v,s.heap.IsCell c v
 free:H X.env.locals=none
 freeC:∀x c,X.env.cells.lookup x=some c->H c=none
 pin:∀p∈X.pn++aa,s.heap.get? p.1=some p.2/\H p.1=none/\p.1≠X.env.locals/\p.1∉X.fs/\∀v,p.2.data≠ .cell v
 hok:TF X.prog X.w H s.heap
 len:σ.length=X.N.length
section
variable{X:Cx}{aa:List (Ur×Vc)}{σ:List (Option V)}{H H':Hp}{s:Ad}{h':Va}
theorem Cx.Ok.nofr(ok:X.Ok){b:Ur}{o:Vc}(e:X.base.get? b=some o):b∉X.fs:=λhb=>by have:=(ok.funs.mem hb).1;rw[e] at this;cases this
theorem cK.bs(I:cK X aa σ H s):∀b o,X.base.get? b=some o->s.heap.get? b=some o/\H b=none:=λb o e=>
 ⟨I.base.keep b o (I.ok.bs b o e).1 (I.ok.bs b o e).2 (I.ok.nofr e) (I.ok.noex b o e),I.base.free b o (I.ok.bs b o e).1 (I.ok.bs b o e).2 (I.ok.noex b o e)⟩
theorem cK.bk(I:cK X aa σ H s):∀b o,X.base.get? b=some o->s.heap.get? b=some o:=λb o e=>(I.bs b o e).1
theorem cK.mod(I:cK X aa σ H s):Mod X.K X.mg X.base:=I.ok.mod
theorem cK.kIn(I:cK X aa σ H s):X.K.In s.heap:=I.ok.mod.kin.keeps I.bk
theorem cK.nolimit(I:cK X aa σ H s):s.heap.NoLimit:=I.ok.mod.nolimit.keeps I.bk
theorem cK.lt(I:cK X aa σ H s):X.env.locals<s.heap.objs.size:=let ⟨_,hn,_⟩:=I.loc;hn.lt
theorem cK.sz(I:cK X aa σ H s):X.s₀.heap.objs.size<=s.heap.objs.size:=Dh I.ok.above (Mk I.lt)
theorem cK.nofs(I:cK X aa σ H s){a:Ur}(h:s.heap.objs.size<=a):a∉X.fs:=λhb=>by obtain⟨_,o,ho,_⟩:=I.ok.funs.mem hb;exact absurd (At (Aj ho) (Dh I.sz h)) (Bq _)
theorem cK.cne(I:cK X aa σ H s):∀x c,X.env.cells.lookup x=some c->c≠X.env.locals:=λx c e z=>by obtain⟨v,o,ho,hd⟩:=I.cell x c e;obtain⟨m,⟨o',es,ep,ho',hd',_⟩,_⟩:=I.loc;rw[z,ho'] at ho;cases ho;rw[hd'] at hd;cases hd
theorem cK.funs(I:cK X aa σ H s):s.heap.FunFrames X.base X.outer:=by
 have all:∀(l:List Env),(∀b∈U7 l,b∈X.fs)->X.s₀.heap.FunFrames X.base l->s.heap.FunFrames X.base l:=by
  intro l;induction l with
  |nil=>intro _ _;trivial
  |cons env r ih=>
   intro hs hl;obtain⟨hk,⟨L,o,hf,hn,ho,hd⟩,hr⟩:=hl;have hL:L∈X.fs:=hs L (by unfold U7;rw[Js,hf];exact Ax);obtain⟨sl,e⟩:=I.base.slot L o ho (I.ok.frf L hL) hL λz=>I.ok.exfs L z hL;exact⟨hk,⟨L,_,hf,hn,e,hd⟩,ih (λb hb=>hs b (by unfold U7;rw[Js,hf];exact Ap _ hb)) hr⟩
 exact all X.outer (λ_ hb=>hb) I.ok.funs
theorem cK.stack(I:cK X aa σ H s):s.heap.FunFrames X.base X.stack:=by
 rcases I.ok.stk with e|⟨e,hf⟩
 ·rw[e];exact I.funs
 ·rw[e]
  obtain⟨m,hn,_⟩:=I.loc;refine .cons (by rw[I.ok.kind];decide) hf hn ?_ I.funs;exact Jk (Dh I.ok.bsz I.ok.above)
theorem cK.stkSub(I:cK X aa σ H s):∀b∈U7 X.stack,b∈X.env.locals::X.fs:=λb hb=>by
 rcases I.ok.stk with e|⟨e,hf⟩
 ·rw[e] at hb;exact Ap _ hb
 ·rw[e] at hb
  unfold U7 at hb;rw[Js,hf] at hb;exact hb
theorem cK.stkFree(I:cK X aa σ H s):∀b∈U7 X.stack,H b=none:=λb hb=>by
 rcases Al.mp (I.stkSub b hb) with e|hb
 ·rw[e];exact I.free
 ·obtain⟨_,o,ho,_⟩:=I.ok.funs.mem hb
  exact I.base.free b o ho (I.ok.frf b hb) λz=>I.ok.exfs b z hb
theorem cK.step{g':Array GenState}{t':Nat}{d':Drawn}{ch:List Ur}(I:cK X aa σ H s)(hch:∀b∈ch,(b∈X.ex∨X.s₀.heap.objs.size<=b)/\b≠X.env.locals/\(∀x c,X.env.cells.lookup x=some c->c≠b)/\∀p∈X.pn++aa,p.1≠b)(keep:∀b o,b≠X.env.locals->b∉X.fs->b∉ch->s.heap.get? b=some o->H b=none->h'.get? b=some o)(slot:∀b o,b≠X.env.locals->b∈X.fs->b∉ch->s.heap.get? b=some o->H b=none->∃sl,h'.get? b=some {o with slots:=sl})(free:∀b o,b∉ch->s.heap.get? b=some o->H b=none->H' b=none)(there:∀b o,b∉ch->s.heap.get? b=some o->∃o',h'.get? b=some o')(tups:∀b xs,H b=some (.tup xs)->H' b=some (.tup xs))(frzs:∀b o u,H b=some (.frz o u)->H' b=some (.frz o u))(tbls:∀b ps,H b=some (.tbl ps)->∃more,H' b=some (.tbl (ps++more)))(ns:∀m,s.heap.Ns X.env.locals m->h'.Ns X.env.locals m)(hok:TF X.prog X.w H' h')(hg:Li g'):cK X aa σ H' {s with heap:=h',gens:=g',drawn:=d',toks:=t'}:=by
 have neL:∀b o,X.s₀.heap.get? b=some o->b≠X.env.locals:=λb o e=>Aw (At (Aj e) I.ok.above);have neC:∀b o,X.s₀.heap.get? b=some o->b∉X.ex->b∉ch:=λb o e hx hb=>by
  rcases(hch b hb).1 with z|z
  ·exact hx z
  ·exact absurd (At (Aj e) z) (Bq _)
 have gl:∀x c,X.env.cells.lookup x=some c->∀v,s.heap.IsCell c v->h'.IsCell c v:=λx c e v q0=>by
  obtain⟨o,ho,hd⟩:=q0;have nch:c∉ch:=λz=>(hch c z).2.2.1 x c e rfl;by_cases hc:c∈X.fs
  ·obtain⟨sl,q⟩:=slot c o (I.cne x c e) hc nch ho (I.freeC x c e)
   exact⟨_,q,hd⟩
  ·exact⟨o,keep c o (I.cne x c e) hc nch ho (I.freeC x c e),hd⟩
 refine⟨I.ok,I.os,hg,⟨λb o e n hb hx=>?_,λb o e n hb hx=>?_,λb o e n hx=>?_,λb o e hx=>?_,λb xs e=>tups b xs (I.base.tups b xs e),λb o xs e=>frzs b o xs (I.base.frzs b o xs e),λb ps e=>?_⟩,?_,λx c e=>?_,?_,λx c e=>?_,λp hp=>?_,hok,I.len⟩
 ·exact keep b o (neL b o e) hb (neC b o e hx) (I.base.keep b o e n hb hx) (I.base.free b o e n hx)
 ·obtain⟨sl,e1⟩:=I.base.slot b o e n hb hx
  obtain⟨sl',e2⟩:=slot b _ (neL b o e) hb (neC b o e hx) e1 (I.base.free b o e n hx);exact⟨sl',e2⟩
 ·obtain⟨o',e1⟩:=I.base.there b o e hx
  exact free b o' (neC b o e hx) e1 (I.base.free b o e n hx)
 ·obtain⟨o',e1⟩:=I.base.there b o e hx
  exact there b o' (neC b o e hx) e1
 ·obtain⟨m1,e1⟩:=I.base.tbls b ps e
  obtain⟨m2,e2⟩:=tbls b _ e1;exact⟨m1++m2,by rw[e2,Array.append_assoc]⟩
 ·obtain⟨m,hn,hl⟩:=I.loc
  refine⟨m,ns m hn,λi x v e1 e2 e3=>?_⟩;obtain⟨u,r,l⟩:=hl i x v e1 e2 e3;refine⟨u,r,?_⟩;rcases l with l|⟨k,c,e,z⟩
  ·exact .inl l
  ·exact .inr ⟨k,c,e,gl x c e _ z⟩
 ·obtain⟨v,z⟩:=I.cell x c e
  exact⟨v,gl x c e v z⟩
 ·obtain⟨m,⟨o,_,_,ho,_⟩,_⟩:=I.loc
  exact free _ o (λz=>(hch _ z).2.1 rfl) ho I.free
 ·obtain⟨v,o,ho,hd⟩:=I.cell x c e
  exact free c o (λz=>(hch c z).2.2.1 x c e rfl) ho (I.freeC x c e)
 ·obtain⟨e,n,ne,nf,d⟩:=I.pin p hp
  have nch:p.1∉ch:=λz=>(hch p.1 z).2.2.2 p hp rfl;exact⟨keep p.1 p.2 ne nf nch e n,free p.1 p.2 nch e n,ne,nf,d⟩
theorem cK.un{t':Nat}(I:cK X aa σ H s)(u:Un X.fs [] H H' s.heap h')(hok:TF X.prog X.w H' h'):cK X aa σ H' {s with heap:=h',toks:=t'}:=by
 obtain⟨m,⟨o,es,ep,ho,r⟩,_⟩:=id I.loc;obtain⟨sl,hL⟩:=u.any ho I.free (by simp);exact I.step (g':=s.gens) (d':=s.drawn) (ch:=[]) (λ_ z=>nomatch z) (λb o _ hb _ e n=>u.keep b o e n hb (by simp)) (λb o _ hb _ e n=>u.slot b o e n hb (by simp)) (λb o _ e n=>u.free b o e n (by simp)) (λb o _ e=>u.there b o e (by simp)) u.tups u.frzs u.tbls (λm' hm=>by obtain⟨o',es',ep',ho',r'⟩:=hm;rw[ho] at ho';cases ho';exact⟨_,es',ep',hL,r'⟩) hok I.bare
theorem cK.call{g':Array GenState}{t':Nat}{d':Drawn}{ch:List Ur}(I:cK X aa σ H s)(u:Un (U7 X.stack) ch H H' s.heap h')(hok:TF X.prog X.w H' h')(hg:Li g')(hch:∀b∈ch,(b∈X.ex∨X.s₀.heap.objs.size<=b)/\b≠X.env.locals/\(∀x c,X.env.cells.lookup x=some c->c≠b)/\∀p∈X.pn++aa,p.1≠b):cK X aa σ H' {s with heap:=h',gens:=g',drawn:=d',toks:=t'}:=by
 obtain⟨m,⟨o,es,ep,ho,r⟩,_⟩:=id I.loc;obtain⟨sl,hL⟩:=u.any ho I.free λz=>(hch _ z).2.1 rfl;exact I.step (ch:=ch) hch (λb o hL hb hc e n=>u.keep b o e n (λz=>(Al.mp (I.stkSub b z)).elim hL hb) hc) (λb o _ _ hc e n=>u.any e n hc) (λb o hc e n=>u.free b o e n hc) (λb o hc e=>u.there b o e hc) u.tups u.frzs u.tbls (λm' hm=>by obtain⟨o',es',ep',ho',r'⟩:=hm;rw[ho] at ho';cases ho';exact⟨_,es',ep',hL,r'⟩) hok hg
theorem cK.turned{t':Nat}{it:Ur}(I:cK X aa σ H s)(k:∀b o,b≠it->s.heap.get? b=some o->h'.get? b=some o)(hn:H it=none)(hL:it≠X.env.locals)(h1:it∈X.ex∨X.s₀.heap.objs.size<=it)(h2:∀x c,X.env.cells.lookup x=some c->c≠it)(h3:∀p∈X.pn++aa,p.1≠it):cK X aa σ H {s with heap:=h',toks:=t'}:=by
 have nit:∀b u,H b=some u->b≠it:=λb u e z=>by rw[z,hn] at e;cases e
 refine I.step (g':=s.gens) (d':=s.drawn) (ch:=[it]) (λb hb=>?_) (λb o _ _ hc e _=>k b o (λz=>hc (by simp[z])) e) (λb o _ _ hc e _=>⟨o.slots,k b o (λz=>hc (by simp[z])) e⟩) (λ_ _ _ _ n=>n)
  (λb o hc e=>⟨o,k b o (λz=>hc (by simp[z])) e⟩) (λ_ _ e=>e) (λ_ _ _ e=>e) (λb ps e=>⟨#[],by rw[e];simp⟩) (λm hm=>?_) (λb u e=>?_) I.bare
 ·have e : b = it := by simpa using hb
  subst e;exact⟨h1,hL,h2,h3⟩
 ·obtain⟨o,es,ep,ho,r⟩:=hm
  exact⟨o,es,ep,k _ o (Dk hL) ho,r⟩
 ·refine (I.hok b u e).stay (λc v hc q => k c v ?_ q) (λ_ q => q) λ_ _ q => q
  rcases hc with z|z
  ·rw[z];exact nit b u e
  ·exact nit c _ z
theorem cK.tok(I:cK X aa σ H s)(t:Nat):cK X aa σ H {s with toks:=t}:=I.un (h':=s.heap) (t':=t) Un.refl I.hok
theorem cK.kept{t':Nat}(I:cK X aa σ H s)(k:∀b u,s.heap.get? b=some u->h'.get? b=some u):cK X aa σ H {s with heap:=h',toks:=t'}:=I.un (Un.kept k) (I.hok.kept k)
theorem cK.laid{a:Ur}{o:HO}{t':Nat}(I:cK X aa σ H s)(k:∀b u,s.heap.get? b=some u->h'.get? b=some u)(hp:s.heap.objs.size<=a)(new:Z0 X.prog X.w (upd H a o) h' a o):cK X aa σ (upd H a o) {s with heap:=h',toks:=t'}:=I.un (Un.laid k hp (I.hok.fresh hp)) (I.hok.laid k hp new)
theorem cK.write{x e:Ur}{o:HO}{t':Nat}(I:cK X aa σ H s)(mu:Mut (H x))(he:e=x∨H e=some (.own x))(k:∀b u,b≠e->s.heap.get? b=some u->h'.get? b=some u)(heo:∃u,h'.get? e=some u)(new:Z0 X.prog X.w (upd H x o) h' x o):cK X aa σ (upd H x o) {s with heap:=h',toks:=t'}:=I.un (Un.write mu he k heo) (I.hok.write mu he k heo new)
theorem cK.weak{σ':List (Option V)}(I:cK X aa σ H s)(hl:σ'.length=σ.length)(w:∀(i:Nat) v,σ'[i]?=some (some v)->σ[i]?=some (some v)):cK X aa σ' H s:=
 ⟨I.ok,I.os,I.bare,I.base,let ⟨m,hn,hl'⟩:=I.loc;⟨m,hn,λi x v e1 e2 e3=>hl' i x v e1 (w i v e2) e3⟩,I.cell,I.free,I.freeC,I.pin,I.hok,hl.trans I.len⟩
theorem cK.pins_of{jy:List (Ur×Vc)}(I:cK X aa σ H s)(h:∀p∈jy,s.heap.get? p.1=some p.2/\H p.1=none/\p.1≠X.env.locals/\p.1∉X.fs/\∀v,p.2.data≠ .cell v):cK X jy σ H s:=
 ⟨I.ok,I.os,I.bare,I.base,I.loc,I.cell,I.free,I.freeC,λp hp=>(Ck.mp hp).elim (λz=>I.pin p (Bk _ z)) (h p),I.hok,I.len⟩
theorem HE{N:List Uw}(hN:N.Nodup){i j:Nat}{x:Uw}(a:N[i]?=some x)(b:N[j]?=some x):i=j:=by obtain⟨h1,e1⟩:=Ah.mp a;obtain⟨h2,e2⟩:=Ah.mp b;exact(Qr hN).mp (e1.trans e2.symm)
theorem Q1{M:Vm}{A:Br}{E:Uq->Ad->Prop}{i:Nat}{x:Uw}{v:V}{u:Uq}{Q:Unit->Ad->Prop}(I:cK X aa σ H s)(hN:X.N.Nodup)(hi:X.N[i]?=some x)(hx:AL X.env.scope x)(r:b5 v u)(h:∀s',cK X aa (σ.set i (some v)) H s'->(∃a,Ey a s.heap s'.heap/\(a=X.env.locals∨X.env.cells.lookup x=some a))->Q () s')(hf:X.fn x=true∨X.env.scope.names.lookup x=some .local:=by first|exact .inl rfl|exact .inr rfl|assumption):Ut M A (storeName X.env x u) Q E s:=by
 obtain⟨m,hn,hl⟩:=id I.loc;have rh:(X.env.scope.kind== .class || (X.env.scope.kind== .module&&X.env.locals !=X.env.globals))=false:=by rw[I.ok.kind];rfl
 have hiσ:i<σ.length:=by rw[I.len];exact(Ah.mp hi).1
 have cne:=I.cne;have i4:∀{a:Ur} {h':Va},(∃o,s.heap.get? a=some o/\H a=none)->Ey a s.heap h'->TF X.prog X.w H h':=λ{a h'} ha hs b ob e=>by
  obtain⟨_,_,br⟩:=ha;refine(I.hok b ob e).stay (λc w' hc q=>(hs.2 c ?_).trans q) (λ_ q=>q) λ_ _ q=>q;rintro rfl;rcases hc with rfl|hc
  ·rw[br] at e;cases e
  ·rw[br] at hc;cases hc
 rcases hx with hk|hk
 ·refine wpAny_storeName_local hk hn (λh' hn' hs => ?_) rh
  obtain⟨oL,_,_,hoL,_⟩:=id hn;refine h _ ⟨I.ok,I.os,I.bare,⟨λb o e n hb hx=>?_,λb o e n hb hx=>?_,I.base.free,λb o e hx=>?_,I.base.tups,I.base.frzs,I.base.tbls⟩,⟨_,hn',λj y v' e1 e2 e3=>?_⟩,λy c e=>?_,I.free,I.freeC,λp hp=>?_,i4 ⟨oL,hoL,I.free⟩ hs,by simpa using I.len⟩ ⟨_,hs,.inl rfl⟩
  ·exact(hs.2 b (Aw (At (Aj e) I.ok.above))).trans (I.base.keep b o e n hb hx)
  ·obtain⟨sl,e1⟩:=I.base.slot b o e n hb hx
   exact⟨sl,(hs.2 b (Aw (At (Aj e) I.ok.above))).trans e1⟩
  ·obtain⟨o',e1⟩:=I.base.there b o e hx
   exact⟨o',(hs.2 b (Aw (At (Aj e) I.ok.above))).trans e1⟩
  ·by_cases hj:j=i
   ·subst hj
    rw[hi] at e1;cases e1;rw[Db hiσ] at e2;cases e2;exact⟨u,r,.inl ⟨hk,by simp⟩⟩
   ·rw[Bu (Dk hj)] at e2
    obtain⟨u',r',q⟩:=hl j y v' e1 e2 e3;refine⟨u',r',?_⟩;rcases q with⟨k,e⟩|⟨k,c,e,z⟩
    ·refine .inl ⟨k,?_⟩
     have:y≠x:=λe=>hj (HE hN e1 (e▸hi));simp[this,e]
    ·exact .inr ⟨k,c,e,z.sameBut hs (cne y c e)⟩
  ·obtain⟨w',z⟩:=I.cell y c e
   exact⟨w',z.sameBut hs (cne y c e)⟩
  ·obtain⟨e,n,ne,nf,d⟩:=I.pin p hp
   exact⟨(hs.2 p.1 ne).trans e,n,ne,nf,d⟩
 ·have hfn:X.fn x=true:=by
   rcases hf with z|z
   ·exact z
   ·rw[z] at hk;cases hk
  obtain⟨c,hc⟩:=I.ok.has x (.inl hk);obtain⟨w',z⟩:=I.cell x c hc;refine wpAny_storeName_cell I.ok.kind hk hc z (λh' hc' hs=>?_);obtain⟨oc,hoc,qq⟩:=id z;refine h {s with heap:=h'} ⟨I.ok,I.os,I.bare,⟨λb o e n hb hx=>?_,λb o e n hb hx=>?_,I.base.free,λb o e hx=>?_,I.base.tups,I.base.frzs,I.base.tbls⟩,⟨m,hn.sameBut hs (Dk (cne x c hc)),λj y v' e1 e2 e3=>?_⟩,λy c' e=>?_,I.free,I.freeC,λp hp=>?_,i4 ⟨oc,hoc,I.freeC x c hc⟩ hs,by simpa using I.len⟩ ⟨c,hs,.inr hc⟩
  ·exact(hs.2 b (Aw (At (Aj e) (I.ok.cab x c hfn hc)))).trans (I.base.keep b o e n hb hx)
  ·obtain⟨sl,e1⟩:=I.base.slot b o e n hb hx
   exact⟨sl,(hs.2 b (Aw (At (Aj e) (I.ok.cab x c hfn hc)))).trans e1⟩
  ·obtain⟨o',e1⟩:=I.base.there b o e hx
   exact⟨o',(hs.2 b (Aw (At (Aj e) (I.ok.cab x c hfn hc)))).trans e1⟩
  ·by_cases hj:j=i
   ·subst hj
    rw[hi] at e1;cases e1;rw[Db hiσ] at e2;cases e2;exact⟨u,r,.inr ⟨.inl hk,c,hc,hc'⟩⟩
   ·rw[Bu (Dk hj)] at e2
    obtain⟨u',r',q⟩:=hl j y v' e1 e2 e3;refine⟨u',r',?_⟩;rcases q with q|⟨k,c',e,z'⟩
    ·exact .inl q
    ·refine .inr ⟨k,c',e,z'.sameBut hs ?_⟩
     rintro rfl;exact hj (HE hN e1 (I.ok.inj _ _ _ e hc▸hi))
  ·by_cases hcc:c'=c
   ·subst hcc;exact⟨_,hc'⟩
   ·obtain⟨w2,z2⟩:=I.cell y c' e
    exact⟨w2,z2.sameBut hs hcc⟩
  ·obtain⟨e,n,ne,nf,d⟩:=I.pin p hp
   refine⟨(hs.2 p.1 ?_).trans e,n,ne,nf,d⟩;intro q;rw[q,hoc] at e;have q':oc=p.2:=Bx e;exact d w' (by rw[<-q'];exact qq)
theorem Y2{M:Vm}{A:Br}{E:Uq->Ad->Prop}{i:Nat}{x:Uw}{v:V}{u:Uq}{Q:Unit->Ad->Prop}(I:cK X aa σ H s)(hN:X.N.Nodup)(hi:X.N[i]?=some x)(hx:AL X.env.scope x)(r:b5 v u)(h:∀s',cK X aa (σ.set i (some v)) H s'->Q () s')(hf:X.fn x=true∨X.env.scope.names.lookup x=some .local:=by first|exact .inl rfl|exact .inr rfl|assumption):Ut M A (storeName X.env x u) Q E s:=
 Q1 I hN hi hx r (λs' I' _=>h s' I') hf
theorem cK.call'{s':Ad}{ch:List Ur}(I:cK X aa σ H s)(ho:s'.os=s.os)(u:Un (U7 X.stack) ch H H' s.heap s'.heap)(hok:TF X.prog X.w H' s'.heap)(hg:Li s'.gens)(hch:∀b∈ch,(b∈X.ex∨X.s₀.heap.objs.size<=b)/\b≠X.env.locals/\(∀x c,X.env.cells.lookup x=some c->c≠b)/\∀p∈X.pn++aa,p.1≠b):cK X aa σ H' s':=by obtain⟨h',g',d',t',o'⟩:=s';have e:o'=s.os:=ho;subst e;exact I.call (g':=g') (t':=t') (d':=d') u hok hg hch
end
abbrev XK:=Uq->Option Ur->Hp->Prop
abbrev St:=List (Option V)
abbrev VK:=V->Hp->Prop
abbrev TE:=St->Hp->VK->Prop
abbrev TT:=St->Hp->(Bool->Hp->Prop)->Prop
abbrev TA:=St->Hp->(List V->Hp->Prop)->Prop
structure MM where
 nx:St->Hp->Prop
 rt:VK
 bk:St->Hp->Prop:=λ_ _=>False
 ct:St->Hp->Prop:=λ_ _=>False
abbrev TS:=MM->St->Hp->Prop
def EP(X:Cx)(aa:List (Ur×Vc))(σ:St)(Q:VK)(u:Uq)(s':Ad):Prop:=∃v H',cK X aa σ H' s'/\b5 v u/\Q v H'
def TP(X:Cx)(aa:List (Ur×Vc))(σ:St)(Q:Bool->Hp->Prop)(b:Bool)(s':Ad):Prop:=∃H',cK X aa σ H' s'/\Q b H'
def AP(X:Cx)(aa:List (Ur×Vc))(σ:St)(Q:List V->Hp->Prop)(us:List Uq)(s':Ad):Prop:=∃vs H',cK X aa σ H' s'/\bN vs us/\Q vs H'
def SP(X:Cx)(aa:List (Ur×Vc))(D:MM)(f:Flow)(s':Ad):Prop:=
 match f with
 |.next=>∃σ' H',cK X aa σ' H' s'/\D.nx σ' H'
 |.brk=>∃σ' H',cK X aa σ' H' s'/\D.bk σ' H'
 |.cont=>∃σ' H',cK X aa σ' H' s'/\D.ct σ' H'
 |.ret u=>∃v σ' H',cK X aa σ' H' s'/\b5 v u/\D.rt v H'
def PE(X:Cx)(e:Ux)(t:TE):Prop:=
 ∀(aa:List (Ur×Vc)) (s:Ad) (σ:St) (H:Hp) (Q:VK),cK X aa σ H s->t σ H Q->Ut (Uv X.prog X.w) X.A (eval e X.env) (EP X aa σ Q) X.xe s
def PT(X:Cx)(e:Ux)(t:TT):Prop:=
 ∀(aa:List (Ur×Vc)) (s:Ad) (σ:St) (H:Hp) (Q:Bool->Hp->Prop),cK X aa σ H s->t σ H Q->Ut (Uv X.prog X.w) X.A (isTrue e X.env (eval e X.env)) (TP X aa σ Q) X.xe s
def PW(X:Cx)(e:Ux)(t:TT):Prop:=
 ∀(c9:Vk Uq) (aa:List (Ur×Vc)) (s:Ad) (σ:St) (H:Hp) (Q:Bool->Hp->Prop),cK X aa σ H s->t σ H Q->Ut (Uv X.prog X.w) X.A (isTrue e X.env c9) (TP X aa σ Q) X.xe s
theorem PW.pt{X:Cx}{e:Ux}{t:TT}(h:PW X e t):PT X e t:=h _
def PA(X:Cx)(es:List Ux)(t:TA):Prop:=
 ∀(pos:Pos) (aa:List (Ur×Vc)) (s:Ad) (σ:St) (H:Hp) (Q:List V->Hp->Prop),cK X aa σ H s->t σ H Q->Ut (Uv X.prog X.w) X.A (spliced (Dv pos (Us es X.env))) (AP X aa σ Q) X.xe s
def PS(X:Cx)(st:Vd)(t:TS):Prop:=
 ∀(aa:List (Ur×Vc)) (s:Ad) (σ:St) (H:Hp) (D:MM),cK X aa σ H s->t D σ H->Ut (Uv X.prog X.w) X.A (exec st X.env) (SP X aa D) X.xe s
def W2(X:Cx)(st:List Vd)(t:TS):Prop:=
 ∀(aa:List (Ur×Vc)) (s:Ad) (σ:St) (H:Hp) (D:MM),cK X aa σ H s->t D σ H->Ut (Uv X.prog X.w) X.A (execs st X.env) (SP X aa D) X.xe s
theorem ZN{α:Type}{t:Vk α}{Q Q':α->Ad->Prop}{M:Vm}{A:Br}{E:Uq->Ad->Prop}{s:Ad}(h:Ut M A t Q E s)(hQ:∀a s,Q a s->Q' a s):Ut M A t Q' E s:=Aq h hQ λ_ _ x=>x
section
variable{X:Cx}
def KJ(i:Nat):TE:=λσ H Q=>∃v,σ[i]?=some (some v)/\Q v H
def tC(v:V):TE:=λ_ H Q=>Q v H
theorem FP{i:Nat}{x:Uw}{pos:Pos}(hN:X.N[i]?=some x)(hv:Vis X.env.scope x)(hd:(x==("__debug__":Uw))=false:=by decide)(hcd:(x==("__classdict__":Uw))=false:=by decide):PE X (.Name x pos) (KJ i):=by
 intro aa s σ H Q I h;obtain⟨v,e,h⟩:=h;obtain⟨m,hn,hl⟩:=I.loc;obtain⟨u,r,l⟩:=hl i x v hN e hv;have fin:EP X aa σ Q u s:=⟨v,H,I,r,h⟩;rcases l with⟨hk,hm⟩|⟨hk,c,hc,k7⟩
 ·exact Kw (Hd I.ok.kind hk hn hm fin) hd
 ·rcases hk with hk|hk
  ·exact Kw (wpAny_loadName_cell I.ok.kind hk hc k7 fin) hd
  ·exact Kw (wpAny_loadName_free I.ok.kind hk hc k7 fin hcd) hd
theorem gQ{i j pos}:PE X (.Constant (.int i) j pos) (tC (.int i)):=λ_ _ _ H _ I h=>wpAny_Constant_int ⟨.int i,H,I.tok _,⟨_,rfl⟩,h⟩
theorem fW{b j pos}:PE X (.Constant (.bool b) j pos) (tC (.bl b)):=λ_ _ _ H _ I h=>Constant_bool ⟨.bl b,H,I,rfl,h⟩
theorem rn{j pos}:PE X (.Constant .none j pos) (tC .non):=λ_ _ _ H _ I h=>Constant_none ⟨.non,H,I,rfl,h⟩
theorem Xv{x j pos}:PE X (.Constant (.str x) j pos) (tC (.str x)):=λ_ _ _ H _ I h=>Oh ⟨.str x,H,I.tok _,⟨_,rfl⟩,h⟩
def Gl(X:Cx)(x:Uw):Prop:=X.env.kindOf x=some .globalImplicit
theorem VQ{E:Uq->Ad->Prop}{aa:List (Ur×Vc)}{s:Ad}{σ:St}{H:Hp}{x:Uw}{u:Uq}{pos:Pos}{Q:Uq->Ad->Prop}(I:cK X aa σ H s)(hg:Gl X x)(hm:X.mg x=some u)(h:Q u s)(hd:(x==("__debug__":Uw))=false:=by decide):Ut (Uv X.prog X.w) X.A (eval (.Name x pos) X.env) Q E s:=
 Ha I.ok.kind hg (Lj (by rw[I.ok.glob];exact I.mod.glob.keeps I.bk) hm h) hd
theorem VO{E:Uq->Ad->Prop}{aa:List (Ur×Vc)}{s:Ad}{σ:St}{H:Hp}{x:Uw}{u:Uq}{pos:Pos}{Q:Uq->Ad->Prop}(I:cK X aa σ H s)(hg:Gl X x)(hm:X.mg x=none)(hv:Be x=some u)(h:Q u s)(hn:x≠ "__name__":=by decide)(hd:(x==("__debug__":Uw))=false:=by decide):Ut (Uv X.prog X.w) X.A (eval (.Name x pos) X.env) Q E s:=by obtain⟨mb,h1,h2⟩:=I.mod.blt;exact Ha I.ok.kind hg (Calls.loadGlobal_builtin (by rw[I.ok.glob];exact I.mod.glob.keeps I.bk) hm (by rw[I.ok.blt];exact h1.keeps I.bk) ((h2 x hn).trans hv) h) hd
theorem iZ{x:Uw}{v:V}{u:Uq}{pos:Pos}(hg:Gl X x)(hm:X.mg x=some u)(r:b5 v u)(hd:(x==("__debug__":Uw))=false:=by decide):PE X (.Name x pos) (tC v):=
 λ_ _ _ H _ I h=>VQ I hg hm ⟨v,H,I,r,h⟩ hd
theorem lD{x:Uw}{v:V}{u:Uq}{pos:Pos}(hg:Gl X x)(hm:X.mg x=none)(hv:Be x=some u)(r:b5 v u)(hn:x≠ "__name__":=by decide)(hd:(x==("__debug__":Uw))=false:=by decide):PE X (.Name x pos) (tC v):=
 λ_ _ _ H _ I h=>VO I hg hm hv ⟨v,H,I,r,h⟩ hn hd
variable{a b:Ux}{ta tb:TE}{pos:Pos}
def tB(t:TE):TT:=λσ H Q=>t σ H λx H1=>∃c,x=.bl c/\Q c H1
theorem mP{e:Ux}{t:TE}(h:PE X e t)(he:∀c9,isTrue e X.env c9=(do let v<-c9;Ml e.pos;Ti [v] (truthy v)):=by intro _;rfl):PT X e (tB t):=by intro aa s σ H Q I hw;refine isTrue_plain (ZN (h aa s σ H _ I hw) λv s1 ⟨x,H1,I1,r1,q1⟩=>?_) (he _);obtain⟨d,rfl,q⟩:=q1;cases r1;exact Ea ⟨H1,I1,q⟩
variable{tA tB':TT}{rest:List Ux}
def tAnd(t u:TT):TT:=λσ H Q=>t σ H λc H1=>if c=true then u σ H1 Q else Q false H1
def tOr(t u:TT):TT:=λσ H Q=>t σ H λc H1=>if c=true then Q true H1 else u σ H1 Q
def tNot(t:TT):TT:=λσ H Q=>t σ H λc H1=>Q (!c) H1
theorem lF(ha:PT X a tA):PW X (.BoolOp .And [a] pos) tA:=by
 intro wh aa s σ H Q I h;refine isTrue_and (ZN (ha aa s σ H Q I h) λc s1 e=>?_);cases c with
 |true=>exact isTrue_and_nil e
 |false=>exact e
theorem iY(ha:PT X a tA):PW X (.BoolOp .Or [a] pos) tA:=by
 intro wh aa s σ H Q I h;refine isTrue_or (ZN (ha aa s σ H Q I h) λc s1 e=>?_);cases c with
 |false=>exact isTrue_or_nil e
 |true=>exact e
theorem dR(ha:PT X a tA)(hb:PW X (.BoolOp .And (b::rest) pos) tB'):PW X (.BoolOp .And (a::b::rest) pos) (tAnd tA tB'):=by
 intro wh aa s σ H Q I h;refine isTrue_and (ZN (ha aa s σ H _ I h) λc s1 ⟨H1,I1,q1⟩=>?_);cases c with
 |true=>exact hb wh aa s1 σ H1 Q I1 q1
 |false=>exact⟨H1,I1,q1⟩
theorem lU(ha:PT X a tA)(hb:PW X (.BoolOp .Or (b::rest) pos) tB'):PW X (.BoolOp .Or (a::b::rest) pos) (tOr tA tB'):=by
 intro wh aa s σ H Q I h;refine isTrue_or (ZN (ha aa s σ H _ I h) λc s1 ⟨H1,I1,q1⟩=>?_);cases c with
 |true=>exact⟨H1,I1,q1⟩
 |false=>exact hb wh aa s1 σ H1 Q I1 q1
theorem kS(ha:PT X a tA):PT X (.UnaryOp .Not a pos) (tNot tA):=by intro aa s σ H Q I h;exact isTrue_not (ha aa s σ H (λc H1=>Q (!c) H1) I h)
def mU(ta tb:TE):TE:=λσ H Q=>ta σ H λx H1=>∃c,x=.bl c/\if c=true then tb σ H1 Q else Q (.bl false) H1
def tOrV(ta tb:TE):TE:=λσ H Q=>ta σ H λx H1=>∃c,x=.bl c/\if c=true then Q (.bl true) H1 else tb σ H1 Q
def eU(ta:TE):TE:=λσ H Q=>ta σ H λx H1=>∃c,x=.bl c/\Q (.bl (!c)) H1
theorem eL{op}{t:TE}(h:PE X a t):PE X (.BoolOp op [a] pos) t:=λaa s σ H Q I hw=>BoolOp_one (h aa s σ H Q I hw)
theorem oW(ha:PE X a ta)(hb:PE X (.BoolOp .And (b::rest) pos) tb):PE X (.BoolOp .And (a::b::rest) pos) (mU ta tb):=by
 intro aa s σ H Q I h;refine BoolOp_and (ZN (ha aa s σ H _ I h) λv s1 ⟨x,H1,I1,r1,q1⟩=>?_);obtain⟨c,rfl,q1⟩:=q1;cases r1;refine Ea ?_;cases c with
 |true=>exact hb aa s1 σ H1 Q I1 q1
 |false=>exact⟨.bl false,H1,I1,rfl,q1⟩
theorem gZ(ha:PE X a ta)(hb:PE X (.BoolOp .Or (b::rest) pos) tb):PE X (.BoolOp .Or (a::b::rest) pos) (tOrV ta tb):=by
 intro aa s σ H Q I h;refine BoolOp_or (ZN (ha aa s σ H _ I h) λv s1 ⟨x,H1,I1,r1,q1⟩=>?_);obtain⟨c,rfl,q1⟩:=q1;cases r1;refine Ea ?_;cases c with
 |false=>exact hb aa s1 σ H1 Q I1 q1
 |true=>exact⟨.bl true,H1,I1,rfl,q1⟩
theorem gJ(ha:PE X a ta):PE X (.UnaryOp .Not a pos) (eU ta):=by intro aa s σ H Q I h;refine UnaryOp_ (ZN (ha aa s σ H _ I h) λv s1 ⟨x,H1,I1,r1,q1⟩=>?_);obtain⟨c,rfl,q1⟩:=q1;cases r1;exact not_of (Ea ⟨.bl (!c),H1,I1,rfl,q1⟩)
def tIf(t:TT)(ta tb:TE):TE:=λσ H Q=>t σ H λc H1=>if c=true then ta σ H1 Q else tb σ H1 Q
theorem HI{c:Ux}(hc:PT X c tA)(ha:PE X a ta)(hb:PE X b tb):PE X (.IfExp c a b pos) (tIf tA ta tb):=by
 intro aa s σ H Q I h;refine wpAny_IfExp (ZN (hc aa s σ H _ I h) λd s1 ⟨H1,I1,q1⟩=>?_);cases d with
 |true=>exact ha aa s1 σ H1 Q I1 q1
 |false=>exact hb aa s1 σ H1 Q I1 q1
end
def YA(K:Ai)(H:Hp)(a:Ur)(xs:List V):Prop:=
 Rd H a (.lst xs)∨
  ∃(o:Vc) (its:Array Uq) (n:Nat),K.lookup a=some o/\o.cls=.type "list" /\o.dict=none/\o.data=.seq its n/\its.size<=sizeLine/\bN xs its.toList
def WM(K:Ai)(H:Hp)(a:Ur)(xs:List V):Prop:=
 Rd H a (.tup xs)∨
  ∃(o:Vc) (its:Array Uq) (n:Nat),K.lookup a=some o/\o.cls=.type "tuple" /\o.data=.seq its n/\its.size<=sizeLine/\bN xs its.toList
noncomputable def absV:Uq->Option V
 |.none=>some .non
 |.bool b=>some (.bl b)
 |.int i _=>some (.int i)
 |.str x _=>some (.str x)
 |.bytes b _=>some (.byt b)
 |.float b _=>some (.flt b)
 |.ref a=>some (.ref a)
 |.type n=>some (.ty n)
 |_=>none
theorem b5.abs{x:V}{u:Uq}(r:b5 x u):absV u=some x:=by
 cases x with
 |non=>cases r;rfl
 |bl _=>cases r;rfl
 |int _=>obtain⟨t,rfl⟩:=r;rfl
 |str _=>obtain⟨t,rfl⟩:=r;rfl
 |byt _=>obtain⟨t,rfl⟩:=r;rfl
 |flt _=>obtain⟨t,rfl⟩:=r;rfl
 |ref _=>cases r;rfl
 |ty _=>cases r;rfl
theorem b5.inj{x y:V}{u:Uq}(r:b5 x u)(q:b5 y u):x=y:=Bx (r.abs.symm.trans q.abs)
theorem bN.inj:∀{xs ys:List V} {us:List Uq},bN xs us->bN ys us->xs=ys
 |_,_,_,.nil,.nil=>rfl
 |_,_,_,.cons r t,.cons r' t'=>by rw[r.inj r',bN.inj t t']
section
variable{X:Cx}{aa:List (Ur×Vc)}{σ:St}{H:Hp}{s:Ad}{a:Ur}{xs ys:List V}
theorem YA.of{K:Ai}(h:H a=some (.lst xs)):YA K H a xs:=.inl (.inl h)
theorem WM.of{K:Ai}(h:H a=some (.tup xs)):WM K H a xs:=.inl (.inl h)
theorem cK.list(I:cK X aa σ H s)(h:YA X.K H a xs):∃its:List Uq,bN xs its/\PlainL s.heap a its.toArray/\xs.length<=sizeLine:=by
 rcases h with h|⟨o,its,n,hk,hc,hd,hs,hz,r⟩
 ·obtain⟨z,its,n,r,e⟩:=h.ok I.hok
  exact⟨its,r,⟨_,n,e,rfl,rfl,rfl⟩,z⟩
 ·refine ⟨its.toList,r,⟨o,n,I.kIn a o hk,hc,hd,by simpa using hs⟩,?_⟩
  have e:=r.length;simp only[Ge] at e;lia
theorem cK.tuple(I:cK X aa σ H s)(h:WM X.K H a xs):∃its:List Uq,bN xs its/\IsTup s.heap a its.toArray/\xs.length<=sizeLine:=by
 rcases h with h|⟨o,its,n,hk,hc,hs,hz,r⟩
 ·obtain⟨z,its,r,p⟩:=h.ok I.hok
  exact⟨its,r,p,z⟩
 ·refine ⟨its.toList,r,⟨o,I.kIn a o hk,hc,n,by simpa using hs⟩,?_⟩
  have e:=r.length;simp only[Ge] at e;lia
theorem cK.list_inj(I:cK X aa σ H s)(h:YA X.K H a xs)(h':YA X.K H a ys):xs=ys:=by
 obtain⟨its,r,⟨o,n,e,_,_,d⟩,_⟩:=I.list h;obtain⟨its',r',⟨o',n',e',_,_,d'⟩,_⟩:=I.list h';rw[e] at e';cases e';rw[d] at d';injection d' with d1 _;have:its=its':=by simpa using congrArg Tx d1
 subst this;exact r.inj r'
theorem cK.tuple_inj(I:cK X aa σ H s)(h:WM X.K H a xs)(h':WM X.K H a ys):xs=ys:=by
 obtain⟨its,r,⟨o,e,_,n,d⟩,_⟩:=I.tuple h;obtain⟨its',r',⟨o',e',_,n',d'⟩,_⟩:=I.tuple h';rw[e] at e';cases e';rw[d] at d';injection d' with d1 _;have:its=its':=by simpa using congrArg Tx d1
 subst this;exact r.inj r'
end
abbrev Cx.wish(X:Cx)(E:Uq->Ad->Prop):Cx:={X with xe:=E}
abbrev Cx.nox(X:Cx):Cx:=X.wish λ_ _=>False
theorem Cx.Ok.wish{X:Cx}(ok:X.Ok)(E:Uq->Ad->Prop):(X.wish E).Ok:=
 ⟨ok.mod,ok.kind,ok.glob,ok.blt,ok.above,ok.inj,ok.has,ok.cab,ok.hd,ok.frames,ok.stk,ok.exf,ok.bs,ok.bsz,ok.noex,ok.exfs,ok.funs,ok.frf⟩
theorem Cx.Ok.unwish{X:Cx}{E:Uq->Ad->Prop}(ok:(X.wish E).Ok):X.Ok:=
 ⟨ok.mod,ok.kind,ok.glob,ok.blt,ok.above,ok.inj,ok.has,ok.cab,ok.hd,ok.frames,ok.stk,ok.exf,ok.bs,ok.bsz,ok.noex,ok.exfs,ok.funs,ok.frf⟩
section
variable{X:Cx}{aa:List (Ur×Vc)}{σ:St}{H:Hp}{s:Ad}{E:Uq->Ad->Prop}
theorem cK.wish(I:cK X aa σ H s)(E:Uq->Ad->Prop):cK (X.wish E) aa σ H s:=⟨I.ok.wish E,I.os,I.bare,I.base,I.loc,I.cell,I.free,I.freeC,I.pin,I.hok,I.len⟩
theorem cK.unwish(I:cK (X.wish E) aa σ H s):cK X aa σ H s:=⟨I.ok.unwish,I.os,I.bare,I.base,I.loc,I.cell,I.free,I.freeC,I.pin,I.hok,I.len⟩
theorem SP.unwish{D:MM}{f:Flow}{s':Ad}(h:SP (X.wish E) aa D f s'):SP X aa D f s':=by
 cases f with
 |next=>obtain⟨σ',H',I,q⟩:=h;exact⟨σ',H',I.unwish,q⟩
 |brk=>obtain⟨σ',H',I,q⟩:=h;exact⟨σ',H',I.unwish,q⟩
 |cont=>obtain⟨σ',H',I,q⟩:=h;exact⟨σ',H',I.unwish,q⟩
 |ret u=>obtain⟨v,σ',H',I,r,q⟩:=h;exact⟨v,σ',H',I.unwish,r,q⟩
theorem W2.nox{st:List Vd}{t:TS}(h:W2 X.nox st t):W2 X st t:=λaa s σ H D I hw=>
 Aq (h aa s σ H D (I.wish _) hw) (λ_ _ q=>q.unwish) λ_ _ z=>Gv z
end
section
variable{X:Cx}{st:Vd}{rest:List Vd}{t u:TS}{e:Ux}{te:TE}{pos:Pos}
def qC:TS:=λD σ H=>D.nx σ H
def tSeq(t u:TS):TS:=λD σ H=>t {D with nx:=u D} σ H
theorem DW:W2 X [] qC:=λ_ _ σ H _ I h=>Hv ⟨σ,H,I,h⟩
theorem RU(h1:PS X st t)(h2:W2 X rest u):W2 X (st::rest) (tSeq t u):=by
 intro aa s σ H D I h;refine Lw (ZN (h1 aa s σ H {D with nx:=u D} I h) λf s1 q=>?_);cases f with
 |next=>
  obtain⟨σ',H',I',q⟩:=q;exact h2 aa s1 σ' H' D I' q
 |ret v=>exact q
 |brk=>exact q
 |cont=>exact q
theorem cK.quiet{aa:List (Ur×Vc)}{σ:St}{H:Hp}{s:Ad}(I:cK X aa σ H s):Rs X.env=false:=by simp[Rs,I.ok.kind]
def jO(te:TE):TS:=λD σ H=>te σ H λ_ H1=>D.nx σ H1
theorem J6(he:PE X e te)(hs:Ve e none pos.line X.env=pure false:=by rfl):PS X (.Expr e pos) (jO te):=by intro aa s σ H D I h;exact wpAny_Expr_any (ZN (he aa s σ H _ I h) λv s1 ⟨x,H1,I1,r1,q1⟩=>⟨σ,H1,I1,q1⟩) I.quiet hs
def tRet(te:TE):TS:=λD σ H=>te σ H D.rt
theorem FU(he:PE X e te):PS X (.Return (some e) pos) (tRet te):=by intro aa s σ H D I h;exact wpAny_Return_some (ZN (he aa s σ H _ I h) λv s1 ⟨x,H1,I1,r1,q1⟩=>⟨x,σ,H1,I1,r1,q1⟩)
def tIfS(c:TT)(t u:TS):TS:=λD σ H=>c σ H λb H1=>if b=true then t D σ H1 else u D σ H1
theorem Yg{c:Ux}{a b:List Vd}{tc:TT}(hc:PT X c tc)(ha:W2 X a t)(hb:W2 X b u):PS X (.If c a b pos) (tIfS tc t u):=by
 intro aa s σ H D I h;refine wpAny_If (ZN (hc aa s σ H _ I h) λd s1 ⟨H1,I1,q1⟩=>?_);cases d with
 |true=>exact ha aa s1 σ H1 D I1 q1
 |false=>exact hb aa s1 σ H1 D I1 q1
def gO:TS:=λ_ _ _=>False
theorem B6{sts:List Vd}:W2 X sts gO:=λ_ _ _ _ _ _ h=>h.elim
end
abbrev TG:=V->St->Hp->(St->Hp->Prop)->Prop
abbrev AR:=List V->St->Hp->(St->Hp->Prop)->Prop
def PG(X:Cx)(cq:Ux)(t:TG):Prop:=
 ∀(aa:List (Ur×Vc)) (s:Ad) (σ:St) (H:Hp) (v:V) (u:Uq) (Q:St->Hp->Prop),cK X aa σ H s->b5 v u->t v σ H Q->
  Ut (Uv X.prog X.w) X.A (Fv cq X.env u) (λ_ s'=>∃σ' H',cK X aa σ' H' s'/\Q σ' H') X.xe s
def CW(X:Cx)(ts:List Ux)(t:AR):Prop:=
 ∀(aa:List (Ur×Vc)) (s:Ad) (σ:St) (H:Hp) (vs:List V) (us:List Uq) (Q:St->Hp->Prop),cK X aa σ H s->bN vs us->t vs σ H Q->
  Ut (Uv X.prog X.w) X.A (Vi ((Uz ts X.env).map (·.2)) us) (λ_ s'=>∃σ' H',cK X aa σ' H' s'/\Q σ' H') X.xe s
section
variable{X:Cx}{pos:Pos}
def GX(i:Nat):TG:=λv σ H Q=>Q (σ.set i (some v)) H
theorem PH{i:Nat}{x:Uw}(hN:X.N.Nodup)(hi:X.N[i]?=some x)(hx:AL X.env.scope x)(hf:X.fn x=true∨X.env.scope.names.lookup x=some .local:=by first|exact .inl rfl|exact .inr rfl|assumption):PG X (.Name x pos) (GX i):=by intro aa s σ H v u Q I r h;exact Gw (Y2 I hN hi hx r (λs' I'=>⟨_,H,I',h⟩) hf)
def gNil:AR:=λvs σ H Q=>vs=[]/\Q σ H
def iX(t:TG)(u:AR):AR:=λvs σ H Q=>∃v r,vs=v::r/\t v σ H λσ' H'=>u r σ' H' Q
theorem DS:CW X [] gNil:=by intro aa s σ H vs us Q I r h;obtain⟨e,h⟩:=h;subst e;cases r;exact Iq ⟨σ,H,I,h⟩
theorem RS{e:Ux}{es:List Ux}{t:TG}{u:AR}(h1:PG X e t)(h2:CW X es u)(hs:(Uz (e::es) X.env).map (·.2)=Fv e X.env::(Uz es X.env).map (·.2):=by rfl):CW X (e::es) (iX t u):=by
 intro aa s σ H vs us Q I r h;obtain⟨v,vr,e1,h⟩:=h;subst e1;cases r with
 |cons r rr=>
  rw[hs];refine Ed (ZN (h1 aa s σ H _ _ _ I r h) λ_ s1 ⟨σ1,H1,I1,q1⟩=>?_);exact h2 aa s1 σ1 H1 _ _ Q I1 rr q1
def gTup(K:Ai)(n:Nat)(t:AR):TG:=λv σ H Q=>∃a xs,v=.ref a/\WM K H a xs/\xs.length=n/\t xs σ H Q
theorem rJ{es:List Ux}{k:Nat}{t:AR}{n:Nat}(hc:X.calm=true)(h:CW X es t)(hn:(Uz es X.env).length=n:=by rfl)(hst:(Uz es X.env).findIdx? (·.1)=none:=by rfl):PG X (.Tuple es k pos) (gTup X.K n t):=by intro aa s σ H v u Q I r hw;obtain⟨a,xs,e1,hq,hl,hw⟩:=hw;subst e1;cases r;obtain⟨its,rv,ht,hz⟩:=I.tuple hq;refine assign_Tuple_tuple (I.ok.hd hc) ht (by simp[hn,<-hl,rv.length]) hst λh' hx=>?_;have I1:cK X aa σ H {s with heap:=h'}:=I.kept (t':=s.toks) λb o e=>hx b o (Aw (Aj e)) e;exact h aa _ σ H xs _ Q I1 (by simpa using rv) hw
def tAsg(te:TE)(g:TG):TS:=λD σ H=>te σ H λx H1=>g x σ H1 D.nx
theorem FT{tg e:Ux}{te:TE}{g:TG}(he:PE X e te)(hg:PG X tg g)(hs:Gf [tg] e pos.line X.env=pure false:=by rfl)(hw:Gg [tg] e X.env=pure none:=by rfl)(h1:(Uz [tg] X.env).map (·.2)=[Fv tg X.env]:=by rfl):PS X (.Assign [tg] e pos) (tAsg te g):=by intro aa s σ H D I h;refine wpAny_Assign_stores (ZN (he aa s σ H _ I h) λv s1 ⟨x,H1,I1,r1,q1⟩=>?_) hs hw;rw[h1];exact ZN (hg aa s1 σ H1 x v _ I1 r1 q1) λ_ s2 q=>q
theorem rG{i:Nat}{x:Uw}{e:Ux}{te:TE}{d7:Pos}(hN:X.N.Nodup)(hi:X.N[i]?=some x)(hx:AL X.env.scope x)(he:PE X e te)(hs:Ve e (some (.Name x d7)) pos.line X.env=pure false:=by rfl)(hf:X.fn x=true∨X.env.scope.names.lookup x=some .local:=by first|exact .inl rfl|exact .inr rfl|assumption):PS X (.Assign [.Name x d7] e pos) (tAsg te (GX i)):=by intro aa s σ H D I h;refine wpAny_Assign_Name (ZN (he aa s σ H _ I h) λv s1 ⟨y,H1,I1,r1,q1⟩=>?_) hs;exact Y2 I1 hN hi hx r1 (λs2 I2=>⟨_,H1,I2,q1⟩) hf
def tPar(i j:Nat)(ta:TA):TS:=λD σ H=>ta σ H λvs H1=>∃v w,vs=[v,w]/\D.nx ((σ.set i (some v)).set j (some w)) H1
theorem qL{i j:Nat}{x y:Uw}{a b:Ux}{ta:TA}{px py pt:Pos}{kt k2 pt2}(hc:X.calm=true)(hN:X.N.Nodup)(hi:X.N[i]?=some x)(hj:X.N[j]?=some y)(hij:i≠j)(hx:X.env.scope.names.lookup x=some .local)(hy:X.env.scope.names.lookup y=some .local)(ha:PA X [a,b] ta)(hw:Gg [.Tuple [.Name x px,.Name y py] kt pt] (.Tuple [a,b] k2 pt2) X.env=pure (some [x,y]))(hs:Gf [.Tuple [.Name x px,.Name y py] kt pt] (.Tuple [a,b] k2 pt2) pos.line X.env=pure false:=by rfl):PS X (.Assign [.Tuple [.Name x px,.Name y py] kt pt] (.Tuple [a,b] k2 pt2) pos) (tPar i j ta):=by
 intro aa s σ H D I h;rw[exec_Assign_arm];refine Aa (Dd ?_);rw[hs];refine Aa (Ag ?_);rw[if_neg (by decide)];refine Aa (Tuple_ (ZN (ha _ aa s σ H _ I h) λus s1 ⟨vs,H1,I1,r1,q1⟩=>?_));obtain⟨v,w,e1,q1⟩:=q1;subst e1;obtain⟨u1,u2,rfl,rv,rw'⟩:∃u1 u2,us=[u1,u2]/\b5 v u1/\b5 w u2:=by
  cases r1 with
  |cons p q=>
   cases q with
   |cons p' q'=>
    cases q';exact⟨_,_,rfl,p,p'⟩
 refine Cm ?_ (by show 2<=sizeLine;decide);have I2:cK X aa σ H1 {s1 with heap:=s1.heap.push {cls:=.type "tuple",data:=.seq [u1,u2].toArray}}:=I1.kept (t':=s1.toks) λb o e=>Ac _ e;rw[hw];refine Aa (Ag ?_);show Ut (Uv X.prog X.w) X.A (do rule "assign.swapped-stores";let items<-Jt (.ref s1.heap.objs.size) 2 none;Vi [λv=>Iy X.env y v,λv=>Iy X.env x v] items.reverse;pure Flow.next) _ _ _;refine Aa (Gk (Aa (Pp (items:= #[u1,u2]) (I.ok.hd hc) (Ju s1.heap _) λh' hx'=>?_)));have I3:=I2.kept (h':=h') (t':=s1.toks) λb o e=>hx' b o (Aw (Aj e)) e;show Ut _ _ (Vi [λv=>Iy X.env y v,λv=>Iy X.env x v] [u2,u1]>>=λ_=>pure Flow.next) _ _ _;refine Aa (Ed (Iz (Y2 I3 hN hj (.inl hy) rw' (λs2 I4=>?_) (.inr hy))));refine Ed (Iz (Y2 I4 hN hi (.inl hx) rv (λs3 I5=>Iq (Ag ?_)) (.inr hx)));rw[Em _ _ (Dk hij)] at I5;exact⟨_,H1,I5,q1⟩
end
section
variable{X:Cx}{pos:Pos}
def kY(c:TT)(tb:TS):TS:=λD σ H=>∃W:Nat->St->Hp->Prop,(∃m,W m σ H)/\∀m σ H,W m σ H->
 c σ H λb H1=>if b=true then∃N:St->Hp->Prop,(∀σ' H',N σ' H'->∃m',m'<m/\W m' σ' H')/\tb {D with nx:=N,ct:=N,bk:=D.nx} σ H1 else D.nx σ H1
theorem rD{c:Ux}{body:List Vd}{tc:TT}{tb:TS}(hp:Rt (Uv X.prog X.w) X.A X.env X.xe)(hc:PT X c tc)(hb:W2 X body tb):PS X (.While c body [] pos) (kY tc tb):=by
 intro aa s σ H D I h;obtain⟨W,⟨m0,w0⟩,turn⟩:=h;refine wpAny_While (codeAny_whileLoop (λn s'=>∃σ' H',cK X aa σ' H' s'/\W n σ' H') ?_ m0 ⟨σ,H,I,w0⟩);rintro n s1 ⟨σ1,H1,I1,w1⟩;refine Fw hp (ZN (hc aa s1 σ1 H1 _ I1 (turn n σ1 H1 w1)) λb s2 ⟨H2,I2,q2⟩=>?_);cases b with
 |true=>
  obtain⟨N,hN,q2⟩:=q2;rw[if_pos rfl];refine Fw hp (ZN (hb aa s2 σ1 H2 _ I2 q2) λf s3 q3=>?_);cases f with
  |next=>
   obtain⟨σ3,H3,I3,n3⟩:=q3;obtain⟨m',hm,w3⟩:=hN σ3 H3 n3;exact⟨m',hm,σ3,H3,I3,w3⟩
  |cont=>
   obtain⟨σ3,H3,I3,n3⟩:=q3;obtain⟨m',hm,w3⟩:=hN σ3 H3 n3;exact⟨m',hm,σ3,H3,I3,w3⟩
  |brk=>exact q3
  |ret v=>exact q3
 |false=>
  rw[if_neg Cs];exact Hv ⟨σ1,H2,I2,q2⟩
end
structure It where
 go:Nat->Hp->Prop
 yld:Nat->Hp->V->Hp->Prop
 stop:Nat->Hp->Prop
def QF(X:Cx)(aa:List (Ur×Vc))(H:Hp)(b:Ur):Prop:=
 H b=none/\b≠X.env.locals/\b∉X.fs/\(b∈X.ex∨X.s₀.heap.objs.size<=b)/\(∀x c,X.env.cells.lookup x=some c->c≠b)/\∀p∈X.pn++aa,p.1≠b
theorem cK.fpOk{X:Cx}{aa:List (Ur×Vc)}{σ:St}{H H':Hp}{s:Ad}{b:Ur}(I:cK X aa σ H s)(hb:s.heap.objs.size<=b)(hn:H' b=none):QF X aa H' b:=by
 refine⟨hn,Gp (At I.lt hb),I.nofs hb,.inr (Dh I.sz hb),λx c e z=>?_,λp hp z=>?_⟩
 ·obtain⟨v,q⟩:=I.cell x c e
  exact absurd (At q.lt (by rw[z];exact hb)) (Bq _)
 ·exact absurd (At (Aj (I.pin p hp).1) (by rw[z];exact hb)) (Bq _)
structure IZ(P:Av)(w:Uy)(K:Ai)(tg:Ux)(J:It)(fp:List Ur)(it:Ur)(tn:Nat->Va->Prop):Prop where
 mem:it∈fp
 obj:∀i h,tn i h->∀b∈fp,∃o,h.get? b=some o/\∀v,o.data≠ .cell v
 keep:∀i h h',tn i h->(∀b∈fp,∀o,h.get? b=some o->h'.get? b=some o)->tn i h'
 item:∀(X:Cx),X.prog=P->X.w=w->X.K=K->X.calm=true->∀(i:Nat) (aa:List (Ur×Vc)) (s:Ad) (σ:St) (H:Hp) (E:Uq->Ad->Prop),cK X aa σ H s->(∀b∈fp,QF X aa H b)->tn i s.heap->J.go i H->
  Ut (Uv P w) X.A (pyNext (.ref it)) (λr s1=>∃u,r=some u∧
   Ut (Uv P w) X.A (Fb tg (.ref it) u) (λ_ s2=>∃x H',cK X aa σ H' s2/\b5 x u/\J.yld i H x H'/\tn (i+1) s2.heap/\∀b∈fp,H' b=none) E s1) E s
 done:∀(X:Cx),X.prog=P->X.w=w->X.K=K->X.calm=true->∀(i:Nat) (aa:List (Ur×Vc)) (s:Ad) (σ:St) (H:Hp) (E:Uq->Ad->Prop),cK X aa σ H s->(∀b∈fp,QF X aa H b)->tn i s.heap->J.stop i H->
  Ut (Uv P w) X.A (pyNext (.ref it)) (λr s1=>r=none/\cK X aa σ H s1) E s
 self:∀(A:Br) (i:Nat) (s:Ad) (Q:Uq->Ad->Prop) (E:Uq->Ad->Prop),tn i s.heap->Q (.ref it) s->Ut (Uv P w) A (Ru (.ref it)) Q E s
abbrev TI:=St->Hp->(It->Hp->Prop)->Prop
def PIE(X:Cx)(aa:List (Ur×Vc))(σ:St)(tg:Ux)(R:It->Hp->Prop)(itv:Uq)(s2:Ad):Prop:=
 ∃(it:Ur) (fp:List Ur) (tn:Nat->Va->Prop) (J:It) (H':Hp),itv=.ref it/\cK X aa σ H' s2/\IZ X.prog X.w X.K tg J fp it tn/\tn 0 s2.heap/\(∀b∈fp,QF X aa H' b)/\R J H'
def PI(X:Cx)(tg iter:Ux)(wi:TI):Prop:=
 ∀(aa:List (Ur×Vc)) (s:Ad) (σ:St) (H:Hp) (R:It->Hp->Prop),cK X aa σ H s->wi σ H R->
  Ut (Uv X.prog X.w) X.A (eval iter X.env) (λv s1=>Ut (Uv X.prog X.w) X.A (Ru v) (PIE X aa σ tg R) X.xe s1) X.xe s
theorem C9{M:Vm}{A:Br}{E:Uq->Ad->Prop}{s:Ad}{tg:Ux}{it:Ur}{u:Uq}{o:Vc}{n:String}{vs:Array Uq}{Q:Unit->Ad->Prop}(ho:s.heap.get? it=some o)(hc:o.cls= .type n)(hd:o.data= .fields vs)(hn:["enumerate","zip","dict_itemiterator","dict_reverseitemiterator","odict_iterator","itertools.zip_longest","itertools.pairwise"].contains n=false)(hQ:Q () s):Ut M A (Fb tg (.ref it) u) Q E s:=by
  unfold Fb;cases tg<;>first
    |exact Ag hQ
    |(cases u<;>first
        |exact Ag hQ
        | (refine Aa (wpAny_load ho ?_)
           rw[hc,hd];show Ut M A (if(["enumerate","zip","dict_itemiterator","dict_reverseitemiterator","odict_iterator","itertools.zip_longest","itertools.pairwise"].contains n&&vs[0]? ==some (rawInt _))=true then _ else _) Q E s;rw[if_neg (by intro h;rw[hn,Bool.false_and] at h;cases h)];exact Ag hQ))
def Itl(K:Ai)(a:Ur):It:=
 ⟨λi H=>∃xs x,YA K H a xs/\xs[i]?=some x,λi H x H'=>H'=H/\∀xs,YA K H a xs->xs[i]?=some x,λi H=>∃xs,YA K H a xs/\xs.length<=i⟩
def Itt(K:Ai)(a:Ur):It:=
 ⟨λi H=>∃xs x,WM K H a xs/\xs[i]?=some x,λi H x H'=>H'=H/\∀xs,WM K H a xs->xs[i]?=some x,λi H=>∃xs,WM K H a xs/\xs.length<=i⟩
def Itr(lo:Int)(n:Nat):It:=⟨λi _=>i<n,λi H x H'=>H'=H/\x=.int (lo+i),λi _=>n<=i⟩
theorem CI{P:Av}{w:Uy}{K:Ai}{tg:Ux}(a it:Ur):IZ P w K tg (Itl K a) [it] it (λi h=>h.IsListIter it a i) where
 mem:=by simp
 obj:=λi h st b hb=>by
  have e:b=it:=by simpa using hb
  subst e;obtain⟨o,e,c,d⟩:=st;exact⟨o,e,λv z=>by rw[d] at z;cases z⟩
 keep:=λi h h' st k=>st.at λo e=>k it (by simp) o e
 item:=by intro X hP hw hK hc i aa s σ H E I hf st hg;subst hP hw hK;obtain⟨xs,x,hq,hx⟩:=hg;obtain⟨its,rv,p,hz⟩:=I.list hq;obtain⟨u,hu,ru⟩:=rv.get hx;obtain⟨f0,f1,f2,f3,f4,f5⟩:=hf it (by simp);refine Md st p.isList (x:=u) (by simpa using hu) λh' st' sb=>?_;have I1:cK X aa σ H {s with heap:=h'}:=I.turned (t':=s.toks) (λb o hb e=>(sb.2 b hb).trans e) f0 f1 f3 f4 f5;obtain⟨o,e,c,d⟩:=id st';exact⟨u,rfl,C9 (s:={s with heap:=h'}) e c d (by decide) ⟨x,H,I1,ru,⟨rfl,λys hy=>by rw[I.list_inj hy hq];exact hx⟩,st',λb hb=>(hf b hb).1⟩⟩
 done:=by intro X hP hw hK hc i aa s σ H E I hf st hg;subst hP hw hK;obtain⟨xs,hq,hx⟩:=hg;obtain⟨its,rv,p,hz⟩:=I.list hq;obtain⟨f0,f1,f2,f3,f4,f5⟩:=hf it (by simp);have hl:=rv.length;exact Mm (I.ok.hd hc) st p.isList (by simp;lia) λh' eb=>⟨rfl,I.turned (t':=s.toks) (λb o hb e=>eb b o hb e) f0 f1 f3 f4 f5⟩
 self:=λ_ _ _ _ _ st h=>wpAny_pyIter_listiter st h
theorem GA{P:Av}{w:Uy}{K:Ai}{tg:Ux}(a it:Ur):IZ P w K tg (Itt K a) [it] it (λi h=>h.IsTupleIter it a i) where
 mem:=by simp
 obj:=λi h st b hb=>by
  have e:b=it:=by simpa using hb
  subst e;obtain⟨o,e,c,d⟩:=st;exact⟨o,e,λv z=>by rw[d] at z;cases z⟩
 keep:=λi h h' st k=>st.at λo e=>k it (by simp) o e
 item:=by intro X hP hw hK hc i aa s σ H E I hf st hg;subst hP hw hK;obtain⟨xs,x,hq,hx⟩:=hg;obtain⟨its,rv,p,hz⟩:=I.tuple hq;obtain⟨u,hu,ru⟩:=rv.get hx;obtain⟨f0,f1,f2,f3,f4,f5⟩:=hf it (by simp);refine wpAny_pyNext_tuple_item st (show s.heap.IsTuple a its.toArray from p) (x:=u) (by simpa using hu) λh' st' sb=>?_;have I1:cK X aa σ H {s with heap:=h'}:=I.turned (t':=s.toks) (λb o hb e=>(sb.2 b hb).trans e) f0 f1 f3 f4 f5;obtain⟨o,e,c,d⟩:=id st';exact⟨u,rfl,C9 (s:={s with heap:=h'}) e c d (by decide) ⟨x,H,I1,ru,⟨rfl,λys hy=>by rw[I.tuple_inj hy hq];exact hx⟩,st',λb hb=>(hf b hb).1⟩⟩
 done:=by intro X hP hw hK hc i aa s σ H E I hf st hg;subst hP hw hK;obtain⟨xs,hq,hx⟩:=hg;obtain⟨its,rv,p,hz⟩:=I.tuple hq;obtain⟨f0,f1,f2,f3,f4,f5⟩:=hf it (by simp);have hl:=rv.length;exact wpAny_pyNext_tuple_end (I.ok.hd hc) st (show s.heap.IsTuple a its.toArray from p) (by simp;lia) λh' eb=>⟨rfl,I.turned (t':=s.toks) (λb o hb e=>eb b o hb e) f0 f1 f3 f4 f5⟩
 self:=λ_ _ _ _ _ st h=>wpAny_pyIter_tupleiter st h
theorem F9{P:Av}{w:Uy}{K:PySem.W.Frag}{tg:Ux}(it:Ur)(lo:Int)(n:Nat):IZ P w K tg (Itr lo n) [it] it (λi h=>Lk h it (lo+(i:Nat)*1) ((n:Int) - (i:Nat)) 1) where
 mem:=by simp
 obj:=λi h st b hb=>by
  have e:b=it:=by simpa using hb
  subst e;exact⟨_,st,λv z=>by have z':Data.fields _=Data.cell v:=z;cases z'⟩
 keep:=λi h h' st k=>k it (by simp) _ st
 item:=by intro X hP hw hK hc i aa s σ H E I hf st hg;subst hP hw hK;obtain⟨f0,f1,f2,f3,f4,f5⟩:=hf it (by simp);have W:=Uh (prog:=X.prog) (w:=X.w) (I.ok.hd hc) it lo 1 n;refine W.item i s _ _ hg st λv h' tk hv st' kk=>?_;obtain⟨t,rfl⟩:=hv;have I1:cK X aa σ H {s with heap:=h',toks:=tk}:=I.turned (λb o hb e=>kk b o (by simpa using hb) e) f0 f1 f3 f4 f5;refine⟨_,rfl,C9 (s:={s with heap:=h',toks:=tk}) (n:= "range_iterator") st' rfl rfl (by decide) ⟨.int (lo+i),H,I1,⟨t,?_⟩,⟨rfl,rfl⟩,st',λb hb=>(hf b hb).1⟩⟩;rw[Int.mul_one]
 done:=by intro X hP hw hK hc i aa s σ H E I hf st hg;subst hP hw hK;obtain⟨f0,f1,f2,f3,f4,f5⟩:=hf it (by simp);exact Me (I.ok.hd hc) st (by have:n<=i:=hg;lia) λh' eb=>⟨rfl,I.turned (t':=s.toks) (λb o hb e=>eb b o hb e) f0 f1 f3 f4 f5⟩
 self:=λ_ _ _ _ _ st h=>Il st h
section
variable{X:Cx}{tg:Ux}
def Yh(K:Ai)(tl:TE):TI:=λσ H R=>tl σ H λx H1=>∃a,x=.ref a/\(∃xs,YA K H1 a xs)/\R (Itl K a) H1
def iTup(K:Ai)(tl:TE):TI:=λσ H R=>tl σ H λx H1=>∃a,x=.ref a/\(∃xs,WM K H1 a xs)/\R (Itt K a) H1
theorem nK{l:Ux}{tl:TE}(hl:PE X l tl):PI X tg l (Yh X.K tl):=by
 intro aa s σ H R I h;refine ZN (hl aa s σ H _ I h) λv s1 ⟨x,H1,I1,r1,q1⟩=>?_;obtain⟨a,e,⟨xs,hq⟩,q⟩:=q1;subst e;cases r1;obtain⟨its,rv,p,hz⟩:=I1.list hq;refine Fx p.isList ?_;refine⟨s1.heap.objs.size,[s1.heap.objs.size],_,_,H1,rfl,I1.kept (t':=s1.toks) λb o e=>Ac _ e,CI a _,⟨_,Ao _ rfl,rfl,rfl⟩,λb hb=>?_,q⟩;have e:b=s1.heap.objs.size:=by simpa using hb
 subst e;exact I1.fpOk (Am _) (I1.hok.fresh (Am _))
theorem kU{l:Ux}{tl:TE}(hl:PE X l tl):PI X tg l (iTup X.K tl):=by
 intro aa s σ H R I h;refine ZN (hl aa s σ H _ I h) λv s1 ⟨x,H1,I1,r1,q1⟩=>?_;obtain⟨a,e,⟨xs,hq⟩,q⟩:=q1;subst e;cases r1;obtain⟨its,rv,p,hz⟩:=I1.tuple hq;refine Hw (show s1.heap.IsTuple a its.toArray from p) ?_;refine⟨s1.heap.objs.size,[s1.heap.objs.size],_,_,H1,rfl,I1.kept (t':=s1.toks) λb o e=>Ac _ e,GA a _,⟨_,Ao _ rfl,rfl,rfl⟩,λb hb=>?_,q⟩;have e:b=s1.heap.objs.size:=by simpa using hb
 subst e;exact I1.fpOk (Am _) (I1.hok.fresh (Am _))
theorem HQ{aa:List (Ur×Vc)}{σ:St}{H:Hp}{s:Ad}{R:It->Hp->Prop}{E:Uq->Ad->Prop}{lo hi:Int}{t u v:Vl}{tk:Nat}(I:cK X aa σ H s)(h1: -(2 ^ 62)<=lo)(h2:lo<2 ^ 62)(h3: -(2 ^ 62)<=hi)(h4:hi<2 ^ 62)(q:R (Itr lo (hi - lo).toNat) H):Ut (Uv X.prog X.w) X.A (Ru (.ref s.heap.objs.size)) (PIE X aa σ tg R) E {s with heap:=s.heap.push {cls:=.type "range",data:=.fields #[.int lo t,.int hi u,.int 1 v]},toks:=tk}:=by
 refine wpAny_pyIter_range (Ui ..) (small_one h1 h2 h3 h4) ?_;have I1:cK X aa σ H {s with heap:=s.heap.push {cls:=.type "range",data:=.fields #[.int lo t,.int hi u,.int 1 v]},toks:=tk}:=I.kept λb o e=>Ac _ e;refine⟨(s.heap.push {cls:=.type "range",data:=.fields #[.int lo t,.int hi u,.int 1 v]}).objs.size,[(s.heap.push {cls:=.type "range",data:=.fields #[.int lo t,.int hi u,.int 1 v]}).objs.size],_,_,H,rfl,I1.kept (t':=tk) λb o e=>Ac _ e,F9 _ lo (hi - lo).toNat,?_,λb hb=>?_,q⟩
 ·have e1 : lo + ((0 : Nat) : Int) * 1 = lo := by simp
  have e2:(((hi - lo).toNat:Nat):Int) - ((0:Nat):Int)=Gh lo hi 1:=by rw[rangeSize_one];split<;>lia
  show Lk _ _ (lo+((0:Nat):Int)*1) ((((hi - lo).toNat:Nat):Int) - ((0:Nat):Int)) 1;rw[e1,e2];exact Ao _ rfl
 ·have e : b = (s.heap.push { cls := .type "range",data := .fields #[.int lo t,.int hi u,.int 1 v] }).objs.size := by simpa using hb
  subst e;exact I1.fpOk (Am _) (I1.hok.fresh (Am _))
def pZ(ta:TA):TI:=λσ H R=>ta σ H λvs H1=>∃j:Int,vs=[.int j]/\ -(2 ^ 62)<=j/\j<2 ^ 62/\R (Itr 0 j.toNat) H1
def oO(ta:TA):TI:=λσ H R=>ta σ H λvs H1=>∃i j:Int,vs=[.int i,.int j]/\(-(2 ^ 62)<=i/\i<2 ^ 62/\ -(2 ^ 62)<=j/\j<2 ^ 62)/\R (Itr i (j - i).toNat) H1
theorem B0{a:Ux}{ta:TA}{p pos:Pos}(hg:Gl X "range")(hm:X.mg "range"=none)(ha:PA X [a] ta)(hs:Us [a] X.env=[(false,eval a X.env)]:=by rfl):PI X tg (.Call (.Name "range" p) [a] [] pos) (pZ ta):=by
 intro aa s σ H R I h;refine Call_ (VO I hg hm Tb (Cn (ZN (ha pos aa s σ H _ I h) λus s1 ⟨vs,H1,I1,r1,q1⟩=>?_) hs rfl));obtain⟨j,e,q1,q2,q⟩:=q1;subst e;cases r1 with
 |cons r rr=>
  cases rr;obtain⟨t,rfl⟩:=r;exact Qj (HQ I1 (by lia) (by lia) q1 q2 (by simpa using q))
theorem B4{a b:Ux}{ta:TA}{p pos:Pos}(hg:Gl X "range")(hm:X.mg "range"=none)(ha:PA X [a,b] ta)(hs:Us [a,b] X.env=[(false,eval a X.env),(false,eval b X.env)]:=by rfl)(hs2:Us [b] X.env=[(false,eval b X.env)]:=by rfl):PI X tg (.Call (.Name "range" p) [a,b] [] pos) (oO ta):=by
 intro aa s σ H R I h;refine Call_ (VO I hg hm Tb (Cn (ZN (ha pos aa s σ H _ I h) λus s1 ⟨vs,H1,I1,r1,q1⟩=>?_) (by rw[hs,hs2]) (by rw[hs2];rfl)));obtain⟨i,j,e,⟨q1,q2,q3,q4⟩,q⟩:=q1;subst e;cases r1 with
 |cons r rr=>
  cases rr with
  |cons r' rr=>
   cases rr;obtain⟨t,rfl⟩:=r;obtain⟨t',rfl⟩:=r';exact call_range_2 (HQ I1 q1 q2 q3 q4 q)
def tFor(wi:TI)(g:TG)(tb:TS):TS:=λD σ H=>wi σ H λJ H1=>∃W:Nat->Nat->St->Hp->Prop,(∃m,W 0 m σ H1)/\∀i m σ H,W i m σ H->
 (J.stop i H/\D.nx σ H)∨(J.go i H/\∃N:St->Hp->Prop,(∀σ' H',N σ' H'->∃m',m'<m/\W (i+1) m' σ' H')/\∀x H',J.yld i H x H'->g x σ H' λσ2 H2=>tb {D with nx:=N,ct:=N,bk:=D.nx} σ2 H2)
def SW(fp:List Ur)(h:Va):List (Ur×Vc):=fp.filterMap λb=>(h.get? b).map λo=>(b,o)
theorem ZA{fp:List Ur}{h:Va}{b:Ur}{o:Vc}(hb:b∈fp)(e:h.get? b=some o):(b,o)∈SW fp h:=Hx.mpr ⟨b,hb,by rw[e];rfl⟩
theorem BX{fp:List Ur}{h:Va}{p:Ur×Vc}(hp:p∈SW fp h):p.1∈fp/\h.get? p.1=some p.2:=by
 obtain⟨b,hb,e⟩:=Hx.mp hp;cases q:h.get? b with
 |none=>rw[q] at e;cases e
 |some o=>
  rw[q] at e;have e':(b,o)=p:=Bx e;subst e';exact⟨hb,q⟩
theorem cK.pinned{aa:List (Ur×Vc)}{σ:St}{H:Hp}{s:Ad}{fp:List Ur}(I:cK X aa σ H s)(hf:∀b∈fp,QF X aa H b)(ho:∀b∈fp,∃o,s.heap.get? b=some o/\∀v,o.data≠ .cell v):cK X (aa++SW fp s.heap) σ H s:=
 I.pins_of λp hp=>(Ck.mp hp).elim (λz=>I.pin p (Au _ z)) λz=>by obtain⟨hb,e⟩:=BX z;obtain⟨f0,f1,f2,_⟩:=hf p.1 hb;obtain⟨o,e',d⟩:=ho p.1 hb;rw[e] at e';cases e';exact⟨e,f0,f1,f2,d⟩
theorem cK.unpinned{aa pl:List (Ur×Vc)}{σ:St}{H:Hp}{s:Ad}(I:cK X (aa++pl) σ H s):cK X aa σ H s:=I.pins_of λp hp=>I.pin p (Au _ (Bk _ hp))
theorem lP{iter:Ux}{body:List Vd}{wi:TI}{g:TG}{tb:TS}{pos:Pos}(hp:Rt (Uv X.prog X.w) X.A X.env X.xe)(hc:X.calm=true)(hi:PI X tg iter wi)(hg:PG X tg g)(hb:W2 X body tb)(hs:∀x,Vb iter X.env x=pure x:=by intro _;rfl):PS X (.For tg iter body [] pos) (tFor wi g tb):=by
 intro aa s σ H D I h;refine wpAny_For (ZN (hi aa s σ H _ I h) λv s1 h1=>ZN h1 λitv s2 h2=>?_) hs;obtain⟨it,fp,tn,J,H2,e,I2,T,st2,f2,W,⟨m0,w0⟩,turn⟩:=h2;subst e;have stat:∀{H':Hp},(∀b∈fp,H' b=none)->∀b∈fp,QF X aa H' b:=λhn b hb=>⟨hn b hb,(f2 b hb).2⟩;refine codeAny_forLoop_any (λn s'=>∃i σ' H',cK X aa σ' H' s'/\tn i s'.heap/\(∀b∈fp,H' b=none)/\W i n σ' H') ?_ m0 ⟨0,σ,H2,I2,st2,λb hb=>(f2 b hb).1,w0⟩;rintro n s3 ⟨i,σ3,H3,I3,st3,fr3,w3⟩;rcases turn i n σ3 H3 w3 with⟨stop,qn⟩|⟨go,N,hN,step⟩
 ·refine Fw hp (ZN (T.done X rfl rfl rfl hc i aa s3 σ3 H3 X.xe I3 (stat fr3) st3 stop) λr s4 ⟨hr,I4⟩ => ?_)
  subst hr;exact Hv ⟨σ3,H3,I4,qn⟩
 ·refine Fw hp (ZN (T.item X rfl rfl rfl hc i aa s3 σ3 H3 X.xe I3 (stat fr3) st3 go) λr s4 ⟨u,hr,h4⟩ => ?_)
  subst hr;refine Fw hp (ZN h4 λ_ s5 ⟨x,H5,I5,r5,y5,st5,fr5⟩=>?_);have I5':=I5.pinned (stat fr5) (T.obj _ _ st5);refine Fw hp (ZN (hg _ s5 σ3 H5 x u _ I5' r5 (step x H5 y5)) λ_ s6 ⟨σ6,H6,I6,q6⟩=>?_);refine Fw hp (ZN (hb _ s6 σ6 H6 _ I6 q6) λf s7 q7=>?_);have again:∀{σ7:St} {H7:Hp},cK X (aa++SW fp s5.heap) σ7 H7 s7->N σ7 H7->∃m,m<n/\∃i σ' H',cK X aa σ' H' s7/\tn i s7.heap/\(∀b∈fp,H' b=none)/\W i m σ' H':=λ{σ7 H7} I7 n7=>by obtain⟨m',hm,w7⟩:=hN σ7 H7 n7;refine⟨m',hm,i+1,σ7,H7,I7.unpinned,T.keep _ _ _ st5 λb hb o e=>(I7.pin (b,o) (Au _ (Au _ (ZA hb e)))).1,λb hb=>?_,w7⟩;obtain⟨o,e,d⟩:=T.obj _ _ st5 b hb;exact(I7.pin (b,o) (Au _ (Au _ (ZA hb e)))).2.1
  cases f with
  |next=>obtain⟨σ7,H7,I7,n7⟩:=q7;exact again I7 n7
  |cont=>obtain⟨σ7,H7,I7,n7⟩:=q7;exact again I7 n7
  |brk=>obtain⟨σ7,H7,I7,q7⟩:=q7;exact⟨σ7,H7,I7.unpinned,q7⟩
  |ret v=>obtain⟨x7,σ7,H7,I7,r7,q7⟩:=q7;exact⟨x7,σ7,H7,I7.unpinned,r7,q7⟩
end
abbrev R2:=V->V->Hp->VK->Prop
def W5(X:Cx)(f:Uq->Uq->Vk Uq)(r:R2):Prop:=
 ∀(aa:List (Ur×Vc)) (s:Ad) (σ:St) (H:Hp) (x y:V) (v u:Uq) (Q:VK),cK X aa σ H s->b5 x v->b5 y u->r x y H Q->
  Ut (Uv X.prog X.w) X.A (f v u) (EP X aa σ Q) X.xe s
def UnR(X:Cx)(f:Uq->Vk Uq)(r:V->Hp->VK->Prop):Prop:=
 ∀(aa:List (Ur×Vc)) (s:Ad) (σ:St) (H:Hp) (x:V) (v:Uq) (Q:VK),cK X aa σ H s->b5 x v->r x H Q->
  Ut (Uv X.prog X.w) X.A (f v) (EP X aa σ Q) X.xe s
def aR(X:Cx)(f:Uq)(r:List V->Hp->VK->Prop):Prop:=
 ∀(aa:List (Ur×Vc)) (s:Ad) (σ:St) (H:Hp) (xs:List V) (us:List Uq) (Q:VK),cK X aa σ H s->bN xs us->r xs H Q->
  Ut (Uv X.prog X.w) X.A (call f us) (EP X aa σ Q) X.xe s
def tOp(r:R2)(ta tb:TE):TE:=λσ H Q=>ta σ H λx H1=>tb σ H1 λy H2=>r x y H2 Q
def tUn(r:V->Hp->VK->Prop)(ta:TE):TE:=λσ H Q=>ta σ H λx H1=>r x H1 Q
def rI(C:Int->Int->Prop)(g:Int->Int->V):R2:=λx y H Q=>∃i j,x=.int i/\y=.int j/\C i j/\Q (g i j) H
def FV(g:Int->Int->V):R2:=λx y H Q=>∃i j,x=.int i/\y=.int j/\Q (g i j) H
def rU(g:Int->V):V->Hp->VK->Prop:=λx H Q=>∃i,x=.int i/\Q (g i) H
section
variable{X:Cx}{a b c:Ux}{ta tb tc:TE}{pos:Pos}
theorem binT(ha:PE X a ta)(hb:PE X b tb){aa:List (Ur×Vc)}{s:Ad}{σ:St}{H:Hp}{R:V->V->Hp->Prop}(I:cK X aa σ H s)(h:ta σ H λx H1=>tb σ H1 λy H2=>R x y H2){Q:Uq->Ad->Prop}{f:Uq->Uq->Vk Uq}(hf:∀v u s2 x y H2,cK X aa σ H2 s2->b5 x v->b5 y u->R x y H2->Ut (Uv X.prog X.w) X.A (f v u) Q X.xe s2):Ut (Uv X.prog X.w) X.A (eval a X.env) (λv s₁=>Ut (Uv X.prog X.w) X.A (eval b X.env) (λu s₂=>Ut (Uv X.prog X.w) X.A (f v u) Q X.xe s₂) X.xe s₁) X.xe s:=by refine ZN (ha aa s σ H _ I h) λv s1 ⟨x,H1,I1,r1,q1⟩=>?_;refine ZN (hb aa s1 σ H1 _ I1 q1) λu s2 ⟨y,H2,I2,r2,q2⟩=>?_;exact hf v u s2 x y H2 I2 r1 r2 q2
theorem Xq{op:Operator}{r:R2}(ho:W5 X (Fm op) r)(ha:PE X a ta)(hb:PE X b tb):PE X (.BinOp a op b pos) (tOp r ta tb):=by intro aa s σ H Q I h;exact wpAny_BinOp (binT ha hb I h λv u s2 x y H2 I2 rx ry q=>ho aa s2 σ H2 x y v u Q I2 rx ry q)
theorem fS{op:UnaryOp}{r:V->Hp->VK->Prop}(ho:UnR X (unaryOp op) r)(ha:PE X a ta):PE X (.UnaryOp op a pos) (tUn r ta):=by intro aa s σ H Q I h;exact UnaryOp_ (ZN (ha aa s σ H _ I h) λv s1 ⟨x,H1,I1,r1,q1⟩=>ho aa s1 σ H1 x v Q I1 r1 q1)
theorem opI{f:Uq->Uq->Vk Uq}{C:Int->Int->Prop}{g:Int->Int->Int}(rule:∀(i j:Int) (t u:Vl) (s:Ad) (Q:Uq->Ad->Prop) (E:Uq->Ad->Prop),C i j->Q (.int (g i j) s.toks) {s with toks:=s.toks+1}->Ut (Uv X.prog X.w) X.A (f (.int i t) (.int j u)) Q E s):W5 X f (rI C λi j=>.int (g i j)):=by intro aa s σ H x y v u Q I rx ry h;obtain⟨i,j,rfl,rfl,hc,q⟩:=h;obtain⟨t,rfl⟩:=rx;obtain⟨t',rfl⟩:=ry;exact rule i j t t' s _ _ hc ⟨.int (g i j),H,I.tok _,⟨_,rfl⟩,q⟩
theorem opI0{f:Uq->Uq->Vk Uq}{g:Int->Int->Int}(rule:∀(i j:Int) (t u:Vl) (s:Ad) (Q:Uq->Ad->Prop) (E:Uq->Ad->Prop),Q (.int (g i j) s.toks) {s with toks:=s.toks+1}->Ut (Uv X.prog X.w) X.A (f (.int i t) (.int j u)) Q E s):W5 X f (FV λi j=>.int (g i j)):=by intro aa s σ H x y v u Q I rx ry h;obtain⟨i,j,rfl,rfl,q⟩:=h;obtain⟨t,rfl⟩:=rx;obtain⟨t',rfl⟩:=ry;exact rule i j t t' s _ _ ⟨.int (g i j),H,I.tok _,⟨_,rfl⟩,q⟩
theorem opB0{f:Uq->Uq->Vk Uq}{g:Int->Int->Bool}(rule:∀(i j:Int) (t u:Vl) (s:Ad) (Q:Uq->Ad->Prop) (E:Uq->Ad->Prop),Q (.bool (g i j)) s->Ut (Uv X.prog X.w) X.A (f (.int i t) (.int j u)) Q E s):W5 X f (FV λi j=>.bl (g i j)):=by intro aa s σ H x y v u Q I rx ry h;obtain⟨i,j,rfl,rfl,q⟩:=h;obtain⟨t,rfl⟩:=rx;obtain⟨t',rfl⟩:=ry;exact rule i j t t' s _ _ ⟨.bl (g i j),H,I,rfl,q⟩
def CDiv(i j:Int):Prop:=0<j/\j<1073741824
def CPow(i j:Int):Prop:=0<=j/\j<=1000000/\i.natAbs<2 ^ 64
def AF(i j:Int):Prop:=(-(2 ^ 64)<i/\i<2 ^ 64)∨(-(2 ^ 64)<j/\j<2 ^ 64)
theorem AF.ok{i j:Int}(h:AF i j):IntMulOk i j:=by
 rcases h with⟨h1,h2⟩|⟨h1,h2⟩
 ·exact .of_left (intBits_le_64 h1 h2)
 ·exact .of_right (intBits_le_64 h1 h2)
theorem zIK:W5 X (Fm .Add) (FV λi j=>.int (i+j)):=opI0 λ_ _ _ _ _ _ _ q=>add_int q
theorem UQ:W5 X (Fm .Sub) (FV λi j=>.int (i - j)):=opI0 λ_ _ _ _ _ _ _ q=>sub_int q
theorem qU:W5 X (Fm .Mult) (rI AF λi j=>.int (i*j)):=opI λ_ _ _ _ _ _ _ hc q=>mul_int q hc.ok
theorem DO:W5 X (Fm .FloorDiv) (rI CDiv λi j=>.int (i/j)):=opI λi j _ _ _ _ _ hc q=>by have h1:(0:Int)<j:=hc.1;have h2:j<1073741824:=hc.2;exact floordiv_int (by lia) (by rw[Int.fdiv_eq_ediv_of_nonneg i (by lia)];exact q) (.inl (PyProof.noPylong_small (by lia)))
theorem UP:W5 X (Fm .Mod) (rI (λ_ j=>0<j) λi j=>.int (i % j)):=opI λi j _ _ _ _ _ hc q=>by have h1:(0:Int)<j:=hc;exact mod_int' (by lia) (by rw[Int.fmod_eq_emod_of_nonneg i (by lia)];exact q)
theorem pQ:W5 X (Fm .Pow) (rI CPow λi j=>.int (i ^ j.toNat)):=opI λ_ _ _ _ _ _ _ hc q=>pow_int_small hc.1 hc.2.1 hc.2.2 q
theorem unI{f:Uq->Vk Uq}{g:Int->Int}(rule:∀(i:Int) (t:Vl) (s:Ad) (Q:Uq->Ad->Prop) (E:Uq->Ad->Prop),Q (.int (g i) s.toks) {s with toks:=s.toks+1}->Ut (Uv X.prog X.w) X.A (f (.int i t)) Q E s):UnR X f (rU λi=>.int (g i)):=by intro aa s σ H x v Q I rx h;obtain⟨i,rfl,q⟩:=h;obtain⟨t,rfl⟩:=rx;exact rule i t s _ _ ⟨.int (g i),H,I.tok _,⟨_,rfl⟩,q⟩
theorem qQ:UnR X (unaryOp .USub) (rU λi=>.int (-i)):=unI λ_ _ _ _ _ q=>neg_int q
end
section
variable{X:Cx}{a b c:Ux}{ta tb tc:TE}{pos:Pos}
theorem JP{aa:List (Ur×Vc)}{σ:St}{H:Hp}{s:Ad}{Q:VK}{k k':Bool}(I:cK X aa σ H s)(q:Q (.bl k) H)(e:k=k'):EP X aa σ Q (.bool k') s:=by subst e;exact⟨.bl k,H,I,rfl,q⟩
theorem DP:W5 X (De .Lt) (FV λi j=>.bl (decide (i<j))):=opB0 λ_ _ _ _ _ _ _ q=>lt_int q
theorem Vu:W5 X (De .LtE) (FV λi j=>.bl (decide (i<=j))):=opB0 λ_ _ _ _ _ _ _ q=>le_int q
theorem Xe:W5 X (De .Gt) (FV λi j=>.bl (decide (j<i))):=opB0 λ_ _ _ _ _ _ _ q=>gt_int q
theorem Zf:W5 X (De .GtE) (FV λi j=>.bl (decide (j<=i))):=opB0 λ_ _ _ _ _ _ _ q=>ge_int q
theorem eR:W5 X (De .Is) (λx y H Q=>y=.non/\Q (.bl (decide (x=.non))) H):=by
 intro aa s σ H x y v u Q I rx ry h;obtain⟨rfl,q⟩:=h;cases ry;refine is_none_gen (JP I q ?_);cases x<;>first
  |(cases rx;rfl)
  |(obtain⟨t,rfl⟩:=rx;rfl)
theorem oK:W5 X (De .IsNot) (λx y H Q=>y=.non/\Q (.bl (!decide (x=.non))) H):=by
 intro aa s σ H x y v u Q I rx ry h;obtain⟨rfl,q⟩:=h;cases ry;refine isnot_none_gen (JP I q ?_);cases x<;>first
  |(cases rx;rfl)
  |(obtain⟨t,rfl⟩:=rx;rfl)
theorem W5.or{f:Uq->Uq->Vk Uq}{r r':R2}(h:W5 X f r)(h':W5 X f r'):W5 X f (λx y H Q=>r x y H Q∨r' x y H Q):=by
 intro aa s σ H x y v u Q I rx ry q;rcases q with q|q
 ·exact h aa s σ H x y v u Q I rx ry q
 ·exact h' aa s σ H x y v u Q I rx ry q
theorem Z4(b:Ux){op:CmpOp}(h:op≠ .In:=by decide)(h2:op≠ .NotIn:=by decide):Hy op b=false:=by
 have e1:(op==CmpOp.In)=false:=by cases op<;>first|rfl|exact absurd rfl h
 have e2:(op==CmpOp.NotIn)=false:=by cases op<;>first|rfl|exact absurd rfl h2
 cases b<;>simp[Hy,e1,e2]
theorem eB{op:CmpOp}{r:R2}(ho:W5 X (De op) r)(ha:PE X a ta)(hb:PE X b tb)(hm:Hy op b=false):PE X (.Compare a [op] [b] pos) (tOp r ta tb):=by intro aa s σ H Q I h;exact wpAny_Compare1 (binT ha hb I h λv u s2 x y H2 I2 rx ry q=>ho aa s2 σ H2 x y v u Q I2 rx ry q) hm
def Xk(t:TE):TT:=λσ H Q=>t σ H λx H'=>∃k,x=.bl k/\Q k H'
theorem eZ{op:CmpOp}{r:R2}(ho:W5 X (De op) r)(ha:PE X a ta)(hb:PE X b tb)(hm:Hy op b=false):PT X (.Compare a [op] [b] pos) (Xk (tOp r ta tb)):=by
 intro aa s σ H Q I h;refine wpAny_isTrue_Compare1 (ZN (ha aa s σ H _ I h) λv s1 ⟨x,H1,I1,r1,q1⟩=>ZN (hb aa s1 σ H1 _ I1 q1) λu s2 ⟨y,H2,I2,r2,q2⟩=>
  ZN (ho aa s2 σ H2 x y v u _ I2 r1 r2 q2) λc s3 ⟨z,H3,I3,r3,k,e,q3⟩=>?_) hm
 subst e;cases r3;exact Ea ⟨H3,I3,q3⟩
def F7(r r':R2)(ta tb tc:TE):TE:=λσ H Q=>ta σ H λx H1=>tb σ H1 λy H2=>r x y H2 λz H3=>∃k,z=.bl k∧
 (if k=true then tc σ H3 λw' H4=>r' y w' H4 Q else Q (.bl false) H3)
theorem kI{op op':CmpOp}{r r':R2}(ho:W5 X (De op) r)(ho':W5 X (De op') r')(ha:PE X a ta)(hb:PE X b tb)(hc:PE X c tc)(hm:Rv [op,op'] [b,c]=false:=by with_unfolding_all rfl):PE X (.Compare a [op,op'] [b,c] pos) (F7 r r' ta tb tc):=by
 intro aa s σ H Q I h;refine Compare_chain (ZN (ha aa s σ H _ I h) λv s1 ⟨x,H1,I1,r1,q1⟩=>chain_link (ZN (hb aa s1 σ H1 _ I1 q1) λu s2 ⟨y,H2,I2,r2,q2⟩=>
  ZN (ho aa s2 σ H2 x y v u _ I2 r1 r2 q2) λd s3 ⟨z,H3,I3,r3,k,e,q3⟩=>?_)) hm
 subst e;cases r3;refine Ea ?_;cases k with
 |false=>exact ite_ff ⟨.bl false,H3,I3,rfl,q3⟩
 |true=>exact ite_tt (chain_last (ZN (hc aa s3 σ H3 _ I3 q3) λw' s4 ⟨z',H4,I4,r4,q4⟩=>ho' aa s4 σ H4 y z' u w' Q I4 r2 r4 q4))
theorem lE{op op':CmpOp}{r r':R2}(ho:W5 X (De op) r)(ho':W5 X (De op') r')(ha:PE X a ta)(hb:PE X b tb)(hc:PE X c tc)(hm:Rv [op,op'] [b,c]=false:=by with_unfolding_all rfl):PT X (.Compare a [op,op'] [b,c] pos) (Xk (F7 r r' ta tb tc)):=by
 intro aa s σ H Q I h;refine isTrue_chain (ZN (ha aa s σ H _ I h) λv s1 ⟨x,H1,I1,r1,q1⟩=>test_link (ZN (hb aa s1 σ H1 _ I1 q1) λu s2 ⟨y,H2,I2,r2,q2⟩=>
  ZN (ho aa s2 σ H2 x y v u _ I2 r1 r2 q2) λd s3 ⟨z,H3,I3,r3,k,e,q3⟩=>?_)) hm
 subst e;cases r3;refine Ea ?_;cases k with
 |false=>
  obtain⟨k',e',q'⟩:=q3;cases e';exact ite_ff ⟨H3,I3,q'⟩
 |true=>
  refine ite_tt (test_last (ZN (hc aa s3 σ H3 _ I3 q3) λw' s4 ⟨z',H4,I4,r4,q4⟩=>ZN (ho' aa s4 σ H4 y z' u w' _ I4 r2 r4 q4) λd' s5 ⟨z2,H5,I5,r5,k2,e2,q5⟩=>?_));subst e2;cases r5;exact Ea ⟨H5,I5,q5⟩
theorem NU:(sizeLine:Nat)<2 ^ 63:=by rw[Bt];decide
theorem FN:W5 X (Fm .Add) (λx y H Q=>∃i j,x=.str i/\y=.str j/\i.length+j.length<=sizeLine/\Q (.str (i++j)) H):=by intro aa s σ H x y v u Q I rx ry h;obtain⟨i,j,rfl,rfl,hz,q⟩:=h;obtain⟨t,rfl⟩:=rx;obtain⟨t',rfl⟩:=ry;exact add_str (λt' tk=>⟨.str (i++j),H,I.tok _,⟨_,rfl⟩,q⟩) hz
theorem U9{x:V}{us:List Uq}(r:bN [x] us):∃u,us=[u]/\b5 x u:=by
 cases r with
 |cons r1 r2=>cases r2;exact⟨_,rfl,r1⟩
theorem IF{x y:V}{us:List Uq}(r:bN [x,y] us):∃u w',us=[u,w']/\b5 x u/\b5 y w':=by
 cases r with
 |cons r1 r2=>
  cases r2 with
  |cons r3 r4=>cases r4;exact⟨_,_,rfl,r1,r3⟩
theorem AY(hc:X.calm=true):aR X (.builtin "max") (λxs H Q=>∃i j,xs=[.int i,.int j]/\Q (.int (if j>i then j else i)) H):=by
 intro aa s σ H xs us Q I r h;obtain⟨i,j,rfl,q⟩:=h;obtain⟨u,w',rfl,⟨t,rfl⟩,⟨t',rfl⟩⟩:=IF r;refine max_two_ints (I.ok.hd hc) λh' tk k=>⟨_,H,I.kept k,?_,q⟩;by_cases hj:j>i
 ·rw[if_pos hj,if_pos hj];exact⟨_,rfl⟩
 ·rw[if_neg hj,if_neg hj];exact⟨_,rfl⟩
theorem AZ(hc:X.calm=true):aR X (.builtin "min") (λxs H Q=>∃i j,xs=[.int i,.int j]/\Q (.int (if j<i then j else i)) H):=by
 intro aa s σ H xs us Q I r h;obtain⟨i,j,rfl,q⟩:=h;obtain⟨u,w',rfl,⟨t,rfl⟩,⟨t',rfl⟩⟩:=IF r;refine min_two_ints (I.ok.hd hc) λh' tk k=>⟨_,H,I.kept k,?_,q⟩;by_cases hj:j<i
 ·rw[if_pos hj,if_pos hj];exact⟨_,rfl⟩
 ·rw[if_neg hj,if_neg hj];exact⟨_,rfl⟩
end
structure ObjM(h:Va)(x dx C:Ur)(mA:Uw->Option Uq):Prop where
 obj:h.get? x=some (Tv C dx)
 ns:h.Ns1 dx mA
 ne:dx≠x
theorem LQ{h:Va}{dx:Ur}{mA:Uw->Option Uq}(n:h.Ns1 dx mA):∃od,h.get? dx=some od/\∀name,W.lookIn name od=some (mA name):=by
 obtain⟨o,es,ep,ho,hd,hk,_,hm⟩:=n;refine⟨o,ho,λname=>?_⟩;have e:=hm name;unfold nsFind findBy at e;rw[<-Oi] at e;unfold W.lookIn;rw[hd];dsimp only;split
 ·rename_i y q
  rw[q] at e;exact congrArg some e
 ·rename_i q
  rw[q] at e;have a:es.toList.any (·.refKey)=false:=by rw[List.any_eq_false];intro y hy;obtain⟨z,t,r6⟩:=hk y (Array.mem_toList_iff.mp hy);simp[DictEntry.refKey,r6]
  have a':¬es.toList.any (·.refKey)=true:=by rw[a];exact Cs
  rw[if_neg a'];exact congrArg some e
theorem ObjM.look{h:Va}{x dx C:Ur}{mA:Uw->Option Uq}(I:ObjM h x dx C mA):∃od,W.InstAt h x (Tv C dx) C (some od)/\∀name,W.lookIn name od=some (mA name):=
 let ⟨od,ho,hl⟩:=LQ I.ns
 ⟨od,⟨I.obj,rfl,rfl,ho⟩,hl⟩
theorem TH.some_of{v:V}{o:Option Uq}(r:TH (some v) o):∃u,o=some u/\b5 v u:=by
 cases o with
 |none=>exact(show False from r).elim
 |some u=>exact⟨u,rfl,r⟩
section
variable{P:Av}{w:Uy}{H H':Hp}{h h':Va}{a C dx:Ur}{fs fs':List (Uw×V)}
theorem eJ(hok:TF P w H h)(e:H a=some (.ins C dx fs)):∃mA,ObjM h a dx C mA/\(∀f,TH (fs.lookup f) (mA f))/\Tw mA (fs.map (·.1))/\fs.length<=1000/\H dx=some (.own a):=by obtain⟨d,z,ne,ob,mA,n,r,q⟩:=(show Z0 P w H h a (.ins C dx fs) from hok a _ e);exact⟨mA,⟨ob,n,ne⟩,r,q,z,d⟩
end
structure Cls(K:Ai)(C:Ur):Prop where
 pg:W.plainGet K C Str.empty=true
 hd:W.hasDictIn K C=true
 po:W.plainOver K C=true
 sa:Ri K (.ref C) "__setattr__"=some (some (.builtin "object.__setattr__"))
theorem Cls.get{K:Ai}{C:Ur}(c:Cls K C)(f:Uw):W.plainGet K C f=true:=c.pg
section
variable{X:Cx}{aa:List (Ur×Vc)}{σ:St}{H:Hp}{s:Ad}{a C dx:Ur}{fs:List (Uw×V)}{f:Uw}{v:V}{A:Br}{E:Uq->Ad->Prop}
theorem lG{prog:Av}{w:Uy}{env:Env}{e:Ux}{f:Uw}{pos:Pos}{s:Ad}{Q:Uq->Ad->Prop}(hb:Fn e f env (eval e env)=eval e env)(h:Ut (Uv prog w) A (eval e env) (λo s₁=>Ut (Uv prog w) A (getAttr o f true) Q E s₁) E s):Ut (Uv prog w) A (eval (.Attribute e f pos) env) Q E s:=
 Attribute_any_ h (by rw[arm_eval_Attribute,hb])
end
section
variable{X:Cx}{aa:List (Ur×Vc)}{σ:St}{H:Hp}{s:Ad}{A:Br}{E:Uq->Ad->Prop}{Q:Uq->Ad->Prop}{c:Uq}{b:Bool}
inductive PN(K:Ai)(H:Hp):V->Uq->Prop where
 |non:PN K H .non (.type "NoneType")
 |bl (x:Bool):PN K H (.bl x) (.type "bool")
 |int (i:Int):PN K H (.int i) (.type "int")
 |str (x:Uw):PN K H (.str x) (.type "str")
 |flt (x:UInt64):PN K H (.flt x) (.type "float")
 |lst {a:Ur} {xs:List V} (e:H a=some (.lst xs)):PN K H (.ref a) (.type "list")
 |frz {a:Ur} {o:Vc} {xs:List V} (e:H a=some (.frz o (.lst xs))):PN K H (.ref a) (.type "list")
 |tup {a:Ur} {xs:List V} (e:H a=some (.tup xs)):PN K H (.ref a) (.type "tuple")
 |dK {a:Ur} {kvs:List (aK×V)} (e:H a=some (.dK kvs)):PN K H (.ref a) (.type "dict")
 |dT {a:Ur} {kvs:List (List aK×V)} (e:H a=some (.dT kvs)):PN K H (.ref a) (.type "dict")
 |ins {a C dx:Ur} {fs:List (Uw×V)} (e:H a=some (.ins C dx fs)) (cl:Cls K C) (ha:Ri K (.ref C) "__class__"=some (some (.builtin "object.__class__")))
   (hn:W.specialIn K (.builtin "object.__class__") "__get__"=some (some (.builtin "getset_descriptor.__get__"))) (htk:W.takesIn K (.builtin "object.__class__")=some true)
   (hm:W.mroIn K C (.type "object")=some true):PN K H (.ref a) (.ref C)
theorem T4{x:V}{u t:Uq}(I:cK X aa σ H s)(rx:b5 x u)(ty:PN X.K H x t)(e:Hh X.K t c=some b)(h:∀tk,Q (.bool b) {s with toks:=tk}):Ut (Uv X.prog X.w) A (call (.builtin "isinstance") [u,c]) Q E s:=by
 cases ty with
 |non=>cases (show u=Value.none from rx);exact Fc W.kitx_none I.kIn True.intro e (λz=>nomatch z) h
 |bl y=>cases (show u=Hk y from rx);exact Fc W.kitx_bool I.kIn True.intro e (λz=>nomatch z) h
 |int i=>obtain⟨t,q⟩:=(show∃t,u=Ro i t from rx);cases q;exact Fc W.kitx_int I.kIn True.intro e (λz=>nomatch z) h
 |str y=>obtain⟨t,q⟩:=(show∃t,u=Rp y t from rx);cases q;exact Fc W.kitx_str I.kIn True.intro e (λz=>nomatch z) h
 |flt y=>obtain⟨t,q⟩:=(show∃t,u=Ug y t from rx);cases q;exact Fc W.kitx_float I.kIn True.intro e (λz=>nomatch z) h
 | @lst a xs ea=>
  cases (show u=Ba a from rx);obtain⟨_,_,n,_,h1⟩:=(show Z0 X.prog X.w H s.heap a (.lst xs) from I.hok a _ ea);exact Fc Nu I.kIn ⟨_,h1,rfl⟩ e (λz=>nomatch z) h
 | @frz a ob xs ea=>
  cases (show u=Ba a from rx);obtain⟨_,_,_,n,_,h1⟩:=(show Z0 X.prog X.w H s.heap a (.frz ob (.lst xs)) from I.hok a _ ea);exact Fc Nu I.kIn ⟨_,h1,rfl⟩ e (λz=>nomatch z) h
 | @tup a xs ea=>
  cases (show u=Ba a from rx);obtain⟨_,_,_,p⟩:=(show Z0 X.prog X.w H s.heap a (.tup xs) from I.hok a _ ea);obtain⟨o,h1,h2,_⟩:=p;exact Fc W.kitx_tuple I.kIn ⟨o,h1,h2⟩ e (λz=>nomatch z) h
 | @dK a kvs ea=>
  cases (show u=Ba a from rx);obtain⟨_,_,vs,_,p⟩:=(show Z0 X.prog X.w H s.heap a (.dK kvs) from I.hok a _ ea);obtain⟨o,es,ep,h1,h2,_⟩:=p;exact Fc W.kitx_dict I.kIn ⟨o,h1,h2.1⟩ e (λz=>nomatch z) h
 | @dT a kvs ea=>
  cases (show u=Ba a from rx);obtain⟨_,_,xs,_,o,es,ep,h1,h2,_⟩:=(show Z0 X.prog X.w H s.heap a (.dT kvs) from I.hok a _ ea);exact Fc W.kitx_dict I.kIn ⟨o,h1,h2.1⟩ e (λz=>nomatch z) h
 | @ins a C dx fs ea cl ha hn htk hm=>
  cases (show u=Ba a from rx);obtain⟨mA,O,_⟩:=eJ I.hok ea;obtain⟨od,J,_⟩:=O.look;exact Fc (W.kitx_own (cl.get _) cl.hd ha hn htk hm) I.kIn J e (λz=>nomatch z) h
end
structure ZG(k:Nat)(A:Br):Prop where
 hd:A.handled=none
 dp:A.depth+3*k+5<Ez
 un:A.units+16*k+200<cLine
theorem ZG.mono{j k:Nat}{A:Br}(r:ZG k A)(h:j<=k):ZG j A:=⟨r.hd,by have:=r.dp;lia,by have:=r.un;lia⟩
theorem ZG.deeper{k:Nat}{A:Br}(r:ZG (k+1) A)(env:Env):ZG k (A.deeper env):=
 ⟨r.hd,by have:=r.dp;show A.depth+1+3*k+5<_;lia,by have:=r.un;show A.units+3+16*k+200<_;lia⟩
theorem ZG.depth{k:Nat}{A:Br}(r:ZG k A):A.depth<Ez:=by have:=r.dp;lia
theorem ZG.units{k:Nat}{A:Br}(r:ZG k A):A.units+64<cLine:=by have:=r.un;lia
def tNil:TA:=λ_ H Q=>Q [] H
def ME(ta:TE)(tr:TA):TA:=λσ H Q=>ta σ H λx H1=>tr σ H1 λxs H2=>Q (x::xs) H2
section
variable{X:Cx}{e:Ux}{es:List Ux}{te:TE}{t:TA}{pos:Pos}
theorem ZY:PA X [] tNil:=λ_ _ _ _ H Q I h=>Fy ⟨[],H,I,.nil,h⟩
theorem bM(ha:PE X e te)(hr:PA X es t)(hs:Us (e::es) X.env=(false,eval e X.env)::Us es X.env:=by rfl):PA X (e::es) (ME te t):=by intro pos aa s σ H Q I h;rw[hs];show Ut _ _ (spliced ((false,eval e X.env)::Dv pos (Us es X.env))) _ _ s;refine Ee (ZN (ha aa s σ H _ I h) λu s1 ⟨x,H1,I1,r1,q1⟩=>?_);exact ZN (hr pos aa s1 σ H1 _ I1 q1) λus s2 ⟨xs,H2,I2,r2,q2⟩=>⟨x::xs,H2,I2,.cons r1 r2,q2⟩
def tTup(t:TA):TE:=λσ H Q=>t σ H λxs H1=>xs.length<=sizeLine/\∀p,H1 p=none->Q (.ref p) (upd H1 p (.tup xs))
def tLst(t:TA):TE:=λσ H Q=>t σ H λxs H1=>xs.length<=sizeLine/\∀p,H1 p=none->Q (.ref p) (upd H1 p (.lst xs))
theorem Wx{x1}(h:PA X es t):PE X (.Tuple es x1 pos) (tTup t):=by intro aa s σ H Q I hq;refine wpAny_Tuple_spliced (ZN (h pos aa s σ H _ I hq) λus s1 ⟨xs,H1,I1,r,z,q⟩=>⟨by rw[<-r.length];exact z,?_⟩);have hf:H1 s1.heap.objs.size=none:=I1.hok.fresh (Am _);refine⟨.ref s1.heap.objs.size,upd H1 s1.heap.objs.size (.tup xs),I1.laid (t':=s1.toks) (λb u e=>Ac _ e) (Am _) ?_,rfl,q _ hf⟩;exact⟨z,us,r,⟨_,Ao _ rfl,rfl,_,rfl⟩⟩
theorem Wy(h:PA X es t):PE X (.List es pos) (tLst t):=by intro aa s σ H Q I hq;refine wpAny_List_spliced (ZN (h pos aa s σ H _ I hq) λus s1 ⟨xs,H1,I1,r,z,q⟩=>⟨by rw[<-r.length];exact z,?_⟩);have hf:H1 s1.heap.objs.size=none:=I1.hok.fresh (Am _);refine⟨.ref s1.heap.objs.size,upd H1 s1.heap.objs.size (.lst xs),I1.laid (t':=s1.toks) (λb u e=>Ac _ e) (Am _) ?_,rfl,q _ hf⟩;exact⟨z,us,0,r,Ao _ rfl⟩
end
abbrev Sp:=List V->Hp->VK->XK->Prop
abbrev AG:=List Env->Hp->Ad->XK->Uq->Ad->Prop
structure AJ(P:Av)(w:Uy)(K:Ai)(mg:Uw->Option Uq)(base:Va)(A:Br)(outer:List Env)(s:Ad)(H:Hp):Prop where
 frames:A.frames=some outer
 mod:Mod K mg base
 bs:∀b o,base.get? b=some o->s.heap.get? b=some o/\H b=none
 bsz:base.objs.size<=s.heap.objs.size
 funs:s.heap.FunFrames base outer
 frf:∀b∈U7 outer,H b=none
 hok:TF P w H s.heap
 bare:Li s.gens
def CE(outer:List Env)(P:Av)(w:Uy)(H:Hp)(s:Ad)(Q:VK)(u:Uq)(s':Ad):Prop:=
 ∃v H',s'.os=s.os/\Li s'.gens/\Un (U7 outer) [] H H' s.heap s'.heap/\TF P w H' s'.heap/\b5 v u/\Q v H'
def CR(CX:AG)(outer:List Env)(P:Av)(w:Uy)(H:Hp)(s:Ad)(Q:VK)(E:XK)(r:Oj)(s':Ad):Prop:=
 match r with
 |.ok (.ret u)=>CE outer P w H s Q u s'
 |.ok _=>False
 |.error e=>CX outer H s E e s'
structure aW(P:Av)(w:Uy)(K:Ai)(mg:Uw->Option Uq)(base:Va)(CX:AG)(k:Nat)(f:Ur)(fd:Df)(ps:List Uw)(sp:Sp):Prop where
 len:∀vs H Q E,sp vs H Q E->vs.length=ps.length
 run:∀(A:Br) (outer:List Env) (s:Ad) (H:Hp) (args:Args) (us:List Uq) (vs:List V) (Q:VK) (E:XK),ZG k A->AJ P w K mg base A outer s H->Pq s fd args (ps.zip us)->bN vs us->sp vs H Q E->
  Fd (Uv P w) A (.call (.ref f) args) (CR CX outer P w H s Q E) s
section
variable{X:Cx}{aa:List (Ur×Vc)}{σ:St}{H:Hp}{s s':Ad}
theorem cK.env0(I:cK X aa σ H s):AJ X.prog X.w X.K X.mg X.base X.A X.stack s H:=
 ⟨I.ok.frames,I.ok.mod,I.bs,Dh I.ok.bsz I.sz,I.stack,I.stkFree,I.hok,I.bare⟩
theorem cK.after{Q:VK}{u:Uq}(I:cK X aa σ H s)(h:CE X.stack X.prog X.w H s Q u s'):EP X aa σ Q u s':=by obtain⟨v,H',os,bare,un,hok,r,q⟩:=h;obtain⟨hh,g,d,t,os'⟩:=s';obtain rfl:os'=s.os:=os;exact⟨v,H',I.call (h':=hh) (g':=g) (d':=d) (t':=t) (ch:=[]) un hok bare (λb z=>absurd z (by simp)),r,q⟩
end
def ED(sp:Sp)(dvs:List V)(E:XK)(t:TA):TE:=λσ H Q=>t σ H λvs H1=>sp (vs++dvs) H1 Q E
def U5(K:Ai)(fd:Df)(ps:List Uw)(ds:List Uq):Prop:=
 ∀(s:Ad) (us:List Uq),K.In s.heap->(us++ds).length=ps.length->Pq s fd ⟨us,[]⟩ (ps.zip (us++ds))
theorem U5.all{K:Ai}{fd:Df}{ps:List Uw}(h:∀us:List Uq,us.length=ps.length->Rj fd ⟨us,[]⟩=pure (ps.zip us)):U5 K fd ps []:=λs us _ hl=>by rw[Cu] at hl⊢;exact .of_eq (h us hl)
def ER(CX:AG)(X:Cx)(E:XK):Prop:=∀(aa:List (Ur×Vc)) (σ:St) (H:Hp) (s:Ad) (e:Uq) (s':Ad),cK X aa σ H s->CX X.stack H s E e s'->X.xe e s'
section
variable{X:Cx}{CX:AG}{k:Nat}{f C:Ur}{fd:Df}{ps:List Uw}{sp:Sp}{dvs:List V}{ds:List Uq}{E:XK}{x m:Uw}{p pos ao:Pos}{e o:Ux}{es:List Ux}{ta:TE}{t:TA}
theorem Wh{aa:List (Ur×Vc)}{σ:St}{H:Hp}{s:Ad}{Q:VK}{us:List Uq}{vs:List V}(F:aW X.prog X.w X.K X.mg X.base CX k f fd ps sp)(hr:ZG k X.A)(hb:U5 X.K fd ps ds)(hd:bN dvs ds)(hx:ER CX X E)(I:cK X aa σ H s)(r:bN vs us)(h:sp (vs++dvs) H Q E):Ut (Uv X.prog X.w) X.A (call (.ref f) us) (EP X aa σ Q) X.xe s:=by
 have r2:bN (vs++dvs) (us++ds):=r.append hd;have hl:(us++ds).length=ps.length:=by rw[<-r2.length];exact F.len _ _ _ _ h
 refine Hl (Gq (F.run X.A X.stack s H ⟨us,[]⟩ (us++ds) (vs++dvs) Q E hr I.env0 (hb s us I.kIn hl) r2 h) λr s' hq=>?_);cases r with
 |error e=>exact hx aa σ H s e s' I hq
 |ok fl=>
  cases fl with
  |ret u=>exact I.after hq
  |next=>exact Gv hq
  |brk=>exact Gv hq
  |cont=>exact Gv hq
theorem jU(F:aW X.prog X.w X.K X.mg X.base CX k f fd ps sp)(hr:ZG k X.A)(hg:Gl X x)(hm:X.mg x=some (.ref f))(hk:Hz X.K (.ref f)=true)(hb:U5 X.K fd ps ds)(hd:bN dvs ds)(hx:ER CX X E)(ha:PA X (e::es) t)(hdb:(x==("__debug__":Uw))=false:=by decide)(he:Us (e::es) X.env=(false,eval e X.env)::Us es X.env:=by rfl)(hpl:(Dv pos (Us es X.env)).any (·.1)=false:=by rfl):PE X (.Call (.Name x p) (e::es) [] pos) (ED sp dvs E t):=by intro aa s σ H Q I h;refine Es (VQ I hg hm ?_ hdb);refine Kl (h₀:=X.base) I.ok.mod.kin hk (ZN (ha pos aa s σ H _ I h) λus s1 ⟨vs,H1,I1,r,q⟩=>⟨I1.kIn,?_⟩) he hpl;exact Wh F hr hb hd hx I1 r q
end
structure cG(N P:List Uw)(sc:Vg):Prop where
 kind:sc.kind=.function
 co:sc.isCoroutine=false
 gen:sc.isGenerator=false
 nd:N.Nodup
 pre:N.take P.length=P
 par:∀x∈P,sc.names.lookup x=some .local∨sc.names.lookup x=some .cell
 nofree:∀y∈sc.names,y.2≠ .free
theorem K2{kindOf:Uw->Option Vh}{x:Uw}:∀{binds:List (Uw×Uq)} {m:Uw->Option Uq},(∀v,(x,v)∉binds)->bindL kindOf binds m x=m x
 |[],_,_=>rfl
 | (n,v) :: r,m,h => by
  unfold bindL;rw[K2 λw hw=>h w (Ap _ hw)];split
  ·have : x ≠ n := by rintro rfl;exact h v Ax
   simp[this]
  ·rfl
theorem K0{kindOf:Uw->Option Vh}{x:Uw}:∀{binds:List (Uw×Uq)} {m:Uw->Option Uq},(∀v,(x,v)∉binds)->bindC kindOf binds m x=m x
 |[],_,_=>rfl
 | (n,v) :: r,m,h => by
  unfold bindC;rw[K0 λw hw=>h w (Ap _ hw)];split
  ·rfl
  ·have : x ≠ n := by rintro rfl;exact h v Ax
   simp[this]
theorem K1{kindOf:Uw->Option Vh}{x:Uw}{v:Uq}:∀{P:List Uw} {vs:List Uq} {i:Nat} {m:Uw->Option Uq},P.Nodup->P[i]?=some x->vs[i]?=some v->kindOf x=some .local->bindL kindOf (P.zip vs) m x=some v
 |[],_,_,_,_,h,_,_=>by simp at h
 |_::_,[],_,_,_,_,h,_=>by simp at h
 |p::P,w::vs,0,m,nd,h1,h2,hk=>by simp at h1 h2;subst h1;subst h2;show bindL kindOf ((p,w)::P.zip vs) m p=_;unfold bindL;rw[K2 λv hv=>(Cv.mp nd).1 (Ia hv).1,if_pos hk];simp
 |p::P,w::vs,i+1,m,nd,h1,h2,hk=>by show bindL kindOf ((p,w)::P.zip vs) m x=_;unfold bindL;exact K1 (i:=i) (Cv.mp nd).2 (by simpa using h1) (by simpa using h2) hk
theorem KZ{kindOf:Uw->Option Vh}{x:Uw}{v:Uq}:∀{P:List Uw} {vs:List Uq} {i:Nat} {m:Uw->Option Uq},P.Nodup->P[i]?=some x->vs[i]?=some v->kindOf x≠some .local->bindC kindOf (P.zip vs) m x=some v
 |[],_,_,_,_,h,_,_=>by simp at h
 |_::_,[],_,_,_,_,h,_=>by simp at h
 |p::P,w::vs,0,m,nd,h1,h2,hk=>by simp at h1 h2;subst h1;subst h2;show bindC kindOf ((p,w)::P.zip vs) m p=_;unfold bindC;rw[K0 λv hv=>(Cv.mp nd).1 (Ia hv).1,if_neg hk];simp
 |p::P,w::vs,i+1,m,nd,h1,h2,hk=>by show bindC kindOf ((p,w)::P.zip vs) m x=_;unfold bindC;exact KZ (i:=i) (Cv.mp nd).2 (by simpa using h1) (by simpa using h2) hk
def start(N:List Uw)(vs:List V):St:=vs.map some++As (N.length - vs.length) none
noncomputable def TJ(CX:AG)(P:Av)(w:Uy)(K:Ai)(mg:Uw->Option Uq)(base:Va)(N:List Uw)(qual:Uw)(scope:Vg)(f:Ur)(cd:Uq)(A:Br)(outer:List Env)(s:Ad)(H:Hp)(E:XK):Cx where
 prog:=P
 w:=w
 K:=K
 mg:=mg
 base:=base
 A:=A.deeper (envOfC qual scope s.heap.objs.size f cd)
 N:=N
 s₀:=s
 H₀:=H
 env:=envOfC qual scope s.heap.objs.size f cd
 outer:=outer
 stack:=envOfC qual scope s.heap.objs.size f cd::outer
 ex:=[]
 calm:=true
 fn:=λ_=>true
 pn:=[]
 xe:=λe s'=>Ut (Uv P w) (A.deeper (envOfC qual scope s.heap.objs.size f cd)) (leaving (envOfC qual scope s.heap.objs.size f cd) e) (λ_ s''=>CX outer H s E e s'') (λe' s''=>CX outer H s E e' s'') s'
theorem GQ{sc:Vg}{n:Nat}{x:Uw}(h:sc.names.lookup x=some .cell):∃c,(Vf n sc.names []).lookup x=some c:=by have q:=Lx sc.names n [] (.inl h);exact Option.isSome_iff_exists.mp q
theorem LK{CX:AG}{P:Av}{w:Uy}{K:Ai}{mg:Uw->Option Uq}{base:Va}{N ps:List Uw}{qual:Uw}{scope:Vg}{f:Ur}{cd:Uq}{A:Br}{outer:List Env}{s s1:Ad}{H:Hp}{E:XK}{us:List Uq}{vs:List V}(S:cG N ps scope)(hd:A.handled=none)(e0:AJ P w K mg base A outer s H)(hl:vs.length=ps.length)(r:bN vs us)(x:InCallC s s.heap.objs.size (bindL (envOfC qual scope s.heap.objs.size f cd).kindOf (ps.zip us) λ_=>none) (Vf (s.heap.objs.size+1) scope.names []) (bindC (envOfC qual scope s.heap.objs.size f cd).kindOf (ps.zip us) λ_=>none) s1):cK (TJ CX P w K mg base N qual scope f cd A outer s H E) [] (start N vs) H s1:=by
 have hpl:ps.length<=N.length:=by have:=congrArg List.length S.pre;rw[Cb] at this;lia
 obtain⟨h1,tk,rfl,hk⟩:=x.done;have noA:∀b:Ur,b∉(TJ CX P w K mg base N qual scope f cd A outer s H E).ex:=λb z=>absurd (show b∈([]:List Ur) from z) (by simp);refine⟨⟨e0.mod,S.kind,rfl,rfl,Am _,λy z c h1 h2=>?_,λy hy=>?_,λy c _ h=>?_,λ_=>hd,Around.frames_deeper e0.frames,.inr ⟨rfl,rfl⟩,λb z=>absurd z (noA b),e0.bs,e0.bsz,λb _ _=>noA b,λb z=>absurd z (noA b),e0.funs,e0.frf⟩,rfl,e0.bare,Un.kept hk,⟨_,x.toInCall.ns,λi y v h1 h2 h3=>?_⟩,λy c h=>⟨_,x.cell y c h⟩,e0.hok.fresh (Am _),λy c h=>?_,λp hp=>absurd (show p∈([]:List (Ur×Vc)) from hp) (by simp),e0.hok.kept hk,?_⟩
 ·exact name_of_addr x.apart (Bm h1) (Bm h2)
 ·have hy:scope.names.lookup y=some .cell∨scope.names.lookup y=some .free:=hy
  rcases hy with hy|hy
  ·exact GQ hy
  ·exact absurd rfl (S.nofree _ (Bm hy))
 ·exact Mk (x.above y c (Bm h))
 ·have hi:i<vs.length:=by
   unfold start at h2;by_cases hi:i<vs.length
   ·exact hi
   ·rw [Ch (by simpa using hi)] at h2
    rw[Cj] at h2;split at h2<;>cases h2
  have ha:vs[i]?=some v:=by
   unfold start at h2;rw[Ak (by simpa using hi),Co] at h2;cases e:vs[i]? with
   |none=>rw[e] at h2;cases h2
   |some a=>rw[e] at h2;cases h2;rfl
  obtain⟨u,hu,rv⟩:=r.get ha;have hp:ps[i]?=some y:=by rw[<-S.pre,Cf (by lia)];exact h1
  have ndP:ps.Nodup:=by rw[<-S.pre];exact S.nd.sublist (List.take_sublist _ _)
  refine⟨u,rv,?_⟩;rcases S.par y (Ew hp) with k|k
  ·exact .inl ⟨k,K1 ndP hp hu k⟩
  ·obtain⟨c,e⟩:=GQ (n:=s.heap.objs.size+1) k
   refine .inr ⟨.inl k,c,e,?_⟩;have q:=x.cell y c e;rw[KZ ndP hp hu (by show scope.names.lookup y≠_;rw[k];decide)] at q;exact q
 ·exact e0.hok.fresh (Mk (x.above y c (Bm h)))
 ·unfold start
  show _=N.length;rw[Cc,By,Jb];lia
theorem Wd{CX:AG}{P:Av}{w:Uy}{K:Ai}{mg:Uw->Option Uq}{base:Va}{k:Nat}{f:Ur}{name qual:Uw}{params:Arguments}{body:List Vd}{scope:Vg}{dV kV doc pm cdv ct oc:Uq}{an od:Option Ur}{osl:Array (Option Uq)}{N ps:List Uw}{sp:Sp}(lk:K.lookup f=some ⟨oc,od,.func (Ly name qual params body scope dV kV doc pm an cdv ct),osl⟩)(hcd:Ol K cdv qual=true)(S:cG N ps scope)(len:∀vs H Q E,sp vs H Q E->vs.length=ps.length)(ap:∀(A:Br) (outer:List Env) (s:Ad) (H:Hp) (vs:List V) (Q:VK) (E:XK),ZG k (A.deeper (envOfC qual scope s.heap.objs.size f cdv))->sp vs H Q E->∃t,W2 (TJ CX P w K mg base N qual scope f cdv A outer s H E) body t/\t {nx:=λ_ H'=>Q .non H',rt:=Q} (start N vs) H):aW P w K mg base CX (k+1) f (Ly name qual params body scope dV kV doc pm an cdv ct) ps sp:=by
 refine⟨len,λA outer s H args us vs Q E hr e0 hb r hsp=>?_⟩;have hl:=len _ _ _ _ hsp;have KX:K.In s.heap:=e0.mod.kin.keeps λb o e=>(e0.bs b o e).1;have lim:s.heap.NoLimit:=e0.mod.nolimit.keeps λb o e=>(e0.bs b o e).1;have g0:∀y∈ps.zip us,scope.names.lookup y.1=some .local∨(scope.names.lookup y.1=some .cell/\((Vf (s.heap.objs.size+1) scope.names []).lookup y.1).isSome=true):=λ⟨n,v⟩ hy=>by
  rcases S.par n (Ia hy).1 with q|q
  ·exact .inl q
  ·exact .inr ⟨q,Lx _ _ _ (.inl q)⟩
 refine Jd hr.depth (KX _ _ lk) rfl S.co S.gen rfl (W.codeRec_of KX hcd) (hb _ _ _ _ ?_);refine Hb S.kind g0 λenv he s1 x=>?_;subst he;refine⟨lim.keeps x.toInCall.keep,Qk ?_⟩;obtain⟨t,ht,hq⟩:=ap A outer s H vs Q E (hr.deeper _) hsp;have I:cK (TJ CX P w K mg base N qual scope f cdv A outer s H E) [] (start N vs) H s1:=LK S hr.hd e0 hl r x;refine Aq (ht [] s1 (start N vs) H _ I hq) (λfl s' hs=>?_) λe s' hs=>hs;have fin:∀{σ':St} {H':Hp} {v:V} {u:Uq},cK (TJ CX P w K mg base N qual scope f cdv A outer s H E) [] σ' H' s'->b5 v u->Q v H'->CE outer P w H s Q u s':=
  λ{σ' H' v u} J rv q=>⟨v,H',J.os,J.bare,J.base,J.hok,rv,q⟩
 cases fl with
 |ret u=>
  obtain⟨v,σ',H',J,rv,q⟩:=hs;exact fin J rv q
 |next=>
  obtain⟨σ',H',J,q⟩:=hs;exact fin (v:=V.non) (u:=Value.none) J rfl q
 |brk=>
  obtain⟨_,_,_,q⟩:=hs;exact Gv q
 |cont=>
  obtain⟨_,_,_,q⟩:=hs;exact Gv q
section
variable{X:Cx}{x:Uw}{p pos:Pos}{e:Ux}{es:List Ux}{t:TA}{id T:String}{r:List V->Hp->VK->Prop}
def tCB(r:List V->Hp->VK->Prop)(t:TA):TE:=λσ H Q=>t σ H λvs H1=>r vs H1 Q
theorem N5(hc:aR X (.builtin id) r)(hg:Gl X x)(hm:X.mg x=none)(hv:Be x=some (.builtin id))(ha:PA X (e::es) t)(hn:x≠ "__name__":=by decide)(hdb:(x==("__debug__":Uw))=false:=by decide)(he:Us (e::es) X.env=(false,eval e X.env)::Us es X.env:=by rfl)(hpl:(Dv pos (Us es X.env)).any (·.1)=false:=by rfl):PE X (.Call (.Name x p) (e::es) [] pos) (tCB r t):=by intro aa s σ H Q I h;refine Es (VO I hg hm hv ?_ hn hdb);exact PyProof.Rows.callWith_builtin1 (ZN (ha pos aa s σ H _ I h) λus s1 ⟨vs,H1,I1,r1,q1⟩=>hc aa s1 σ H1 vs us Q I1 r1 q1) he hpl
theorem V8(hc:aR X (.type T) r)(hg:Gl X x)(hm:X.mg x=none)(hv:Be x=some (.type T))(ha:PA X (e::es) t)(hn:x≠ "__name__":=by decide)(hdb:(x==("__debug__":Uw))=false:=by decide)(he:Us (e::es) X.env=(false,eval e X.env)::Us es X.env:=by rfl)(hpl:(Dv pos (Us es X.env)).any (·.1)=false:=by rfl):PE X (.Call (.Name x p) (e::es) [] pos) (tCB r t):=by intro aa s σ H Q I h;refine Es (VO I hg hm hv ?_ hn hdb);exact Cn (ZN (ha pos aa s σ H _ I h) λus s1 ⟨vs,H1,I1,r1,q1⟩=>hc aa s1 σ H1 vs us Q I1 r1 q1) he hpl
end
end L2
namespace HT
open PySem PyProof.Rows
section
variable{prog:Av}{w:Uy}{A:Br}{E:Uq->Ad->Prop}{s:Ad}
theorem zFN{t b:Ur}{vs ws:List Uq}{Q:Uq->Ad->Prop}(ht:IsTup s.heap t vs.toArray)(hb:IsTup s.heap b ws.toArray)(hv:vs≠[])(h1:ws=[]->Q (.ref t) s)(h2:ws≠[]->Q (.ref s.heap.objs.size) {s with heap:=s.heap.push {cls:=.type "tuple",data:=.seq (vs++ws).toArray}})(hsz:vs.length+ws.length<=sizeLine):Ut (Uv prog w) A (Fm .Add (.ref t) (.ref b)) Q E s:=by
 obtain⟨⟨cls,dd,data,sl⟩,ho,hc,n,hd⟩:=id ht;obtain⟨⟨o7,dd2,data2,sl2⟩,ho2,hc2,n2,hd2⟩:=id hb;simp only at hc hd hc2 hd2;subst hc hd hc2 hd2;have e:vs.toArray++ws.toArray=(vs++ws).toArray:=by simp
 by_cases hw:ws=[]
 ·exact Mn ⟨_,ho,rfl⟩ ⟨_,ho2,rfl⟩ Lz Om Im Ib (Hm _ _)
   (tuple_addW1 t b vs.toArray ws.toArray n n2 dd dd2 sl sl2 (by simpa using hv) (by simp[hw])) ⟨ho,ho2,h1 hw⟩
 ·refine Mn ⟨_,ho,rfl⟩ ⟨_,ho2,rfl⟩ Lz Om Im Ib (Hm _ _)
   (tuple_addW2 t b vs.toArray ws.toArray n n2 dd dd2 sl sl2 (by simpa using hv) (by simpa using hw) (by rw[An,An];exact hsz)) ⟨ho,ho2,?_⟩
  rw[e];exact h2 hw
noncomputable def sIx(n d:Nat):Option Int->Nat
 |none=>d
 |some v=>if v<0 then(v+(n:Int)).toNat else min v.toNat n
theorem HV(n d:Nat):sIx n d none=d:=rfl
theorem D9(n d k:Nat):sIx n d (some (k:Int))=min k n:=by show(if(k:Int)<0 then((k:Int)+(n:Int)).toNat else min (k:Int).toNat n)=min k n;rw[if_neg (by lia),Ir]
theorem iF(n d:Nat)(hd:d<=n)(o:Option Int):sIx n d o<=n:=by
 cases o with
 |none=>exact hd
 |some v=>
  show(if v<0 then(v+(n:Int)).toNat else min v.toNat n)<=n;by_cases hv:v<0
  ·rw[if_pos hv];lia
  ·rw[if_neg hv];exact Nat.min_le_right _ _
theorem C5(v:Int)(n d:Nat):(if v<0 then max (v+(n:Int)) 0 else min v (n:Int))=((sIx n d (some v):Nat):Int):=by
 show(if v<0 then max (v+(n:Int)) 0 else min v (n:Int))=(((if v<0 then(v+(n:Int)).toNat else min v.toNat n):Nat):Int);by_cases hv:v<0
 ·simp only[if_pos hv];lia
 ·simp only[if_neg hv];lia
theorem EV(lo hi:Option Int)(n:Nat):He lo hi 1 (n:Int)=(((sIx n 0 lo:Nat):Int),((sIx n n hi:Nat):Int)):=by
 have h1:¬((1:Int)<0):=by lia
 unfold He;simp only[h1,if_false];refine Prod.ext ?_ ?_
 ·cases lo with
  |none=>rfl
  |some v=>exact C5 v n 0
 ·cases hi with
  |none=>rfl
  |some v=>exact C5 v n n
theorem FR(i j:Nat):Fq (i:Int) (j:Int) 1=j - i:=by
 unfold Fq;have h1:(1:Int)>0:=by lia
 simp only[h1,if_true,Int.ediv_one];split<;>lia
theorem OJ{v:Uq}{o:Option Int}{Q:Option Int->Ad->Prop}(p:IsPart v o)(h:Q o s):Ut (Uv prog w) A (Rk v) Q E s:=by
 cases p with
 |none=>exact slicePart_none h
 |int i t=>exact slicePart_int h
theorem WB{sl:Ur}{vl vu:Uq}{lo hi:Option Int}{n:Nat}{Q:Int×Int×Nat->Ad->Prop}(hs:s.heap.IsSliceOf sl vl vu .none)(pl:IsPart vl lo)(pu:IsPart vu hi)(h:Q (((sIx n 0 lo:Nat):Int),1,sIx n n hi - sIx n 0 lo) s):Ut (Uv prog w) A (Kh (.ref sl) (pure (n:Int))) Q E s:=by obtain⟨os,hos,hcs,hds⟩:=id hs;unfold Kh Sr;refine Aa (Aa (Dw hos hds (x:=vl) rfl (Aa (Dw hos hds (x:=vu) rfl (Aa (Dw hos hds (x:=.none) rfl (Ag ?_)))))));refine Aa (slicePart_none ?_);show Ut _ _ (if((1:Int)==0)=true then _ else _) _ _ s;rw[if_neg (by decide)];refine Aa (OJ pl (Aa (OJ pu (Aa (Ag ?_)))));show Ut _ _ (match He lo hi 1 (n:Int) with|(lo,hi)=>pure (lo,(1:Int),Fq lo hi 1)) _ _ s;rw[EV lo hi n];show Ut _ _ (pure (((sIx n 0 lo:Nat):Int),(1:Int),Fq ((sIx n 0 lo:Nat):Int) ((sIx n n hi:Nat):Int) 1)) _ _ s;rw[FR];exact Ag h
theorem dJ(xs:Array Uq)(i k:Nat):((Ar k).filterMap λ(m:Nat)=>xs[((i:Int)+(m:Int)*1).toNat]?).toArray=((xs.toList.drop i).take k).toArray:=by
 have e:(λ(m:Nat)=>xs[((i:Int)+(m:Int)*1).toNat]?)=λm=>xs[i+m]? :=by
  funext m;have:((i:Int)+(m:Int)*1).toNat=i+m:=by lia
  rw[this]
 rw[e];have:=pick_run xs i k;rw[List.filterMap_map] at this;have e2:((λx=>xs[x]?)∘λx=>i+x)=λm=>xs[i+m]? :=rfl;rw[e2] at this;rw[this]
theorem RG{t sl:Ur}{items:Array Uq}{vl vu:Uq}{lo hi:Option Int}{Q:Uq->Ad->Prop}(ht:IsTup s.heap t items)(hs:s.heap.IsSliceOf sl vl vu .none)(pl:IsPart vl lo)(pu:IsPart vu hi)(hw:¬(sIx items.size 0 lo=0/\sIx items.size items.size hi=items.size))(h:Q (.ref s.heap.objs.size) {s with heap:=s.heap.push {cls:=.type "tuple",data:=.seq ((items.toList.drop (sIx items.size 0 lo)).take (sIx items.size items.size hi - sIx items.size 0 lo)).toArray}})(hsz:items.size<=sizeLine):Ut (Uv prog w) A (Ll (.ref t) (.ref sl)) Q E s:=by
 have bq:sizeOk (.seq ((items.toList.drop (sIx items.size 0 lo)).take (sIx items.size items.size hi - sIx items.size 0 lo)).toArray):=by show((items.toList.drop (sIx items.size 0 lo)).take (sIx items.size items.size hi - sIx items.size 0 lo)).toArray.size<=sizeLine;rw[An,Cb,Qs,Ge];lia
 have hj:sIx items.size items.size hi<=items.size:=iF _ _ (Am _) hi;obtain⟨os,hos,hcs,hds⟩:=id hs;have hTs:s.TypeIs (.ref sl) "slice":=⟨os,hos,hcs⟩;unfold Ll;try with_reducible refine Bo ?_
 first|refine Aa (Ag ?_)|skip
 refine Aa (Kx ht.typeIs (by decide) ?_);refine Aa (Dm (name:=Bf "__getitem__") ht.typeIs Ej
  (Du Ej ht.typeIs entry_tuple_getitem ?_ (args_tuple_getitem _ _)))
 show Ut _ _ (Ki (.ref t)>>=_) _ _ s;refine Aa (tupleItemsOf_ ht ?_);refine Aa (Km hTs ?_);rw[if_pos (by decide)];refine Aa (WB hs pl pu ?_);have hno:¬((((sIx items.size 0 lo:Nat):Int)==0&&(1:Int)==1&&(sIx items.size items.size hi - sIx items.size 0 lo)==items.size)=true):=by intro q;rw[Ae,Ae] at q;have q1:((sIx items.size 0 lo:Nat):Int)=0:=eq_of_beq q.1.1;have q2:sIx items.size items.size hi - sIx items.size 0 lo=items.size:=eq_of_beq q.2;exact hw ⟨by lia,by lia⟩
 show Ut _ _ (if(((sIx items.size 0 lo:Nat):Int)==0&&(1:Int)==1&&(sIx items.size items.size hi - sIx items.size 0 lo)==items.size)=true then _ else _) _ _ s;rw[if_neg hno,dJ]
 first
  |exact Aa (m:=Fz _) (Cm (Ag ⟨_,rfl,Ag h⟩) bq)
  |exact Aa (m:=Fz _) (Cm (Aa (Ag (Ag ⟨_,rfl,Ag h⟩))) bq)
  |exact Aa (Aa (m:=Fz _) (Cm (Ag (Ag ⟨_,rfl,Ag h⟩)) bq))
  |exact Aa (Aa (m:=Fz _) (Cm (Ag ⟨_,rfl,Ag h⟩) bq))
end
end HT
namespace L2
open PySem PySem.Spec PyProof.Rows
abbrev TO:=St->Hp->(Option Int->Hp->Prop)->Prop
def PO(X:Cx)(e:Option Ux)(t:TO):Prop:=
 ∀(aa:List (Ur×Vc)) (s:Ad) (σ:St) (H:Hp) (Q:Option Int->Hp->Prop),cK X aa σ H s->t σ H Q->
  Ut (Uv X.prog X.w) X.A (evalPart e X.env) (λu s'=>∃o H',cK X aa σ H' s'/\IsPart u o/\Q o H') X.xe s
def dX:TO:=λ_ H Q=>Q none H
def pF(t:TE):TO:=λσ H Q=>t σ H λx H1=>∃i,x=.int i/\Q (some i) H1
section
variable{X:Cx}{e:Ux}{te:TE}{lo hi:Option Ux}{tl th:TO}{pos p2:Pos}
theorem zEC:PO X none dX:=by intro aa s σ H Q I h;rw[evalPart_none];exact Ag ⟨none,H,I,.none,h⟩
theorem pX(h:PE X e te):PO X (some e) (pF te):=by intro aa s σ H Q I hw;rw[evalPart_some];refine ZN (h aa s σ H _ I hw) λu s1 ⟨x,H1,I1,r1,q1⟩=>?_;obtain⟨i,rfl,q⟩:=q1;obtain⟨t,rfl⟩:=r1;exact⟨some i,H1,I1,.int i t,q⟩
def SlR(X:Cx)(r:V->Option Int->Option Int->Hp->VK->Prop):Prop:=
 ∀(aa:List (Ur×Vc)) (s:Ad) (σ:St) (H:Hp) (x:V) (v vl vu:Uq) (lo hi:Option Int) (sl:Ur) (Q:VK),cK X aa σ H s->b5 x v->s.heap.IsSliceOf sl vl vu .none->IsPart vl lo->IsPart vu hi->r x lo hi H Q->
  ∃T id,typeLookup (.type T) "__getitem__"=pure (some (.builtin id))/\s.TypeIs v T/\Ut (Uv X.prog X.w) X.A (Ll v (.ref sl)) (EP X aa σ Q) X.xe s
theorem SlR.or{r r':V->Option Int->Option Int->Hp->VK->Prop}(h:SlR X r)(h':SlR X r'):SlR X (λx lo hi H Q=>r x lo hi H Q∨r' x lo hi H Q):=by
 intro aa s σ H x v vl vu lo hi sl Q I rx hs pl pu q;rcases q with q|q
 ·exact h aa s σ H x v vl vu lo hi sl Q I rx hs pl pu q
 ·exact h' aa s σ H x v vl vu lo hi sl Q I rx hs pl pu q
def tSl(r:V->Option Int->Option Int->Hp->VK->Prop)(te:TE)(tl th:TO):TE:=λσ H Q=>te σ H λx H1=>tl σ H1 λl H2=>th σ H2 λu H3=>r x l u H3 Q
theorem nA{r:V->Option Int->Option Int->Hp->VK->Prop}(hr:SlR X r)(he:PE X e te)(hl:PO X lo tl)(hu:PO X hi th):PE X (.Subscript e (.Slice lo hi none p2) pos) (tSl r te tl th):=by intro aa s σ H Q I h;refine Subscript_ (ZN (he aa s σ H _ I h) λv s1 ⟨x,H1,I1,r1,q1⟩=>?_);refine wpAny_Slice (ZN (hl aa s1 σ H1 _ I1 q1) λvl s2 ⟨l,H2,I2,pl,q2⟩=>ZN (hu aa s2 σ H2 _ I2 q2) λvu s3 ⟨u,H3,I3,pu,q3⟩=>?_);rw[evalPart_none];refine Ag ?_;have I4:cK X aa σ H3 {s3 with heap:=s3.heap.push {cls:=.type "slice",data:=.fields #[vl,vu,.none]}}:=I3.kept (t':=s3.toks) λb ob q=>Ac _ q;obtain⟨T,id,hT,ht,hg⟩:=hr aa {s3 with heap:=s3.heap.push {cls:=.type "slice",data:=.fields #[vl,vu,.none]}} σ H3 x v vl vu l u s3.heap.objs.size Q I4 r1 (Um ..) pl pu q3;show Ut (Uv X.prog X.w) X.A (subscriptTail e (.Slice lo hi none p2) v (.ref s3.heap.objs.size)) (EP X aa σ Q) X.xe {s3 with heap:=s3.heap.push {cls:=.type "slice",data:=.fields #[vl,vu,.none]}};exact Tj (ops:=[.ref s3.heap.objs.size,v]) ht hT hg (by with_unfolding_all rfl)
def GR(xs:List V)(lo hi:Option Int):List V:=(xs.drop (HT.sIx xs.length 0 lo)).take (HT.sIx xs.length xs.length hi - HT.sIx xs.length 0 lo)
theorem PZ(xs:List V)(lo hi:Option Int):(GR xs lo hi).length<=xs.length:=by unfold GR;rw[Cb,Qs];lia
def rSlT(K:Ai):V->Option Int->Option Int->Hp->VK->Prop:=λx lo hi H Q=>∃a xs,x=.ref a/\WM K H a xs∧
 ¬(HT.sIx xs.length 0 lo=0/\HT.sIx xs.length xs.length hi=xs.length)/\∀p,H p=none->Q (.ref p) (upd H p (.tup (GR xs lo hi)))
theorem zHI:SlR X (rSlT X.K):=by
 intro aa s σ H x v vl vu lo hi sl Q I rx hs pl pu h;obtain⟨a,xs,rfl,hx,hw,q⟩:=h;cases rx;obtain⟨its,r,ht,hz⟩:=I.tuple hx;have ah:its.toArray.size=xs.length:=by rw[An];exact r.length.symm
 refine⟨"tuple",_,PyProof.Rows.slot_tuple_getitem.lookup,ht.typeIs,?_⟩;refine HT.RG ht hs pl pu (by rw[ah];exact hw) ?_ (by rw[ah];exact hz);rw[ah];refine⟨.ref s.heap.objs.size,_,I.laid (t':=s.toks) (o:=.tup (GR xs lo hi)) (λb ob q=>Ac _ q) (Am _) ?_,rfl,q _ (I.hok.fresh (Am _))⟩;exact⟨Dh (PZ xs lo hi) hz,_,(r.drop (HT.sIx xs.length 0 lo)).take (HT.sIx xs.length xs.length hi - HT.sIx xs.length 0 lo),Ju _ _⟩
theorem bN.nil_iff{xs:List V}{us:List Uq}(r:bN xs us):us=[]↔xs=[]:=by
 cases r with
 |nil=>simp
 |cons _ _=>simp
end
noncomputable def ixN(n:Nat)(i:Int):Option Nat:=if 0<=i then(if i<n then some i.toNat else none) else if -(n:Int)<=i then some (i+n).toNat else none
def T0{α:Type}(xs:List α)(i:Int):Option α:=(ixN xs.length i).bind λj=>xs[j]?
theorem pL{n:Nat}{i:Int}{j:Nat}(h:ixN n i=some j):seqIndex? i n=some j/\j<n/\ -(n:Int)<=i/\i<n:=by
 unfold ixN at h;by_cases h0:0<=i
 ·rw[if_pos h0] at h
  by_cases h1:i<n
  ·rw[if_pos h1] at h
   have e:i.toNat=j:=Bx h;exact⟨by rw[seqIndex_of h0 h1,e],by lia,by lia,h1⟩
  ·rw[if_neg h1] at h;cases h
 ·rw[if_neg h0] at h
  by_cases h1: -(n:Int)<=i
  ·rw[if_pos h1] at h
   have e:(i+n).toNat=j:=Bx h;exact⟨by rw[seqIndex_neg (by lia) h1,e],by lia,h1,by lia⟩
  ·rw[if_neg h1] at h;cases h
theorem JB{α:Type}{xs:List α}{i:Int}{v:α}(h:T0 xs i=some v):∃j,seqIndex? i xs.length=some j/\xs[j]?=some v/\j<xs.length/\ -(xs.length:Int)<=i/\i<xs.length:=by
 unfold T0 at h;cases e:ixN xs.length i with
 |none=>rw[e] at h;cases h
 |some j=>
  rw[e] at h;obtain⟨h1,h2,h3,h4⟩:=pL e;exact⟨j,h1,h,h2,h3,h4⟩
theorem Q7{α:Type}(xs:List α)(v:α):T0 (xs++[v]) (-1)=some v:=by
 have hl:(xs++[v]).length=xs.length+1:=by simp
 have e:ixN (xs++[v]).length (-1)=some xs.length:=by unfold ixN;rw[hl,if_neg (by decide),if_pos (by lia)];congr 1;lia
 unfold T0;rw[e];show(xs++[v])[xs.length]?=some v;simp
def IU(b:Ux):Prop:=∀o i,subscripted b false o i=operate [o,i] (Ll o i)
def AK(X:Cx)(r:R2):Prop:=
 ∀(value slice:Ux) (aa:List (Ur×Vc)) (s:Ad) (σ:St) (H:Hp) (x y:V) (v u:Uq) (Q:VK),cK X aa σ H s->b5 x v->b5 y u->r x y H Q->
  subscripted slice false v u=operate [v,u] (Ll v u)->Ut (Uv X.prog X.w) X.A (subscriptTail value slice v u) (EP X aa σ Q) X.xe s
def MtR(X:Cx)(id:String)(r:V->List V->Hp->VK->Prop):Prop:=
 ∀(aa:List (Ur×Vc)) (s:Ad) (σ:St) (H:Hp) (x:V) (xs:List V) (v:Uq) (us:List Uq) (Q:VK),cK X aa σ H s->b5 x v->bN xs us->r x xs H Q->
  Ut (Uv X.prog X.w) X.A (call (.builtin id) (v::us)) (EP X aa σ Q) X.xe s
section
variable{X:Cx}{a b:Ux}{ta tb:TE}{pos:Pos}
theorem AK.or{r r':R2}(h:AK X r)(h':AK X r'):AK X (λx y H Q=>r x y H Q∨r' x y H Q):=by
 intro value slice aa s σ H x y v u Q I rx ry q hs;rcases q with q|q
 ·exact h value slice aa s σ H x y v u Q I rx ry q hs
 ·exact h' value slice aa s σ H x y v u Q I rx ry q hs
theorem jK{r:R2}(hr:AK X r)(ha:PE X a ta)(hb:PE X b tb)(hs:IU b):PE X (.Subscript a b pos) (tOp r ta tb):=by intro aa s σ H Q I h;exact Subscript_ (binT ha hb I h λv u s2 x y H2 I2 rx ry q=>hr a b aa s2 σ H2 x y v u Q I2 rx ry q (hs _ _))
def rIxL(K:Ai):R2:=λx y H Q=>∃p xs i v,x=.ref p/\y=.int i/\YA K H p xs/\T0 xs i=some v/\Q v H
def rIxT(K:Ai):R2:=λx y H Q=>∃p xs i v,x=.ref p/\y=.int i/\WM K H p xs/\T0 xs i=some v/\Q v H
def rIxS:R2:=λx y H Q=>∃z i c,x=.str z/\y=.int i/\z.length<=sizeLine/\T0 z.cps.toList i=some c/\Q (.str ⟨#[c]⟩) H
theorem zFA:AK X (rIxL X.K):=by
 intro value slice aa s σ H x y v u Q I rx ry h hs;obtain⟨p,xs,i,z,rfl,rfl,hq,he,q⟩:=h;cases rx;obtain⟨t,rfl⟩:=ry;obtain⟨its,r,pl,hz⟩:=I.list hq;obtain⟨j,h1,h2,h3,h4,h5⟩:=JB he;obtain⟨w,ew,rw'⟩:=r.get h2;have hl:=r.length;have hn:=NU;have fin:EP X aa σ Q w s:=⟨z,H,I,rw',q⟩;by_cases h0:0<=i
 ·have hj:i.toNat=j:=by rw[seqIndex_of h0 h5] at h1;exact Bx h1
  exact item_listR pl.isList h0 (by lia) (by rw[hj];simpa using ew) fin hs
 ·have hj:(i+(its.toArray.size:Int)).toNat=j:=by rw[seqIndex_neg (by lia) h4] at h1;rw[An,<- hl];exact Bx h1
  exact Mf (x:=w) pl.isList.typeIs slot_list_getitem.lookup
   (wpAny_getItem_list_neg (Q:=λr s'=>r=w/\EP X aa σ Q r s') pl.isList (by lia) (by rw[An]<;>lia) (by lia) (by rw[hj];simpa using ew) ⟨rfl,fin⟩) hs
theorem zJS:AK X (rIxT X.K):=by
 intro value slice aa s σ H x y v u Q I rx ry h hs;obtain⟨p,xs,i,z,rfl,rfl,hq,he,q⟩:=h;cases rx;obtain⟨t,rfl⟩:=ry;obtain⟨its,r,pl,hz⟩:=I.tuple hq;obtain⟨j,h1,h2,h3,h4,h5⟩:=JB he;obtain⟨w,ew,rw'⟩:=r.get h2;have hl:=r.length;have hn:=NU;have fin:EP X aa σ Q w s:=⟨z,H,I,rw',q⟩;exact Mf (x:=w) pl.typeIs slot_tuple_getitem.lookup
  (getItem_tuple (j:=j) (Q:=λr s'=>r=w/\EP X aa σ Q r s') pl (by lia) (by lia) (by rw[An,<-hl];exact h1) (by simpa using ew) ⟨rfl,fin⟩) hs
theorem kT:AK X rIxS:=by
 intro value slice aa s σ H x y v u Q I rx ry h hs;obtain⟨z,i,c,rfl,rfl,hz,he,q⟩:=h;obtain⟨t,rfl⟩:=rx;obtain⟨t',rfl⟩:=ry;obtain⟨j,h1,h2,h3,h4,h5⟩:=JB he;have hl:z.cps.toList.length=z.length:=by simp[Str.length]
 rw[hl] at h1 h4 h5;have hn:=NU;exact Tj (typeIs_str s z t) slot_str_getitem.lookup (getItem_str (c:=c) (by have e1:decide (i< -(2 ^ 63:Int))=false:=decide_eq_false (by lia);have e2:decide (i≥2 ^ 63)=false:=decide_eq_false (by lia);rw[e1,e2,Tk]) (by rw[h1];simpa using h2) ⟨.str ⟨#[c]⟩,H,I.tok _,⟨_,rfl⟩,q⟩) hs
def rIx(K:Ai):R2:=λx y H Q=>rIxL K x y H Q∨rIxT K x y H Q∨rIxS x y H Q
theorem zJU:AK X (rIx X.K):=zFA.or (zJS.or kT)
theorem KH(lo hi:Option Int)(n:Nat):(Iu lo hi none n).1=((HT.sIx n 0 lo:Nat):Int)/\(Iu lo hi none n).2.1=((HT.sIx n n hi:Nat):Int)/\(Iu lo hi none n).2.2=1:=by
 refine⟨?_,?_,rfl⟩
 ·cases lo with
  |none=>simp[Iu,HT.sIx]
  |some i=>
   simp only[Iu,HT.sIx,Qt,show(1:Int)>0 by decide,if_true];by_cases h:i<0
   ·simp only[h,if_true]<;>lia
   ·simp only[h,if_false]<;>lia
 ·cases hi with
  |none=>simp[Iu,HT.sIx]
  |some i=>
   simp only[Iu,HT.sIx,Qt,show(1:Int)>0 by decide,if_true];by_cases h:i<0
   ·simp only[h,if_true]<;>lia
   ·simp only[h,if_false]<;>lia
theorem MY(its:List Uq)(lo hi:Option Int):slicePick its.toArray lo hi none=((its.drop (HT.sIx its.length 0 lo)).take (HT.sIx its.length its.length hi - HT.sIx its.length 0 lo)).toArray:=by obtain⟨h1,h2,h3⟩:=KH lo hi its.toArray.size;unfold slicePick;rw[h1,h2,h3];simp only[sliceRange_one,pick_run,An]<;>rfl
def rSlL(K:Ai):V->Option Int->Option Int->Hp->VK->Prop:=λx lo hi H Q=>∃a xs,x=.ref a/\YA K H a xs/\∀p,H p=none->Q (.ref p) (upd H p (.lst (GR xs lo hi)))
theorem oN:SlR X (rSlL X.K):=by intro aa s σ H x v vl vu lo hi sl Q I rx hs pl pu h;obtain⟨a,xs,rfl,hx,q⟩:=h;cases rx;obtain⟨its,r,ht,hz⟩:=I.list hx;have ah:=r.length;refine⟨"list",_,slot_list_getitem.lookup,ht.isList.typeIs,?_⟩;refine wpAny_getItem_list_slice ht.isList hs pl pu .none (by simp) ?_ (by rw[An]<;>lia);rw[MY,<-ah];refine⟨.ref s.heap.objs.size,_,I.laid (t':=s.toks) (o:=.lst (GR xs lo hi)) (λb ob q=>Ac _ q) (Am _) ?_,rfl,q _ (I.hok.fresh (Am _))⟩;exact⟨Dh (PZ xs lo hi) hz,_,0,(r.drop (HT.sIx xs.length 0 lo)).take (HT.sIx xs.length xs.length hi - HT.sIx xs.length 0 lo),Ao _ rfl⟩
theorem JE:aR X (.builtin "len") (λxs H Q=>∃p ys,xs=[.ref p]/\(YA X.K H p ys∨WM X.K H p ys)/\Q (.int ys.length) H):=by
 intro aa s σ H xs us Q I r h;obtain⟨p,ys,rfl,hq,q⟩:=h;obtain⟨u,rfl,rx⟩:=U9 r;cases rx;have hn:=NU;rcases hq with hq|hq
 ·obtain⟨its,r',pl,hz⟩:=I.list hq
  have ah:=r'.length;exact Calls.call_len_list pl.isList (by simp only[An]<;>lia) ⟨.int ys.length,H,I.tok _,⟨s.toks+1,by rw[An,ah]⟩,q⟩
 ·obtain⟨its,r',pl,hz⟩:=I.tuple hq
  have ah:=r'.length;exact len_tuple pl (by simp only[An]<;>lia) ⟨.int ys.length,H,I.tok _,⟨s.toks+1,by rw[An,ah]⟩,q⟩
theorem JF:aR X (.builtin "len") (λxs H Q=>∃z,xs=[.str z]/\z.length<=sizeLine/\Q (.int z.length) H):=by intro aa s σ H xs us Q I r h;obtain⟨z,rfl,hz,q⟩:=h;obtain⟨u,rfl,t,rfl⟩:=U9 r;have hn:=NU;exact len_str (by lia) ⟨.int z.length,H,I.tok _,⟨_,rfl⟩,q⟩
theorem aR.or{f:Uq}{r r':List V->Hp->VK->Prop}(h:aR X f r)(h':aR X f r'):aR X f (λxs H Q=>r xs H Q∨r' xs H Q):=by
 intro aa s σ H xs us Q I rs q;rcases q with q|q
 ·exact h aa s σ H xs us Q I rs q
 ·exact h' aa s σ H xs us Q I rs q
theorem JG:aR X (.type "list") (λxs H Q=>∃p ys,xs=[.ref p]/\(YA X.K H p ys∨WM X.K H p ys)/\∀l,H l=none->Q (.ref l) (upd H l (.lst ys))):=by
 intro aa s σ H xs us Q I r h;obtain⟨p,ys,rfl,hq,q⟩:=h;obtain⟨u,rfl,rx⟩:=U9 r;cases rx;have fin:∀(its:List Uq),bN ys its->ys.length<=sizeLine->∀(h':Va) (c':Nat),(∀b o',s.heap.get? b=some o'->h'.get? b=some o')->
   h'.get? s.heap.objs.size=some {cls:=.type "list",dict:=none,data:=.seq its.toArray c',slots:= #[]}->EP X aa σ Q (.ref s.heap.objs.size) {s with heap:=h'}:=λits r' hz h' c' kp e=>
  ⟨.ref s.heap.objs.size,_,I.laid (t':=s.toks) kp (Am _) (show Z0 X.prog X.w _ h' _ (.lst ys) from⟨hz,its,c',r',e⟩),rfl,q _ (I.hok.fresh (Am _))⟩
 rcases hq with hq|hq
 ·obtain⟨its,r',pl,hz⟩:=I.list hq
  have ah:=r'.length;obtain⟨o,ho,hc,n,hd⟩:=pl.isList;exact call_list_seq p (.inl rfl) ho hc hd (λh' c' kp e=>fin its r' hz h' c' kp e) (by simp only[An]<;>lia)
 ·obtain⟨its,r',pl,hz⟩:=I.tuple hq
  have ah:=r'.length;obtain⟨o,ho,hc,n,hd⟩:=pl;exact call_list_seq p (.inr rfl) ho hc hd (λh' c' kp e=>fin its r' hz h' c' kp e) (by simp only[An]<;>lia)
theorem MT:aR X (.type "tuple") (λxs H Q=>∃p ys,xs=[.ref p]/\((YA X.K H p ys/\∀l,H l=none->Q (.ref l) (upd H l (.tup ys)))∨(WM X.K H p ys/\Q (.ref p) H))):=by
 intro aa s σ H xs us Q I r h;obtain⟨p,ys,rfl,h⟩:=h;obtain⟨u,rfl,rx⟩:=U9 r;cases rx;rcases h with⟨hq,q⟩|⟨hq,q⟩
 ·obtain⟨its,r',pl,hz⟩:=I.list hq
  have ah:=r'.length;refine call_tuple_list pl.isList (λh' kp=>?_) (by simp only[An]<;>lia);have I1:cK X aa σ H {s with heap:=h'}:=I.kept (t':=s.toks) kp;have I2:cK X aa σ (upd H h'.objs.size (.tup ys)) {s with heap:=h'.push {cls:=.type "tuple",data:=.seq its.toArray}}:=
   I1.laid (t':=s.toks) (λb o e=>Ac _ e) (Am _) (show Z0 X.prog X.w _ _ _ (.tup ys) from⟨hz,its,r',Ju _ _⟩)
  exact⟨.ref h'.objs.size,_,I2,rfl,q _ (I1.hok.fresh (Am _))⟩
 ·obtain⟨its,r',pl,hz⟩:=I.tuple hq
  exact call_tuple_same pl ⟨.ref p,H,I,rfl,q⟩
def tyV(K:Ai)(T:String)(x:V)(H:Hp):Prop:=match x with
 |.str _=>T= "str"
 |.int _=>T= "int"
 | .ref p => (T = "list" /\ ∃ xs,YA K H p xs) ∨ (T = "tuple" /\ ∃ o,K.lookup p = some o /\ o.cls = .type "tuple" /\ o.dict = none) ∨
   (T= "dict" /\((∃kvs,H p=some (.dK kvs))∨∃kvs,H p=some (.dT kvs)))∨(T= "set" /\∃S n,H p=some (.set S n))
 |_=>False
theorem fN{aa:List (Ur×Vc)}{σ:St}{H:Hp}{s:Ad}{T:String}{x:V}{v:Uq}(I:cK X aa σ H s)(r:b5 x v)(ty:tyV X.K T x H):s.TypeIs v T/\∀a,v=.ref a->∃ob,s.heap.get? a=some ob/\ob.dict=none:=by
 cases x with
 |str z=>
  obtain⟨t,rfl⟩:=r;cases (show T= "str" from ty);exact⟨typeIs_str s z t,λ_ e=>nomatch e⟩
 |int i=>
  obtain⟨t,rfl⟩:=r;cases (show T= "int" from ty);exact⟨Nb s i t,λ_ e=>nomatch e⟩
 |ref p=>
  cases r;rcases ty with⟨rfl,xs,hq⟩|⟨rfl,o,hk,hc,hd⟩|⟨rfl,hk⟩|⟨rfl,S,n,hk⟩
  ·obtain⟨its,_,pl,_⟩:=I.list hq
   refine⟨pl.isList.typeIs,λa e=>?_⟩;cases e;obtain⟨o,n,e,c,hd,_⟩:=pl;exact⟨o,e,hd⟩
  ·refine ⟨⟨o,I.kIn p o hk,hc⟩,λa e => ?_⟩
   cases e;exact⟨o,I.kIn _ o hk,hd⟩
  ·have z: ∃o,s.heap.get? p=some o/\o.ExactDict:=by
    rcases hk with⟨kvs,hk⟩|⟨kvs,hk⟩
    ·obtain⟨_,_,_,_,o,_,_,e,ex,_⟩:=I.hok p _ hk
     exact⟨o,e,ex⟩
    ·obtain⟨_,_,_,_,o,_,_,e,ex,_⟩:=I.hok p _ hk
     exact⟨o,e,ex⟩
   obtain⟨o,e,ex⟩:=z;refine⟨⟨o,e,ex.1⟩,λa e2=>?_⟩;cases e2;exact⟨o,e,ex.2.1⟩
  ·obtain⟨o,_,_,_,e,ex,_⟩:=I.hok p _ hk
   refine⟨⟨o,e,ex.1⟩,λa e2=>?_⟩;cases e2;exact⟨o,e,ex.2.1⟩
 |_=>exact Gv ty
def tBM(K:Ai)(T:String)(r:V->List V->Hp->VK->Prop)(to:TE)(t:TA):TE:=λσ H Q=>to σ H λx H1=>tyV K T x H1/\t σ H1 λxs H2=>r x xs H2 Q
variable{o e:Ux}{es:List Ux}{to:TE}{t:TA}{name:Uw}{ao af:Pos}{T id:String}{r:V->List V->Hp->VK->Prop}
theorem Zv(pa:PlainAttrs T)(slot:Slot T name id)(hty:Nl (.builtin id)=pure (.type "method_descriptor"))(hm:MtR X id r)(ho:PE X o to)(ha:PA X (e::es) t)(cj:Fn o name X.env (eval o X.env)=eval o X.env:=by rfl)(eo:((Dv af (Us (e::es) X.env)).all (λx=> !x.1)&&(Ic af (Fe [] X.env)).all (λx=>x.1.isSome)&&decide ((e::es).length+([]:List Iv).length+(if([]:List Iv).isEmpty then 0 else 1)<30))=true:=by rfl)(ci:(ao.endLine==af.line)=true:=by rfl)(hs:Us (e::es) X.env=(false,eval e X.env)::Us es X.env:=by rfl)(bp:(Dv af (Us es X.env)).any (·.1)=false:=by rfl):PE X (.Call (.Attribute o name ao) (e::es) [] af) (tBM X.K T r to t):=by intro aa s σ H Q I h;refine wpAny_Call_method_late cj eo ci rfl (ZN (ho aa s σ H _ I h) λv s1 ⟨x,H1,I1,r1,ty,q1⟩=>?_);obtain⟨h1,h2⟩:=fN I1 r1 ty;refine⟨T,id,pa,slot,hty,h1,h2,?_⟩;have hA:=ha af aa s1 σ H1 _ I1 q1;rw[hs] at hA⊢;refine Fh (by show(false || (Dv af (Us es X.env)).any (·.1))=false;rw[bp]<;>rfl) (Eg ?_);exact ZN hA λus s2 ⟨vs,H2,I2,r2,q2⟩=>hm aa s2 σ H2 x vs v us Q I2 r1 r2 q2
end
def MtM(X:Cx)(id:String)(r:V->List V->Hp->VK->Prop):Prop:=
 ∀(aa:List (Ur×Vc)) (s:Ad) (σ:St) (H:Hp) (x:V) (xs:List V) (v:Uq) (us:List Uq) (Q:VK),cK X aa σ H s->b5 x v->bN xs us->r x xs H Q->
  Ut (Uv X.prog X.w) X.A (call (.builtin id) (v::us)) (EP X aa σ Q) X.xe s
theorem bN.one:∀{x:V} {us:List Uq},bN [x] us->∃u,us=[u]/\b5 x u
 |_,_,.cons r .nil=>⟨_,rfl,r⟩
theorem bN.eraseIdx:∀{xs:List V} {us:List Uq} (i:Nat),bN xs us->bN (xs.eraseIdx i) (us.eraseIdx i)
 |_,_,_,.nil=>.nil
 |_,_,0,.cons _ t=>t
 |_,_,i+1,.cons r t=>.cons r (bN.eraseIdx i t)
section
variable{X:Cx}{aa:List (Ur×Vc)}{σ:St}{H:Hp}{s:Ad}{l b:Ur}{xs ys zs:List V}
theorem cK.lset{its its':List Uq}{n:Nat}{f:Array Uq->Array Uq}{t':Nat}(I:cK X aa σ H s)(hH:H l=some (.lst xs))(e:s.heap.get? l=some {cls:=.type "list",data:=.seq its.toArray n})(hf:f its.toArray=its'.toArray)(hv:bN ys its')(hz:ys.length<=sizeLine):cK X aa σ (upd H l (.lst ys)) {s with heap:=s.heap.update l (Fl f),toks:=t'}:=by have q:=PySem.IsL.update e f;rw[hf] at q;refine I.write (x:=l) (e:=l) (by rw[hH];exact trivial) (.inl rfl) (λb' u hb hu=>(Go s.heap (Fl f) (Dk hb)).trans hu) ⟨_,q⟩ ?_;exact⟨hz,its',_,hv,q⟩
theorem cK.lnew{its:List Uq}{t':Nat}(I:cK X aa σ H s)(hv:bN ys its)(hz:ys.length<=sizeLine):cK X aa σ (upd H s.heap.objs.size (.lst ys)) {s with heap:=s.heap.push {cls:=.type "list",data:=.seq its.toArray},toks:=t'}:=
 I.laid (λ_ _ q=>Ac _ q) (Am _) ⟨hz,its,0,hv,Ao _ rfl⟩
theorem cK.fresh(I:cK X aa σ H s):H s.heap.objs.size=none:=I.hok.fresh (Am _)
theorem cK.lstM(I:cK X aa σ H s)(hH:H l=some (.lst xs)):xs.length<=sizeLine/\∃(its:List Uq) (n:Nat),bN xs its/\xs.length=its.length/\s.heap.get? l=some {cls:=.type "list",data:=.seq its.toArray n}:=by obtain⟨z,its,n,r,e⟩:=I.hok l _ hH;exact⟨z,its,n,r,r.length,e⟩
theorem cZ{n:Nat}(h:n<=sizeLine):Ga n=false:=by unfold Ga;exact decide_eq_false (by lia)
end
section
variable{X:Cx}
def DY:V->List V->Hp->VK->Prop:=λx vs H Q=>∃l xs y,x=.ref l/\vs=[y]/\H l=some (.lst xs)/\xs.length<sizeLine/\Q .non (upd H l (.lst (xs++[y])))
theorem aP:MtM X "list.append" DY:=by intro aa s σ H x vs v us Q I rx rv h;obtain⟨l,xs,y,rfl,rfl,hH,hz,q⟩:=h;cases rx;obtain⟨u,rfl,ru⟩:=rv.one;obtain⟨z,its,n,r,hl,e⟩:=I.lstM hH;refine Gb F.slot_list_append ⟨_,e,rfl⟩ F.entry_list_append (F.args_list_append_2 _ _) (PySem.list_append l its.toArray n u (by rw[An];lia)) ⟨e,?_⟩;refine⟨.non,_,I.lset (its':=its++[u]) hH e (by simp) (r.append (.cons ru .nil)) ?_,rfl,q⟩;rw[Cc,Je];lia
end
section
variable{prog:Av}{w:Uy}{A:Br}{E:Uq->Ad->Prop}{s:Ad}
set_option maxRecDepth 100000 in
end
section
variable{κ:Type}[DecidableEq κ]
noncomputable def TM(kvs:List (κ×V))(k:κ):Option V:=(kvs.find? λkv=>decide (kv.1=k)).map (·.2)
noncomputable def XO(kvs:List (κ×V))(k:κ)(v:V):List (κ×V):=
 if(kvs.any λkv=>decide (kv.1=k))=true then kvs.map (λkv=>if kv.1=k then(kv.1,v) else kv) else kvs++[(k,v)]
theorem RY{p:κ×V}{r:List (κ×V)}{k:κ}(e:p.1=k):TM (p::r) k=some p.2:=by simp[TM,Gr,e]
theorem UU{p:κ×V}{r:List (κ×V)}{k:κ}(e:¬p.1=k):TM (p::r) k=TM r k:=by simp[TM,Gr,e]
theorem ON(k:κ):∀kvs:List (κ×V),(kvs.any λkv=>decide (kv.1=k))=(TM kvs k).isSome
 |[]=>rfl
 |p::r=>by
  rw[Gx];by_cases e:p.1=k
  ·simp only[RY e,decide_eq_true e,Bool.true_or,Oo]
  ·rw[UU e,decide_eq_false e,Tl];exact ON k r
theorem P5(kvs:List (κ×V))(k:κ)(v:V):(XO kvs k v).length<=kvs.length+1:=by
 unfold XO;split
 ·rw[By];lia
 ·rw[Cc,Bz,Mo];lia
theorem rH{kvs:List (κ×V)}{k:κ}(v:V)(h:TM kvs k=none):XO kvs k v=kvs++[(k,v)]:=by unfold XO;rw[ON,h];exact if_neg (by decide)
theorem TH.isSome_eq{o:Option V}{u:Option Uq}(r:TH o u):o.isSome=u.isSome:=by
 cases o with
 |none=>cases u with
  |none=>rfl
  |some _=>exact(show False from r).elim
 |some _=>cases u with
  |none=>exact(show False from r).elim
  |some _=>rfl
theorem TH.getD{o:Option V}{u:Option Uq}{d:V}{d':Uq}(r:TH o u)(rd:b5 d d'):b5 (o.getD d) (u.getD d'):=by
 cases o with
 |none=>cases u with
  |none=>exact rd
  |some _=>exact(show False from r).elim
 |some _=>cases u with
  |none=>exact(show False from r).elim
  |some _=>exact r
theorem KV.val{kvs:List (κ×V)}{vs:List (κ×Uq)}(r:KV kvs vs)(k:κ):TH (TM kvs k) (Pr vs k):=by
 unfold KV at r;induction r with
 |nil=>exact True.intro
 | @cons p q ps qs h t ih=>
  obtain⟨h1,h2⟩:=h;by_cases e:p.1=k
  ·have e':q.1=k:=h1.symm.trans e
   have b:Pr (q::qs) k=some q.2:=by simp[Pr,Gr,e']
   rw[RY e,b];exact h2
  ·have e' : ¬ q.1 = k := λz => e (h1.trans z)
   have b:Pr (q::qs) k=Pr qs k:=by simp[Pr,Gr,e']
   rw[UU e,b];exact ih
theorem KV.any{kvs:List (κ×V)}{vs:List (κ×Uq)}(r:KV kvs vs)(k:κ):(kvs.any λkv=>decide (kv.1=k))=vs.any λkv=>decide (kv.1=k):=by
 unfold KV at r;induction r with
 |nil=>rfl
 |cons h t ih=>rw[Gx,Gx,ih,h.1]
theorem KV.repl{kvs:List (κ×V)}{vs:List (κ×Uq)}(r:KV kvs vs)(k:κ){y:V}{u:Uq}(ry:b5 y u):KV (kvs.map λkv=>if kv.1=k then(kv.1,y) else kv) (vs.map λkv=>if kv.1=k then(kv.1,u) else kv):=by
 unfold KV at r⊢;induction r with
 |nil=>exact .nil
 | @cons p q ps qs h t ih=>
  rw[Az,Az];refine .cons ?_ ih;obtain⟨h1,h2⟩:=h;by_cases e:p.1=k
  ·rw[if_pos e,if_pos (h1.symm.trans e)];exact⟨h1,ry⟩
  ·rw[if_neg e,if_neg (λz=>e (h1.trans z))];exact⟨h1,h2⟩
theorem KV.put{kvs:List (κ×V)}{vs:List (κ×Uq)}(r:KV kvs vs)(k:κ){y:V}{u:Uq}(ry:b5 y u):KV (XO kvs k y) (Tz vs k u):=by
 unfold XO Tz;rw[r.any k];by_cases e:(vs.any λkv=>decide (kv.1=k))=true
 ·rw[if_pos e,if_pos e];exact r.repl k ry
 ·rw[if_neg e,if_neg e];exact Uj r ⟨rfl,ry⟩
theorem KV.length{kvs:List (κ×V)}{vs:List (κ×Uq)}(r:KV kvs vs):kvs.length=vs.length:=Og r
end
theorem LN{P:Av}{w:Uy}{k:aK}{u:Uq}(r:b5 (kV k) u):(aU P w).is k u=true:=by
 cases k with
 |inl i=>obtain⟨t,e⟩:=(show∃t,u=Ro i t from r);subst e;exact HB P w i t
 |inr x=>obtain⟨t,e⟩:=(show∃t,u=Rp x t from r);subst e;exact HC P w x t
theorem LM{P:Av}{w:Uy}:∀{ks:List aK} {us:List Uq},bN (ks.map kV) us->ItemsAre (aU P w) ks us
 |[],_,r=>by rw[Eh] at r;cases r;exact .nil
 |k::ks,_,r=>by
  rw[Az] at r;cases r with
  |cons h t=>exact .cons (LN h) (LM t)
abbrev KT(H:Hp):List (List aK×V)->List (List aK×Ur×Uq)->Prop:=Paired λp q=>p.1=q.1/\H q.2.1=some (.tup (p.1.map kV))/\b5 p.2 q.2.2
theorem KT.val{H:Hp}{kvs:List (List aK×V)}{xs:List (List aK×Ur×Uq)}(r:KT H kvs xs)(k:List aK):TH (TM kvs k) ((atKey xs k).map (·.2)):=by
 induction r with
 |nil=>exact True.intro
 | @cons p q ps qs h t ih=>
  obtain⟨h1,_,h2⟩:=h;by_cases e:p.1=k
  ·have e':q.1=k:=h1.symm.trans e
   have b:atKey (q::qs) k=some q.2:=by simp[atKey,Gr,e']
   rw[RY e,b];exact h2
  ·have e' : ¬ q.1 = k := λz => e (h1.trans z)
   have b:atKey (q::qs) k=atKey qs k:=by simp[atKey,Gr,e']
   rw[UU e,b];exact ih
theorem KT.repl{H:Hp}{kvs:List (List aK×V)}{xs:List (List aK×Ur×Uq)}(r:KT H kvs xs)(k:List aK){y:V}{u:Uq}(ry:b5 y u):KT H (kvs.map λkv=>if kv.1=k then(kv.1,y) else kv) (xs.map (putAt k u)):=by
 induction r with
 |nil=>exact .nil
 | @cons p q ps qs h t ih=>
  rw[Az,Az];refine .cons ?_ ih;obtain⟨h1,h2,h3⟩:=h;unfold putAt;by_cases e:p.1=k
  ·rw[if_pos e,if_pos (h1.symm.trans e)];exact⟨h1,h2,ry⟩
  ·rw[if_neg e,if_neg (λz=>e (h1.trans z))];exact⟨h1,h2,h3⟩
theorem KT.put{H:Hp}{kvs:List (List aK×V)}{xs:List (List aK×Ur×Uq)}(r:KT H kvs xs)(k:List aK){b:Ur}{y:V}{u:Uq}(hb:H b=some (.tup (k.map kV)))(ry:b5 y u):KT H (XO kvs k y) (storedH xs k b u):=by
 have e:(kvs.any λkv=>decide (kv.1=k))=(atKey xs k).isSome:=by rw[ON,(r.val k).isSome_eq,Option.isSome_map]
 unfold XO storedH;rw[e];by_cases q:(atKey xs k).isSome=true
 ·rw[if_pos q,if_pos q];exact r.repl k ry
 ·rw[if_neg q,if_neg q];exact Uj r ⟨rfl,hb,ry⟩
theorem KT.keeps{H H':Hp}{kvs:List (List aK×V)}{xs:List (List aK×Ur×Uq)}(r:KT H kvs xs)(ht:∀b ys,H b=some (.tup ys)->H' b=some (.tup ys)):KT H' kvs xs:=
 Paired.mapP r λ_ _ z=>⟨z.1,ht _ _ z.2.1,z.2.2⟩
section
variable{P:Av}{w:Uy}{H:Hp}{h:Va}{a:Ur}
theorem Yp{u:HO}(ok:TF P w H h)(e:Rd H a u):Z0 P w H h a u:=e.ok ok
theorem LA{kvs:List (aK×V)}(ok:TF P w H h)(e:Rd H a (.dK kvs)):kvs.length<=sizeLine/\(a==Fu)=false/\∃vs,KV kvs vs/\h.DictOf (aU P w) a vs:=
 show Z0 P w H h a (.dK kvs) from Yp ok e
theorem oP{kvs:List (aK×V)}(ok:TF P w H h)(e:H a=some (.dK kvs)):kvs.length<=sizeLine/\(a==Fu)=false/\∃vs,KV kvs vs/\h.DictOf (aU P w) a vs:=LA ok (.inl e)
theorem NT{ks:List aK}(ok:TF P w H h)(e:H a=some (.tup (ks.map kV))):(tupleKind (aU P w)).is h ks a:=by obtain⟨_,its,r,o,h1,h2,n,h3⟩:=(show Z0 P w H h a (.tup (ks.map kV)) from ok a _ e);exact⟨o,its.toArray,n,h1,h2,h3,by simpa using LM r⟩
theorem LC{kvs:List (List aK×V)}(ok:TF P w H h)(e:Rd H a (.dT kvs)):kvs.length<=sizeLine/\(a==Fu)=false∧ ∃xs,KT H kvs xs/\h.DictOfH (tupleKind (aU P w)) a xs:=by
 obtain⟨z,y,xs,r,o,es,ep,h1,h2,h3,h4,h5⟩:=(show Z0 P w H h a (.dT kvs) from Yp ok e);refine⟨z,y,xs,r,o,es,ep,h1,h2,h3,h4,λx hx=>?_,h5⟩;have all:∀{l:List (List aK×V)} {m:List (List aK×Ur×Uq)},KT H l m->∀x∈m,(tupleKind (aU P w)).is h x.1 x.2.1:=by
  intro l m q;induction q with
  |nil=>intro x hx;exact nomatch hx
  | @cons p q ps qs hq t ih=>
   intro x hx;rcases Al.mp hx with e|hx
   ·subst e
    exact NT ok (by rw[<-hq.1];exact hq.2.1)
   ·exact ih x hx
 exact all r x hx
theorem dQ{kvs:List (List aK×V)}(ok:TF P w H h)(e:H a=some (.dT kvs)):kvs.length<=sizeLine/\(a==Fu)=false∧ ∃xs,KT H kvs xs/\h.DictOfH (tupleKind (aU P w)) a xs:=LC ok (.inl e)
end
def QE(H:Hp)(a:Ur)(y:V)(r:Option V):Prop:=
 (∃kvs k,Rd H a (.dK kvs)/\y=kV k/\r=TM kvs k)∨∃kvs k b,Rd H a (.dT kvs)/\y=.ref b/\H b=some (.tup (k.map kV))/\r=TM kvs k
def DPut(H:Hp)(a:Ur)(y v:V)(H':Hp):Prop:=
 (∃kvs k,H a=some (.dK kvs)/\y=kV k/\kvs.length<sizeLine/\H'=upd H a (.dK (XO kvs k v)))∨
 ∃kvs k b,H a=some (.dT kvs)/\y=.ref b/\H b=some (.tup (k.map kV))/\kvs.length<sizeLine/\H'=upd H a (.dT (XO kvs k v))
theorem QE.k{H:Hp}{a:Ur}{kvs:List (aK×V)}{k:aK}(e:H a=some (.dK kvs)):QE H a (kV k) (TM kvs k):=.inl ⟨kvs,k,.inl e,rfl,rfl⟩
theorem DPut.k{H:Hp}{a:Ur}{kvs:List (aK×V)}{k:aK}{v:V}(e:H a=some (.dK kvs))(hl:kvs.length<sizeLine):DPut H a (kV k) v (upd H a (.dK (XO kvs k v))):=.inl ⟨kvs,k,e,rfl,hl,rfl⟩
section
variable{X:Cx}{aa:List (Ur×Vc)}{σ:St}{H:Hp}{s:Ad}{a:Ur}{y v:V}{u r:Uq}{o:Option V}{A:Br}{E:Uq->Ad->Prop}
theorem cK.big(I:cK X aa σ H s):Fu<s.heap.objs.size:=by have h:Uu<s.heap.objs.size:=(I.mod.glob.keeps I.bk).lt;exact Ql (by decide) h
theorem A2{Q:Uq->Ad->Prop}(hu:A.units+1<cLine)(I:cK X aa σ H s)(g:QE H a y (some v))(ry:b5 y u)(h:∀w' s',cK X aa σ H s'->b5 v w'->Q w' s'):Ut (Uv X.prog X.w) A (Ll (.ref a) u) Q E s:=by
 rcases g with⟨kvs,k,e,ey,l⟩|⟨kvs,k,b,e,ey,eb,l⟩
 ·subst ey
  obtain⟨z,hd,vs,rel,dd⟩:=LA I.hok e;obtain⟨w',hw,rw'⟩:=TH.some_of (v:=v) (o:=Pr vs k) (by rw[l];exact rel.val k);exact wpAny_getItem_of (LN ry) dd.mapOf hw (h w' _ (I.tok _) rw')
 ·subst ey
  cases (show u=Ba b from ry);obtain⟨z,hd,xs,rel,dd⟩:=LC I.hok e;obtain⟨w',hw,rw'⟩:=TH.some_of (v:=v) (o:=(atKey xs k).map (·.2)) (by rw[l];exact rel.val k);obtain⟨p,hp,hp2⟩:=Option.map_eq_some_iff.mp hw;refine wpAny_getItem_heap (Ie hu) (NT I.hok eb) dd hp ?_;rw[hp2];exact h w' _ (I.tok _) rw'
theorem C6{h':Va}{t':Nat}{ob:HO}(I:cK X aa σ H s)(mu:Mut (H a))(hs:Ey a s.heap h')(he:∃q,h'.get? a=some q)(new:Z0 X.prog X.w (upd H a ob) h' a ob):cK X aa σ (upd H a ob) {s with heap:=h',toks:=t'}:=
 I.write (x:=a) (e:=a) mu (.inl rfl) (λb q hb z=>(hs.2 b hb).trans z) he new
theorem Ze{P:Av}{w:Uy}{H':Hp}{h':Va}{kvs:List (aK×V)}{vs:List (aK×Uq)}(z:kvs.length<=sizeLine)(hd:(a==Fu)=false)(rel:KV kvs vs)(dd:h'.DictOf (aU P w) a vs):Z0 P w H' h' a (.dK kvs):=⟨z,hd,vs,rel,dd⟩
theorem A3{H':Hp}{Q:Unit->Ad->Prop}(hu:A.units+1<cLine)(I:cK X aa σ H s)(g:DPut H a y v H')(ry:b5 y u)(rv:b5 v r)(h:∀s',cK X aa σ H' s'->Q () s'):Ut (Uv X.prog X.w) A (setItem (.ref a) u r) Q E s:=by
 rcases g with⟨kvs,k,e,ey,l,eH⟩|⟨kvs,k,b,e,ey,eb,l,eH⟩
 ·subst ey eH
  obtain⟨z,hd,vs,rel,dd⟩:=oP I.hok e;have hz:vs.length<=sizeLine:=by rw[<-rel.length];exact z
  have hl:(XO kvs k v).length<=sizeLine:=by have:=P5 kvs k v;lia
  refine wpAny_setItem_pairs (hsz:=hz) (LN ry) dd λh' dd' hs=>h _ ?_;have he:∃q,h'.get? a=some q:=let ⟨q,_,_,hq,_⟩:=dd';⟨q,hq⟩
  exact C6 I (by rw[e];exact True.intro) hs he (Ze hl hd (rel.put k rv) dd')
 ·subst ey eH
  cases (show u=Ba b from ry);obtain⟨z,hd,xs,rel,dd⟩:=dQ I.hok e;have hz:xs.length<=sizeLine:=by rw[<-Og rel];exact z
  have hl:(XO kvs k v).length<=sizeLine:=by have:=P5 kvs k v;lia
  refine wpAny_setItem_heap (hsz:=hz) (Ie hu) (NT I.hok eb) dd λh' dd' hs=>h _ ?_;obtain⟨q,es,ep,hq,h2,h3,h4,_,h5⟩:=dd';refine C6 I (by rw[e];exact True.intro) hs ⟨q,hq⟩ ⟨hl,hd,_,(rel.put k eb rv).keeps λc ys ec=>?_,q,es,ep,hq,h2,h3,h4,h5⟩;rw[b6 (fM ec e (λz=>nomatch z))];exact ec
end
theorem GS{X:Cx}{aa:List (Ur×Vc)}{σ:St}{H:Hp}{s:Ad}{a:Ur}{y:V}{o:Option V}(I:cK X aa σ H s)(g:QE H a y o):s.TypeIs (.ref a) "dict":=by
 rcases g with⟨kvs,k,e,_,_⟩|⟨kvs,k,b,e,_,_,_⟩
 ·obtain⟨_,_,vs,_,dd⟩:=LA I.hok e
  exact dd.typeIs
 ·obtain⟨_,_,xs,_,dd⟩:=LC I.hok e
  exact dd.typeIs
def mG(td ty tv:TE):TS:=λD σ H=>tv σ H λv H1=>td σ H1 λx H2=>ty σ H2 λy H3=>∃a H4,x=.ref a/\DPut H3 a y v H4/\D.nx σ H4
section
variable{X:Cx}{o i e value:Ux}{pos d7 f8:Pos}{td ty tv:TE}
theorem kM(hu:X.A.units+1<cLine)(ho:PE X o td)(hi:PE X i ty)(hv:PE X value tv)(hs:Ve value (some (.Subscript o i d7)) pos.line X.env=pure false):PS X (.Assign [.Subscript o i d7] value pos) (mG td ty tv):=by intro aa s σ H D I h;refine wpAny_Assign_Subscript (ZN (hv aa s σ H _ I h) λr s1 ⟨v,H1,I1,rv,q1⟩=>ZN (ho aa s1 σ H1 _ I1 q1) λu s2 ⟨x,H2,I2,rx,q2⟩=>ZN (hi aa s2 σ H2 _ I2 q2) λiv s3 ⟨y,H3,I3,ry,a,H4,ex,g,q3⟩=>?_) hs;subst ex;obtain rfl:u=Ba a:=rx;exact A3 hu I3 g ry rv λs4 I4=>⟨σ,H4,I4,q3⟩
end
theorem pI{P:Av}{w:Uy}{H:Hp}(h:Va)(hb:Fu<h.objs.size):Z0 P w H (h.push {cls:=.type "dict",data:=.dict #[]}) h.objs.size (.dK []):=
 ⟨Di _,beq_eq_false_iff_ne.mpr (Dk (Aw hb)),[],.nil,Rw h⟩
def pC:TE:=λ_ H Q=>∀p,H p=none->Q (.ref p) (upd H p (.dK []))
section
variable{X:Cx}{pos:Pos}
theorem zBZ:PE X (.Dict [] [] pos) pC:=λaa s σ H Q I h=>
 wpAny_Dict_empty ⟨.ref s.heap.objs.size,_,I.laid (a:=s.heap.objs.size) (o:=.dK []) (t':=s.toks) (λ_ _ q=>Ac _ q) (Am _) (pI s.heap I.big),rfl,h _ (I.hok.fresh (Am _))⟩
end
def NV(kvs more:List (aK×V)):List (aK×V):=more.foldl (λacc kv=>XO acc kv.1 kv.2) kvs
theorem KV.merge:∀{more:List (aK×V)} {rs:List (aK×Uq)} {kvs:List (aK×V)} {vs:List (aK×Uq)},KV more rs->KV kvs vs->KV (NV kvs more) (merged vs rs):=by
 intro more rs kvs vs r;unfold KV at r;induction r generalizing kvs vs with
 |nil=>intro q;exact q
 | @cons p q ps qs h t ih=>
  intro r0;have e:KV (XO kvs p.1 p.2) (Tz vs q.1 q.2):=by have:=r0.put p.1 h.2;rw[<-h.1];exact this
  exact ih e
structure M1(X:Cx)(o:Ux)(m:Uw)(ao:Pos)(e:Ux)(af:Pos):Prop where
 base:Fn o m X.env (eval o X.env)=eval o X.env
 few:((Dv af (Us [e] X.env)).all (λx=> !x.1)&&(Ic af (Fe [] X.env)).all (λx=>x.1.isSome)
  && decide (([e]:List Ux).length+([]:List Iv).length+(if([]:List Iv).isEmpty then 0 else 1)<30))=true
 line:(ao.endLine==af.line)=true
 trees:Dv af (Us [e] X.env)=[(false,eval e X.env)]
structure M2(X:Cx)(o:Ux)(m:Uw)(ao:Pos)(e f:Ux)(af:Pos):Prop where
 base:Fn o m X.env (eval o X.env)=eval o X.env
 few:((Dv af (Us [e,f] X.env)).all (λx=> !x.1)&&(Ic af (Fe [] X.env)).all (λx=>x.1.isSome)
  && decide (([e,f]:List Ux).length+([]:List Iv).length+(if([]:List Iv).isEmpty then 0 else 1)<30))=true
 line:(ao.endLine==af.line)=true
 trees:Dv af (Us [e,f] X.env)=[(false,eval e X.env),(false,eval f X.env)]
def IsD(H:Hp)(a:Ur):Prop:=(∃kvs,Rd H a (.dK kvs))∨∃kvs,Rd H a (.dT kvs)
theorem Yw{X:Cx}{aa:List (Ur×Vc)}{σ:St}{H:Hp}{s:Ad}{a:Ur}(I:cK X aa σ H s)(d:IsD H a):s.TypeIs (.ref a) "dict" /\(∀b,Ba a=.ref b->∃ob,s.heap.get? b=some ob/\ob.dict=none)/\(a==Fu)=false:=by
 rcases d with⟨kvs,e⟩|⟨kvs,e⟩
 ·obtain⟨_,hd,vs,_,dd⟩:=LA I.hok e
  refine⟨dd.typeIs,λb q=>?_,hd⟩;cases q;obtain⟨ob,_,_,h1,h2,_⟩:=dd;exact⟨ob,h1,h2.2.1⟩
 ·obtain⟨_,hd,xs,_,dd⟩:=LC I.hok e
  refine⟨dd.typeIs,λb q=>?_,hd⟩;cases q;obtain⟨ob,_,_,h1,h2,_⟩:=dd;exact⟨ob,h1,h2.2.1⟩
section
variable{X:Cx}{aa:List (Ur×Vc)}{σ:St}{H:Hp}{s:Ad}{a:Ur}{y d:V}{u r:Uq}{o:Option V}{A:Br}{E:Uq->Ad->Prop}
theorem iS{Q:Uq->Ad->Prop}(hu:A.units+1<cLine)(I:cK X aa σ H s)(g:QE H a y o)(ry:b5 y u)(h:∀w' s',cK X aa σ H s'->b5 (o.getD .non) w'->Q w' s'):Ut (Uv X.prog X.w) A (call (.builtin "dict.get") [.ref a,u]) Q E s:=by
 rcases g with⟨kvs,k,e,ey,l⟩|⟨kvs,k,b,e,ey,eb,l⟩
 ·subst ey
  obtain⟨z,hd,vs,rel,dd⟩:=LA I.hok e;refine Mp Eb dd.typeIs Fi (Ig _ _) (meets_dict_get (aU X.prog X.w) a (LN ry) hd) ⟨_,dd.mapOf,h _ _ (I.tok _) ?_⟩;rw[l];exact(rel.val k).getD rfl
 ·subst ey
  cases (show u=Ba b from ry);obtain⟨z,hd,xs,rel,dd⟩:=LC I.hok e;refine Mp Eb dd.typeIs Fi (Ig _ _) (meetsH_dict_get (tupleKind (aU X.prog X.w)) a b hd) ⟨Ie hu,k,xs,NT I.hok eb,dd,h _ _ (I.tok _) ?_⟩;rw[l];exact(rel.val k).getD rfl
theorem qG{Q:Uq->Ad->Prop}(hu:A.units+1<cLine)(I:cK X aa σ H s)(g:QE H a y o)(ry:b5 y u)(rd:b5 d r)(h:∀w' s',cK X aa σ H s'->b5 (o.getD d) w'->Q w' s'):Ut (Uv X.prog X.w) A (call (.builtin "dict.get") [.ref a,u,r]) Q E s:=by
 rcases g with⟨kvs,k,e,ey,l⟩|⟨kvs,k,b,e,ey,eb,l⟩
 ·subst ey
  obtain⟨z,hd,vs,rel,dd⟩:=LA I.hok e;refine Mp Eb dd.typeIs Fi (Lm _ _ _) (meets_dict_get_default (aU X.prog X.w) a (LN ry) hd r) ⟨_,dd.mapOf,h _ _ (I.tok _) ?_⟩;rw[l];exact(rel.val k).getD rd
 ·subst ey
  cases (show u=Ba b from ry);obtain⟨z,hd,xs,rel,dd⟩:=LC I.hok e;refine Mp Eb dd.typeIs Fi (Lm _ _ _) (meetsH_dict_get_default (tupleKind (aU X.prog X.w)) a b hd r) ⟨Ie hu,k,xs,NT I.hok eb,dd,h _ _ (I.tok _) ?_⟩;rw[l];exact(rel.val k).getD rd
end
def jV(td ty tx:TE):TE:=λσ H Q=>td σ H λx H1=>∃a,x=.ref a/\IsD H1 a/\ty σ H1 λy H2=>tx σ H2 λz H3=>∃o,QE H3 a y o/\Q (o.getD z) H3
section
variable{X:Cx}{o e f:Ux}{ao af:Pos}{td ty tx:TE}
theorem Zy(hu:X.A.units+1<cLine)(ho:PE X o td)(he:PE X e ty)(hf:PE X f tx)(m:M2 X o "get" ao e f af):PE X (.Call (.Attribute o "get" ao) [e,f] [] af) (jV td ty tx):=by
 intro aa s σ H Q I h;refine Ps m.base m.few m.line Ln Eb Mq (ZN (ho aa s σ H _ I h) λu s1 ⟨x,H1,I1,rx,a,ex,d,q1⟩=>?_);subst ex;obtain rfl:u=Ba a:=rx;obtain⟨t1,t2,_⟩:=Yw I1 d;refine⟨t1,t2,?_⟩;rw[m.trees];refine Fh rfl (Eg (Ee (ZN (he aa s1 σ H1 _ I1 q1) λiv s2 ⟨y,H2,I2,ry,q2⟩=>
  Ee (ZN (hf aa s2 σ H2 _ I2 q2) λfv s3 ⟨z,H3,I3,rz,ov,g,q3⟩=>Fy ?_))))
 exact qG hu I3 g ry rz λw' s4 I4 rw'=>⟨_,H3,I4,rw',q3⟩
end
end L2
namespace Att
open PySem PySem.W PySem.Calls PyProof.Rows
theorem PU{P:Qh}{h:Va}:∀(ns:List Int) (vs:List Uq),WellAll P h vs (ns.map WData.int)->Pt vs ns:=by
 intro ns;induction ns with
 |nil=>
  intro vs w;rw[Eh] at w;cases w;exact .nil
 |cons n ns ih=>
  intro vs w;rw[Az] at w;cases w with
  |cons a b=>
   cases a;exact .cons _ _ (ih _ b)
theorem CD{l:OpenLaw}{n:Nat}(hn:l.most=some n){P:Qh}{h:Va}{args:List WData}{vals:List Uq}(hpre:l.row.toRowW.claim.pre args=true)(hwl:WellAll P h vals args):∃a vs ns,vals=[Ba a]/\args=[WData.list (ns.map WData.int)]/\h.get? a=some {cls:=.type "list",data:=.seq vs.toArray}/\Pt vs ns/\ns.length<=n:=by
 have hsh:WShape.hasAll [] args [.list .int]=true:=(pre_splitW hpre).1;have hc:l.pre.holds [] {args:=args}=true:=(pre_splitW hpre).2;obtain⟨d,r,rfl,h1,h2⟩:=hasAllW_cons hsh;obtain rfl:=hasAllW_nil h2;obtain⟨xs,rfl,h3⟩:=hasW_list h1;obtain⟨ns,rfl⟩:=items_int h3;have ah:ns.length<=n:=by
  unfold OpenLaw.pre at hc;have h4:(WTm.not (.lt (.lit (.int (n:Int))) (.len (.arg 0)))).holds [] {args:=[.list (ns.map .int)]}=true:=by have h4:=(holds_andW hc).1;rw[hn] at h4;exact h4
  have h5:=condW_of h4 (w_not (w_lt w_lit (w_len_list (w_arg rfl))));rw[By] at h5;refine Nat.le_of_not_lt λq=>?_;have q':(n:Int)<((ns.length:Nat):Int):=by lia
  first
   |(rw[decide_eq_true q'] at h5;exact absurd h5 (by decide))
   |(simp at h5;lia)
 cases hwl with
 |cons w1 w2=>
  cases w2;cases w1 with
  |list ho km=>exact⟨_,_,ns,rfl,rfl,ho,PU ns _ km,ah⟩
theorem B5(l:OpenLaw)(args:List WData):l.row.toRowW.claim.post args (.bool true) args=true:=
 postW_of (r:=l.row.toRowW) (X:=(true==true))
  (show Uo [] (.bool true) .bool=true by first|rfl|decide|simp[Uo,WShape.arms,WShape.armsAll])
  (show(WTm.eq .res (.lit (.bool true))).value [] {args:=args,res:=some (.bool true),after:=args}=some (.bool (true==true)) from w_eq_bool (w_res rfl) w_lit) rfl
theorem GK{l:OpenLaw}{n:Nat}{q:Av}{loose:List Uw}{XP:(Uw->Option Uq)->Va->Prop}{YP:Uy->Va->Prop}{d:DefRec}(hn:l.most=some n)(hdf:d.params.defaults=[])(call:∀(w:Uy) (s₀ s₁:Ad) (mg mb:Uw->Option Uq) (fa:Ur) (o:Vc) (pm cd doc:Uq) (a:Ur) (vs:List Uq) (ns:List Int),Ground q loose [] XP w s₀ mg mb s₁.heap->YP w s₁.heap->s₁.heap.get? fa=some o->o.data=.func (docDef d.name d.params d.body d.scope pm cd doc)->s₁.heap.CodeRec cd d.name->mg d.name=some (.ref fa)->s₁.heap.get? a=some {cls:=.type "list",data:=.seq vs.toArray}->Pt vs ns->ns.length<=n->s₁.gens= #[]->Fd (Uv l.prog w) Nv (.call (.ref fa) ⟨[.ref a],[]⟩) (λr s'=>r=.ok (.ret (.bool true))/\OldK s₁.heap s'.heap/\s'.os=s₁.os/\Li s'.gens) s₁):WalkO q loose XP YP l.row.toRowW d [] (λf vs=>Tc f vs):=by intro w s₀ s₁ mg mb G Y fa o pm cd doc dV kV ho hd hcd hD hmg hg args vals as hpre hlay hrd hwl hlo;obtain rfl:dV=.none:=Dflts.none hD hdf;obtain rfl:kV=.none:=Dflts.noKw hD;obtain⟨a,vs,ns,rfl,rfl,hobj,hints,ah⟩:=CD hn hpre hwl;refine enter_call (Gq (call w s₀ s₁ mg mb fa o pm cd doc a vs ns G Y ho (fd_plain hd) hcd hmg hobj hints ah hg) λr s' hq=>?_);obtain⟨rfl,h2,h3,h4⟩:=hq;exact⟨.inl ⟨.bool true,.bool true,[],rfl,λ_=>rfl,.bool true,B5 l _,λ_=>⟨Ky,λ_ hm=>(nomatch hm)⟩⟩,h2,h3,h4⟩
end Att
namespace L2
open PySem PySem.Spec PyProof.Rows
theorem MH:∀{vs:List Uq} {ns:List Int},Pt vs ns->bN (ns.map V.int) vs
 |_,_,.nil=>.nil
 |_,_,.cons n t h=>.cons ⟨t,rfl⟩ (MH h)
def Only(H:Hp):Prop:=∀b,H b=none∨∃o xs,H b=some (.frz o (.lst xs))
theorem qX{P:Av}{w:Uy}{K:Ai}{mg mb:Uw->Option Uq}{CX:AG}{k:Nat}{fa a:Ur}{fd:Df}{x:Uw}{sp:Sp}{s₁:Ad}{vs:List Uq}{ns:List Int}(KX:K.In s₁.heap)(hns:s₁.heap.Ns Uu mg)(hb:s₁.heap.Ns builtinsNs mb)(hbb:∀x:Uw,x≠ "__name__" ->mb x=Be x)(qv:s₁.heap.NoLimit)(hg:s₁.gens= #[])(ha:s₁.heap.get? a=some {cls:=.type "list",data:=.seq vs.toArray})(hi:Pt vs ns)(hl:ns.length<=sizeLine)(hr:ZG k Nv)(F:∀base:Va,K.In base->base.Ns Uu mg->aW P w K mg base CX k fa fd [x] sp)(ny:∀(s:Ad) (u:Uq),Pq s fd ⟨[u],[]⟩ [(x,u)])(hsp:∀H:Hp,Only H->YA K H a (ns.map V.int)->sp [.ref a] H (λv _=>v=.bl true) λ_ _ _=>False)(hCX:∀H e s',CX [] H s₁ (λ_ _ _=>False) e s'->False):Fd (Uv P w) Nv (.call (.ref fa) ⟨[.ref a],[]⟩) (λr s'=>r=.ok (.ret (.bool true))/\OldK s₁.heap s'.heap/\s'.os=s₁.os/\Li s'.gens) s₁:=by
 have rv:=MH hi;have q9:=hi.length;have o6: ∀H:Hp,Only H->YA K H a (ns.map V.int)->TF P w H s₁.heap->(∀b,H b≠none->b=a)->(H a≠none->K.lookup a=none)->
   Fd (Uv P w) Nv (.call (.ref fa) ⟨[.ref a],[]⟩) (λr s'=>r=.ok (.ret (.bool true))/\OldK s₁.heap s'.heap/\s'.os=s₁.os/\Li s'.gens) s₁:=by
  intro H hO hS hok hA hK;have ig:∀{b:Ur} {o:Vc},s₁.heap.get? b=some o->H b=none->(JS s₁.heap H).get? b=some o:=λe n=>jZ e n;have noA:∀{b:Ur} {o:Vc} {es:Array Mj} {ep:Nat},s₁.heap.get? b=some o->o.data=.dict es ep->H b=none:=λ{b o es ep} e d=>by
   cases q:H b with
   |none=>rfl
   |some u=>
    have e':b=a:=hA b (by rw[q];simp);subst e';rw[ha] at e;cases e;have d':Data.seq vs.toArray _=Data.dict es ep:=d;cases d'
  have nsK:∀{b:Ur} {m:Uw->Option Uq},s₁.heap.Ns b m->(JS s₁.heap H).Ns b m:=λ{b m} ⟨o,es,ep,e,d,r⟩=>⟨o,es,ep,ig e (noA e d),d,r⟩;have hKb:K.In (JS s₁.heap H):=λb o e=>ig (KX b o e) (by
   cases q:H b with
   |none=>rfl
   |some u=>
    have e':b=a:=hA b (by rw[q];simp);subst e';rw[hK (by rw[q];simp)] at e;cases e)
  have hM:Mod K mg (JS s₁.heap H):=⟨hKb,nsK hns,⟨mb,nsK hb,hbb⟩,let ⟨mc,h1,h2⟩:=qv;⟨mc,nsK h1,h2⟩⟩;have e0:AJ P w K mg (JS s₁.heap H) Nv [] s₁ H:=⟨rfl,hM,λb o e=>fK e,Nat.le_of_eq (BI _ _),trivial,λb hb=>absurd (show b∈([]:List Ur) from hb) (by simp),hok,.of_eq hg⟩;refine Gq ((F _ hKb (nsK hns)).run Nv [] s₁ H ⟨[.ref a],[]⟩ [.ref a] [.ref a] _ _ hr e0 (ny s₁ (.ref a)) (.cons rfl .nil) (hsp H hO hS)) λr s' h=>?_;cases r with
  |error e=>exact(hCX H e s' h).elim
  |ok fl=>
   cases fl with
   |next=>exact Gv h
   |brk=>exact Gv h
   |cont=>exact Gv h
   |ret u=>
    obtain⟨v,H',os,bare,un,qp,r',q⟩:=h;have q':v=.bl true:=q;subst q';obtain rfl:u=Hk true:=r';refine⟨rfl,OldK.of_keep λb o e=>?_,os,bare⟩;cases q:H b with
    |none=>exact un.keep b o e q (by intro z;exact absurd (show b∈([]:List Ur) from z) (by simp)) (by simp)
    |some u=>
     rcases hO b with z|⟨ob,xs,z⟩
     ·rw[q] at z;cases z
     ·have z2:=un.frzs b ob _ z
      obtain⟨e1,_⟩:=hok b _ z;obtain⟨e2,_⟩:=qp b _ z2;rw[e] at e1;cases e1;exact e2
 cases hk:K.lookup a with
 |some o=>
  have e:=KX a o hk;rw[ha] at e;cases e;refine o6 (λ_=>none) (λ_=>.inl rfl) (.inr ⟨_,vs.toArray,_,hk,rfl,rfl,rfl,by rw[An,q9];exact hl,by simpa using rv⟩) (λb u z=>by have z':(none:Option HO)=some u:=z;cases z') (λb z=>absurd rfl z) λz=>absurd rfl z
 |none=>
  refine o6 (λb=>if b=a then some (.frz {cls:=.type "list",data:=.seq vs.toArray} (.lst (ns.map V.int))) else none) (λb=>?_) (.inl (.inr ⟨{cls:=.type "list",data:=.seq vs.toArray},if_pos rfl⟩)) (λb u z=>?_) (λb z=>?_) λ_=>hk
  ·by_cases hb:b=a
   ·exact .inr ⟨_,_,if_pos hb⟩
   ·exact .inl (if_neg hb)
  ·by_cases hb:b=a
   ·have z':=(if_pos hb).symm.trans z
    cases z';subst hb;exact⟨ha,by rw[By];exact hl,vs,_,rv,ha⟩
   ·have z':=(if_neg hb).symm.trans z
    cases z'
  ·by_cases hb:b=a
   ·exact hb
   ·exact absurd (if_neg hb) z
theorem eQ{l:Ua}{n k:Nat}{q:Av}{loose:List Uw}{XP:(Uw->Option Uq)->Va->Prop}{YP:Uy->Va->Prop}{d:DefRec}{K:Qh->Ai}{CX:Uy->AG}{sp:Uy->Sp}{x:Uw}(hn:l.most=some n)(hn2:n<=sizeLine)(hdf:d.params.defaults=[])(hr:ZG k Nv)(hY:∀(w:Uy) (h:Va),YP w h->(K w.params).In h)(F:∀(w:Uy) (mg:Uw->Option Uq) (fa:Ur) (h:Va),(K w.params).In h->h.Ns Uu mg->mg d.name=some (.ref fa)->∃fd:Df,(∀(s:Ad) (u:Uq),Pq s fd ⟨[u],[]⟩ [(x,u)])∧ ∀base:Va,(K w.params).In base->base.Ns Uu mg->aW l.prog w (K w.params) mg base (CX w) k fa fd [x] (sp w))(hsp:∀(w:Uy) (H:Hp) (a:Ur) (ns:List Int),ns.length<=n->Only H->YA (K w.params) H a (ns.map V.int)->sp w [.ref a] H (λv _=>v=.bl true) λ_ _ _=>False)(hCX:∀(w:Uy) (H:Hp) (s:Ad) (e:Uq) (s':Ad),CX w [] H s (λ_ _ _=>False) e s'->False):W.WalkO q loose XP YP l.row.toRowW d [] (λf vs=>Tc f vs):=by refine Att.GK hn hdf λw s₀ s₁ mg mb fa o pm cd doc a vs ns G Y ho hd hcd hmg hobj hints ah hg=>?_;have KX:=hY w _ Y;obtain⟨fd,hb,hF⟩:=F w mg fa _ KX G.T.g hmg;exact qX KX G.T.g G.T.b G.T.builtins G.T.nolimit hg hobj hints (Dh ah hn2) hr hF hb (λH hO hS=>hsp w H a ns ah hO hS) λH e s'=>hCX w H s₁ e s'
theorem zA4{l:Ua}{n k:Nat}{q:Av}{loose:List Uw}{XP:(Uw->Option Uq)->Va->Prop}{YP:Uy->Va->Prop}{d:DefRec}{K:Qh->Ai}{CX:AG}{sp:Ai->Sp}{x:Uw}(hn:l.most=some n)(hn2:n<=sizeLine)(hdf:d.params.defaults=[])(hr:ZG k Nv)(hY:∀(w:Uy) (h:Va),YP w h->(K w.params).In h)(F:∀(w:Uy) (mg:Uw->Option Uq) (fa:Ur) (h:Va),(K w.params).In h->h.Ns Uu mg->mg d.name=some (.ref fa)->∃fd:Df,(∀(s:Ad) (u:Uq),Pq s fd ⟨[u],[]⟩ [(x,u)])∧ ∀base:Va,(K w.params).In base->base.Ns Uu mg->aW l.prog w (K w.params) mg base CX k fa fd [x] (sp (K w.params)))(hsp:∀(K:Ai) (H:Hp) (a:Ur) (ns:List Int),ns.length<=n->Only H->YA K H a (ns.map V.int)->sp K [.ref a] H (λv _=>v=.bl true) λ_ _ _=>False)(hCX:∀(H:Hp) (s:Ad) (e:Uq) (s':Ad),CX [] H s (λ_ _ _=>False) e s'->False):W.WalkO q loose XP YP l.row.toRowW d [] (λf vs=>Tc f vs):=
 eQ (K:=K) (CX:=λ_=>CX) (sp:=λw=>sp (K w.params)) hn hn2 hdf hr hY F (λw H a ns h1 h2 h3=>hsp (K w.params) H a ns h1 h2 h3) λ_ H s e s'=>hCX H s e s'
def YW(s:Vd):Arguments:=match s with
 |.FunctionDef _ a _ _ _ _ _ _ _ _=>a
 |_=>{posonlyargs:=[],args:=[],vararg:=none,kwonlyargs:=[],kw_defaults:=[],kwarg:=none,defaults:=[]}
def aT(s:Vd):List Vd:=match s with
 |.FunctionDef _ _ b _ _ _ _ _ _ _=>b
 |_=>[]
def cU(s:Vd):Vg:=match s with
 |.FunctionDef _ _ _ _ _ _ sc _ _ _=>sc
 |_=>{kind:=.function,names:=[],isGenerator:=false,isCoroutine:=false}
abbrev CX0:AG:=λ_ _ _ _ _ _=>False
abbrev E0:XK:=λ_ _ _=>False
theorem Xa{X:Cx}:ER CX0 X E0:=λ_ _ _ _ _ _ _ h=>h.elim
structure YZ(K:Ai)(x qual:Uw)(st:Vd)(f:Ur)(fd:Df):Prop where
 ex:∃(oc:Uq) (od:Option Ur) (kV doc pm:Uq) (an:Option Ur) (cdv ct:Uq) (osl:Array (Option Uq)),
  fd=Ly x qual (YW st) (aT st) (cU st) .none kV doc pm an cdv ct/\K.lookup f=some ⟨oc,od,.func fd,osl⟩/\Ol K cdv qual=true
 kp:Hz K (.ref f)=true
section
variable{P:Av}{w:Uy}{K:Ai}{mg:Uw->Option Uq}{base:Va}
theorem YZ.ok{x qual:Uw}{st:Vd}{f:Ur}{fd:Df}{N ps:List Uw}{k:Nat}{sp:Sp}(F:YZ K x qual st f fd)(S:cG N ps (cU st))(len:∀vs H Q E,sp vs H Q E->vs.length=ps.length)(ap:∀(cdv:Uq) (A:Br) (outer:List Env) (s:Ad) (H:Hp) (vs:List V) (Q:VK) (E:XK),ZG k (A.deeper (envOfC qual (cU st) s.heap.objs.size f cdv))->sp vs H Q E->∃t,W2 (TJ CX0 P w K mg base N qual (cU st) f cdv A outer s H E).nox (aT st) t/\t {nx:=λ_ H'=>Q .non H',rt:=Q} (start N vs) H):aW P w K mg base CX0 (k+1) f fd ps sp:=by obtain⟨oc,od,kV,doc,pm,an,cdv,ct,osl,rfl,lk,hcd⟩:=F.ex;refine Wd lk hcd S len λA outer s H vs Q E hr hsp=>?_;obtain⟨t,h,q⟩:=ap cdv A outer s H vs Q E hr hsp;exact⟨t,h.nox,q⟩
theorem YZ.binds{x qual:Uw}{st:Vd}{f:Ur}{fd:Df}{ps:List Uw}(F:YZ K x qual st f fd)(h:∀(kV doc pm:Uq) (an:Option Ur) (cdv ct:Uq) (us:List Uq),us.length=ps.length->Rj (Ly x qual (YW st) (aT st) (cU st) .none kV doc pm an cdv ct) ⟨us,[]⟩=pure (ps.zip us)):U5 K fd ps []:=by obtain⟨oc,od,kV,doc,pm,an,cdv,ct,osl,rfl,lk,hcd⟩:=F.ex;exact .all (h kV doc pm an cdv ct)
theorem JQ{x qual:Uw}{st:Vd}{f:Ur}{oc:Uq}{od an:Option Ur}{osl:Array (Option Uq)}{kV doc pm cdv ct:Uq}(l:K.lookup f=some ⟨oc,od,.func (Ly x qual (YW st) (aT st) (cU st) .none kV doc pm an cdv ct),osl⟩)(c:Ol K cdv qual=true)(k:Hz K (.ref f)=true):YZ K x qual st f (Ly x qual (YW st) (aT st) (cU st) .none kV doc pm an cdv ct):=⟨⟨oc,od,kV,doc,pm,an,cdv,ct,osl,rfl,l,c⟩,k⟩
end
theorem Yv{A:Br}{k:Nat}(hr:ZG k A):A.units+1<cLine:=Op (Nat.add_le_add_left (by decide:1<=64) _) hr.units
section
variable{X:Cx}
theorem pv(i:Nat){x:Uw}{pos:Pos}(hN:X.N[i]?=some x:=by rfl)(hv:Vis X.env.scope x:=by first|exact Gd rfl|exact Et (Gd rfl)|exact Et (Et rfl))(hd:(x==("__debug__":Uw))=false:=by decide)(hcd:(x==("__classdict__":Uw))=false:=by decide):PE X (.Name x pos) (KJ i):=FP hN hv hd hcd
end
theorem RK{A B:Prop}(h:B):if false=true then A else B:=by rw[if_neg Cs];exact h
theorem RL{A B:Prop}(h:A):if true=true then A else B:=by rw[if_pos rfl];exact h
def aZ(H H':Hp):Prop:=∀b o,H b=some o->H' b=some o
theorem aZ.refl(H:Hp):aZ H H:=λ_ _ h=>h
theorem aZ.trans{H H1 H2:Hp}(a:aZ H H1)(b:aZ H1 H2):aZ H H2:=λc o h=>b c o (a c o h)
theorem aZ.seq{K:Ai}{H H':Hp}{a:Ur}{xs:List V}(e:aZ H H')(h:YA K H a xs):YA K H' a xs:=by
 rcases h with(h|⟨o,h⟩)|h
 ·exact .inl (.inl (e _ _ h))
 ·exact .inl (.inr ⟨o,e _ _ h⟩)
 ·exact .inr h
theorem JK{env:Env}{f:Uw×Vh->List (Uw×Ur)->Vk (ForInStep (List (Uw×Ur)))}(hf:∀n k r,f (n,k) r=if(k==Bj)=true then(cellOf env n>>=λc=>pure (Cw ((n,c)::r))) else pure (Cw r)):∀(names:List (Uw×Vh)) (cs:List (Uw×Ur)),(∀y∈names,y.2=.free->∃c,env.cells.lookup y.1=some c)->∃cl,forIn names cs f=(pure cl:Vk (List (Uw×Ur)))/\(∀x c,cl.lookup x=some c->cs.lookup x=some c∨env.cells.lookup x=some c)∧(∀x c,cs.lookup x=some c->∃c',cl.lookup x=some c')/\∀x,(x,Bj)∈names->∃c,cl.lookup x=some c
 |[],cs,_=>⟨cs,rfl,λ_ _ e=>.inl e,λ_ c e=>⟨c,e⟩,λ_ h=>nomatch h⟩
 | (n,k) :: r,cs,h => by
  have hr:∀y∈r,y.2=.free->∃c,env.cells.lookup y.1=some c:=λy hy=>h y (Ap _ hy);by_cases hk:k=.free
  ·subst hk
   obtain⟨c,hc⟩:=h (n,.free) Ax rfl;have hc:env.cells.lookup n=some c:=hc;obtain⟨cl,e1,e2,e3,e4⟩:=JK hf r ((n,c)::cs) hr;refine⟨cl,?_,λx c' e=>?_,λx c' e=>?_,λx hx=>?_⟩
   ·rw [Jv,hf,if_pos (show (Bj == Bj) = true by decide)]
    have ec:cellOf env n=pure c:=by unfold cellOf;rw[hc]
    rw[ec,pure_bind,pure_bind];exact e1
   ·rcases e2 x c' e with q|q
    ·by_cases hx:x=n
     ·subst hx
      rw[Ec] at q;cases q;exact .inr hc
     ·rw[Ci,beq_eq_false_iff_ne.mpr hx] at q
      exact .inl q
    ·exact .inr q
   ·by_cases hx:x=n
    ·subst hx
     exact e3 x c (Ec ..)
    ·refine e3 x c' ?_
     rw[Ci,beq_eq_false_iff_ne.mpr hx];exact e
   ·rcases Al.mp hx with q|q
    ·cases q
     exact e3 n c (Ec ..)
    ·exact e4 x q
  ·obtain⟨cl,e1,e2,e3,e4⟩:=JK hf r cs hr
   refine⟨cl,?_,e2,e3,λx hx=>?_⟩
   ·have hb : ¬ (k == Bj) = true := by simpa using hk
    rw[Jv,hf,if_neg hb,pure_bind];exact e1
   ·rcases Al.mp hx with q|q
    ·cases q
     exact absurd rfl hk
    ·exact e4 x q
theorem JL{env:Env}{scope:Vg}(h:∀y∈scope.names,y.2=.free->∃c,env.cells.lookup y.1=some c):∃cl,closureFor scope env=pure cl/\(∀x c,cl.lookup x=some c->env.cells.lookup x=some c)/\∀x,(x,Bj)∈scope.names->∃c,cl.lookup x=some c:=by
 simp only[closureFor];obtain⟨cl,e1,e2,_,e4⟩:=JK (env:=env) (f:=λx r=>match x with
  |(name,kind)=>if(kind==Bj)=true then(cellOf env name>>=λc=>pure (Cw ((name,c)::r))) else pure (Cw r)) (λ_ _ _=>rfl) scope.names [] h
 refine⟨cl,?_,λx c e=>?_,e4⟩
 ·first
   |exact e1
   |(refine Eq.trans (congrArg (λm=>m>>=pure) e1) ?_;exact pure_bind _ _)
 ·rcases e2 x c e with q|q
  ·cases q
  ·exact q
def aX(ix:List Nat)(σ:St):St:=ix.map λi=>(σ[i]?).join
def PTs(Y:Cx)(ifs:List Ux)(tt:TT):Prop:=
 ∀(aa:List (Ur×Vc)) (s:Ad) (σ:St) (H:Hp) (Q:Bool->Hp->Prop),cK Y aa σ H s->tt σ H Q->
  Ut (Uv Y.prog Y.w) Y.A (forIn ifs true λc r=>if r=true then do let ok<-isTrue c Y.env (eval c Y.env);pure (Cw ok) else pure (Cw r)) (TP Y aa σ Q) Y.xe s
def tYes:TT:=λ_ H Q=>Q true H
theorem qH{Y:Cx}:PTs Y [] tYes:=λ_ _ _ H _ I h=>wpAny_tests_nil ⟨H,I,h⟩
theorem nU{Y:Cx}{c:Ux}{tt:TT}(h:PT Y c tt):PTs Y [c] tt:=λaa s σ H Q I hw=>wpAny_tests_one (h aa s σ H Q I hw)
structure Blk(Y:Cx)(tg:Ux)(ifs:List Ux)(elt:Ux)(g:TG)(tt:TT)(te:TE):Prop where
 tg:PG Y tg g
 ts:PTs Y ifs tt
 el:PE Y elt te
theorem A1{prog:Av}{w:Uy}{A:Br}{s:Ad}{elt cq iter:Ux}{ifs:List Ux}{scope:Vg}{pos:Pos}{it acc:Uq}{env:Env}{R:Oj->Ad->Prop}(I:Nat->Ad->Prop)(turn:∀n s,I n s->Ut (Uv prog w) A (pyNext it) (λr s₁=>match r with
   |none=>R (.ok .next) s₁
   | some v => Ut (Uv prog w) A (Fb cq it v) (λ_ s₀ => Ut (Uv prog w) A (Fv cq env v) (λ_ s₂ =>
     Ut (Uv prog w) A (forIn ifs true λc r=>if r=true then do let ok<-isTrue c env (eval c env);pure (Cw ok) else pure (Cw r)) (λok s₃=>if ok=true then Ut (Uv prog w) A (eval elt env) (λx s₄=>
      Ut (Uv prog w) A (call (.builtin "list.append") [acc,x]) (λ_ s₅=>∃m,m<n/\I m s₅) (λ_ _=>False) s₄) (λ_ _=>False) s₃
      else∃m,m<n/\I m s₃) (λ_ _=>False) s₂)
     (λ_ _=>False) s₀) (λ_ _=>False) s₁) (λ_ _=>False) s)
  (n:Nat) (h:I n s):Fd (Uv prog w) A (.compLoop (.ListComp elt [⟨cq,iter,ifs,0⟩] scope pos) 0 it acc env) R s:=by
 refine Qm rfl I (λn s hI=>?_) n h;show Ut _ A ((Rl (.ListComp elt [⟨cq,iter,ifs,0⟩] scope pos) 0 it acc env).onRaise (λx=>do Mr x env;Ms x)) _ _ s;refine Rx ?_;rw[compTurn_list];refine Aa (Dd (Aa (Aq (turn n s hI) (λr s₁ h₁=>?_) λ_ _ h'=>h'.elim)));cases r with
 |none=>exact Ag h₁
 |some v=>
  refine Aa (Aq h₁ (λ_ s₀ h₀'=>?_) λ_ _ h'=>h'.elim);refine Aa (Aq h₀' (λ_ s₂ h₂=>?_) λ_ _ h'=>h'.elim);refine Aa (Aq h₂ (λokb s₃ h₃=>?_) λ_ _ h'=>h'.elim);cases okb with
  |false=>exact Ag ⟨rfl,h₃⟩
  |true=>exact Aa (Aa (Aq h₃ (λx s₄ h₄=>Aa (Aq h₄ (λ_ s₅ h₅=>Ag (Ag ⟨rfl,h₅⟩)) λ_ _ h'=>h'.elim)) λ_ _ h'=>h'.elim))
section
variable{X:Cx}{aa:List (Ur×Vc)}{σ:St}{H H':Hp}{s s1 s':Ad}{h'':Va}
theorem cK.offNew{σ':St}{H1:Hp}(I1:cK X aa σ H1 s1)(I':cK X aa σ' H' s')(hn:H' s1.heap.objs.size=none)(sb:∀b o,b≠s1.heap.objs.size->s'.heap.get? b=some o->h''.get? b=some o):cK X aa σ' H' {s' with heap:=h''}:=
 I'.turned (t':=s'.toks) (it:=s1.heap.objs.size) sb hn (Gp I1.lt) (.inr I1.sz)
  (λx c e z=>by obtain⟨v,q⟩:=I1.cell x c e;have:=q.lt;rw[z] at this;exact Bq _ this)
  λp hp z=>by have:=Aj (I1.pin p hp).1;rw[z] at this;exact Bq _ this
end
def We(D:Ur)(ix:List Nat)(nl:Nat)(J:It)(g:TG)(tt:TT)(te:TE)(σ:St)(H0:Hp)(Q:Hp->Prop):Prop:=
 ∃W:Nat->Nat->List V->Hp->Prop,(∃m,W 0 m [] (upd H0 D (.lst [])))/\∀i m acc H1,W i m acc H1->
  (J.stop i H1/\Q H1)∨
  (J.go i H1/\ ∃N:List V->Hp->Prop,(∀ag H',N ag H'-> ∃m',m'<m/\W (i+1) m' ag H')∧
   ∀x H2,J.yld i H1 x H2->g x (aX ix σ++As nl none) H2 λσ2 H3=>σ2.take ix.length=aX ix σ∧
    tt σ2 H3 λb H4=>if b=true then te σ2 H4 λv H5=>H5 D=some (.lst acc)/\acc.length<sizeLine/\N (acc++[v]) (upd H5 D (.lst (acc++[v]))) else N acc H4)
theorem VV{env:Env}{x:Uw}:∀{l:List (Uw×Vh)},l.lookup x=some .free->(l.map λ(n,k)=>if(k==Bj&&env.scope.kind== .function&&env.kindOf n==some .cell) then(n,Bv) else(n,k)).lookup x=some .cell∨(l.map λ(n,k)=>if(k==Bj&&env.scope.kind== .function&&env.kindOf n==some .cell) then(n,Bv) else(n,k)).lookup x=some .free
 |[],h=>by cases h
 | (n,k) :: r,h => by
  show Hi x ((if(k==Bj&&env.scope.kind== .function&&env.kindOf n==some .cell)=true then(n,Bv) else(n,k))::_)=some .cell∨Hi x ((if(k==Bj&&env.scope.kind== .function&&env.kindOf n==some .cell)=true then(n,Bv) else(n,k))::_)=some .free;by_cases hx:x=n
  ·subst hx
   rw[Ec] at h;cases h;by_cases hc:(Bj==Bj&&env.scope.kind== .function&&env.kindOf x==some .cell)=true
   ·left
    rw[if_pos hc,Ec]
   ·right
    rw[if_neg hc,Ec]
  ·have hb:(x==n)=false:=beq_eq_false_iff_ne.mpr hx
   simp only[Ci,hb] at h;have ih:=VV (env:=env) h;by_cases hc:(k==Bj&&env.scope.kind== .function&&env.kindOf n==some .cell)=true
   ·rw[if_pos hc]
    simp only[Ci,hb];exact ih
   ·rw[if_neg hc]
    simp only[Ci,hb];exact ih
def EE(ix:List Nat)(nl:Nat)(wi:TI)(g:TG)(tt:TT)(te:TE):TE:=λσ H Q=>wi σ H λJ H0=>∀D,H0 D=none->We D ix nl J g tt te σ H0 λH'=>Q (.ref D) H'
mutual
inductive Dp(K:Ai)(H:Hp):V->No->Prop
 |non:Dp K H .non .none
 |bl (b:Bool):Dp K H (.bl b) (.bool b)
 |int (i:Int):Dp K H (.int i) (.int i)
 |str (x:Uw):Dp K H (.str x) (.str x)
 |lst {a:Ur} {xs:List V} {ds:List No}:YA K H a xs->M3 K H xs ds->Dp K H (.ref a) (.list ds)
 |tup {a:Ur} {xs:List V} {ds:List No}:WM K H a xs->M3 K H xs ds->Dp K H (.ref a) (.tuple ds)
inductive M3(K:Ai)(H:Hp):List V->List No->Prop
 |nil:M3 K H [] []
 |cons {v:V} {vs:List V} {d:No} {ds:List No}:Dp K H v d->M3 K H vs ds->M3 K H (v::vs) (d::ds)
end
section
variable{X:Cx}{aa:List (Ur×Vc)}{σ:St}{H:Hp}{s:Ad}
mutual
theorem cK.reads(I:cK X aa σ H s):∀{v:V} {d:No} {u:Uq},Dp X.K H v d->b5 v u->∃as,Reads s.heap u d as
 |_,_,_,.non,r=>by cases r;exact⟨_,.none⟩
 |_,_,_,.bl b,r=>by cases r;exact⟨_,.bool b⟩
 |_,_,_,.int i,r=>by obtain⟨t,rfl⟩:=r;exact⟨_,.int i t⟩
 |_,_,_,.str x,r=>by obtain⟨t,rfl⟩:=r;exact⟨_,.str x t⟩
 |_,_,_,.lst q all,r=>by
  cases r;obtain⟨its,rv,⟨o,n,e,c,_,d⟩,_⟩:=I.list q;obtain⟨as,h⟩:=cK.readsAll I all rv;exact⟨_,.list e c d (by simpa using h)⟩
 |_,_,_,.tup q all,r=>by
  cases r;obtain⟨its,rv,⟨o,e,c,n,d⟩,_⟩:=I.tuple q;obtain⟨as,h⟩:=cK.readsAll I all rv;exact⟨_,.tuple e c d (by simpa using h)⟩
theorem cK.readsAll(I:cK X aa σ H s):∀{vs:List V} {ds:List No} {us:List Uq},M3 X.K H vs ds->bN vs us->∃as,ReadsAll s.heap us ds as
 |_,_,_,.nil,r=>by cases r;exact⟨_,.nil⟩
 | _,_,_,.cons h t,r => by
  cases r with
  |cons r1 r2=>
   obtain⟨as,h1⟩:=cK.reads I h r1;obtain⟨bs,h2⟩:=cK.readsAll I t r2;exact⟨_,.cons h1 h2⟩
end
end
def rEqD(K:Ai):R2:=λx y H Q=>∃d e,Dp K H x d/\Dp K H y e/\Ep d=true/\Ep e=true/\Q (.bl (Jp d e)) H
def rNeD(K:Ai):R2:=λx y H Q=>∃d e,Dp K H x d/\Dp K H y e/\Ep d=true/\Ep e=true/\Q (.bl (!PyData.eqv d e)) H
section
variable{X:Cx}
theorem kG(hu:X.A.units+64<cLine):W5 X (De .Eq) (rEqD X.K):=by intro aa s σ H x y v u Q I rx ry h;obtain⟨d,e,hd,he,sd,se,q⟩:=h;obtain⟨as,h1⟩:=I.reads hd rx;obtain⟨bs,h2⟩:=I.reads he ry;exact eq_dataH h1 h2 sd se hu (JP I q rfl)
theorem eT(hu:X.A.units+64<cLine):W5 X (De .NotEq) (rNeD X.K):=by intro aa s σ H x y v u Q I rx ry h;obtain⟨d,e,hd,he,sd,se,q⟩:=h;obtain⟨as,h1⟩:=I.reads hd rx;obtain⟨bs,h2⟩:=I.reads he ry;exact ne_dataH h1 h2 sd se hu (JP I q rfl)
theorem RZ:∀{us:List Uq} {ns:List Int},Pt us ns->bN (ns.map V.int) us
 |_,_,.nil=>.nil
 |_,_,.cons i t h=>.cons ⟨t,rfl⟩ (RZ h)
theorem RH:∀{ns:List Int} {us:List Uq},bN (ns.map V.int) us->Pt us ns
 |[],_,.nil=>.nil
 |i::ns,_,.cons r t=>by obtain⟨k,rfl⟩:=r;exact .cons i k (RH t)
theorem QI:aR X (.builtin "sorted") (λxs H Q=>∃(p:Ur) (ns:List Int),xs=[.ref p]/\YA X.K H p (ns.map V.int)/\ns.length<64∧ ∀(l:Ur) (ms:List Int),H l=none->ms.Perm ns->ms.Pairwise (· <= ·)->Q (.ref l) (upd H l (.lst (ms.map V.int)))):=by intro aa s σ H xs us Q I r h;obtain⟨p,ns,rfl,hq,hl,q⟩:=h;obtain⟨u,rfl,rx⟩:=U9 r;cases rx;obtain⟨its,rv,pl,hz⟩:=I.list hq;have ah:=rv.length;rw[By] at ah;refine sorted_ints pl.isList (RH rv) (by lia) λout ms a1 a2 a3=>?_;obtain⟨e,he⟩:=sortedAll_at s.heap its out;have hml:ms.length=ns.length:=a2.length_eq;have hn:H (s.heap.objs.size+1)=none:=I.hok.fresh (Dx _);refine⟨.ref (s.heap.objs.size+1),_,I.laid (a:=s.heap.objs.size+1) (o:=.lst (ms.map V.int)) (t':=s.toks) (λb o=>sortedAll_old) (Dx _) ?_,rfl,q _ ms hn a2 a3⟩;refine⟨by rw[By,Bt];lia,out.toList,e,RZ a1,?_⟩;rw[he]
def rngP(p:Ur)(a b c:Int):Va->Prop:=λh=>∃t u v,IsRange h p a b c t u v
inductive KU:List Mj->List (Uw×V)->Prop
 |nil:KU [] []
 |cons {e:Mj} {es:List Mj} {x:Uw} {t:Vl} {v:V} {D:List (Uw×V)}:e.key=.str x t->b5 v e.val->KU es D->KU (e::es) ((x,v)::D)
def KTab(K:Ai)(a:Ur)(D:List (Uw×V)):Prop:=
 (a==Fu)=false/\∃o es ep,K.lookup a=some o/\o.ExactDict/\o.data=.dict es ep/\KU es.toList D
theorem KU.rows{es:List Mj}{D:List (Uw×V)}(h:KU es D):KTD.Rows b5 es D:=by
 induction h with
 |nil=>exact .nil
 |cons h1 h2 _ ih=>exact .cons h1 h2 ih
theorem G5{A:Br}{E:Uq->Ad->Prop}{s:Ad}{K:Ai}{prog:Av}{w:Uy}{a:Ur}{D:List (Uw×V)}{k:Uw}{tk:Vl}{Q:Option Uq->Ad->Prop}(hK:K.In s.heap)(T:KTab K a D)(h1:∀d v,Fs k D=some d->b5 d v->Q (some v) {s with toks:=s.toks+1})(h2:Fs k D=none->Q none {s with toks:=s.toks+1}):Ut (Uv prog w) A (dictGet a (.str k tk)) Q E s:=by
 obtain⟨_,o,es,ep,ho,hc,hd,hr⟩:=T;have ho:=hK _ _ ho;have hr:=hr.rows;unfold dictGet;try with_reducible refine Bo ?_
 refine Aa (wpAny_pyHash_str (Aa (KTD.kt_dictFind_strs (s:={s with toks:=s.toks+1}) ho hd (by obtain⟨l⟩:=es;simpa using hr.exact) ?_)));have hq:Q (findBy (λk v=>v.isStr k) es k) {s with toks:=s.toks+1}:=by
  have hf:findBy (λk v=>v.isStr k) es k=(es.toList.find? λe=>e.key.isStr k).map (·.val):=by obtain⟨l⟩:=es;simp[findBy]
  rw[hf];cases hat:Fs k D with
  |some d=>obtain⟨v,hv,hfl⟩:=hr.find_some hat;rw[hv];exact h1 d v hat hfl
  |none=>rw[hr.find_none hat];exact h2 hat
 rw[findBy_of_findIdx?] at hq;cases hi:es.findIdx? λe=>e.key.isStr k with
 |none=>rw[hi] at hq;exact Ag hq
 |some i=>rw[hi] at hq;exact Aa (wpAny_dictEntries (s:={s with toks:=s.toks+1}) ho hd (Ag hq))
theorem jB:AK X (λx y H Q=>∃a k D v,x=.ref a/\y=.str k/\KTab X.K a D/\Fs k D=some v/\Q v H):=by
 intro value slice aa s σ H x y v u Q I rx ry h hs;obtain⟨a,k,D,d,rfl,rfl,T,hk,q⟩:=h;cases rx;obtain⟨t,rfl⟩:=ry;have hT:s.TypeIs (.ref a) "dict":=by obtain⟨_,o,es,ep,ho,hc,_⟩:=T;exact⟨o,I.kIn _ _ ho,hc.1⟩
 have main:Ut (Uv X.prog X.w) X.A (Ll (.ref a) (.str k t)) (EP X aa σ Q) X.xe s:=by
  unfold Ll;try with_reducible refine Bo ?_
  refine Aa (Kx hT (by decide) ?_);refine Aa (Dm (name:=Bf "__getitem__") hT Kr
   (Du Kr hT PySem.F.entry_dict_getitem ?_ (PySem.F.args_dict_getitem_2 _ _)))
  show Ut _ _ (dictGet a (.str k t)>>=_) _ _ s;exact Aa (G5 I.kIn T (λd' v' ha hv=>Ag ⟨v',rfl,Ag (by rw[hk] at ha;cases ha;exact⟨d,H,I.tok _,hv,q⟩)⟩) λhn=>by rw[hk] at hn;cases hn)
 exact Tj hT PySem.F.slot_dict_getitem.lookup main hs
end
section
variable{prog:Av}{w:Uy}{A:Br}{E:Uq->Ad->Prop}{s:Ad}
theorem LB{it t:Ur}{items:Array Uq}(hne:t≠it):∀(n i:Nat) (s:Ad) (Q:List Uq->Ad->Prop),s.heap.IsListIter it t i->s.heap.IsList t items->i+n<=items.size->(∀h',h'.IsListIter it t (i+n)->Ey it s.heap h'->Q ((items.toList.drop i).take n) {s with heap:=h'})->Ut (Uv prog w) A (draw (.ref it) n) Q E s
 |0,i,s,Q,hit,_,_,hQ=>by show Ut _ _ (pure []) Q E s;exact Ag (by simpa using hQ s.heap hit (Heap.SameBut.refl ..))
 |n+1,i,s,Q,hit,ht,hle,hQ=>by
  have hlt:i<items.size:=by lia
  show Ut _ _ (pyNext (.ref it)>>=_) Q E s;refine Aa (Md hit ht (x:=items[i]) (by simp[hlt]) λh₁ hit₁ hs₁=>?_);refine Aa (Bo (LB hne n (i+1) _ _ hit₁ (ht.extBut hs₁.extBut hne) (by lia) λh₂ hit₂ hs₂=>Ag ?_));have hd:items.toList.drop i=items[i]::items.toList.drop (i+1):=by simp[Dt,hlt]
  have:=hQ h₂ (by rw[show i+(n+1)=i+1+n by lia];exact hit₂) (hs₁.trans hs₂);rw[hd,List.take_succ_cons] at this;exact this
theorem Q4{t:Ur}{items:Array Uq}{Q:List Uq->Ad->Prop}(hh:A.handled=none)(ht:s.heap.IsList t items)(hQ:∀h',Jw s.heap.objs.size s.heap h'->Q items.toList {s with heap:=h'}):Ut (Uv prog w) A (Jt (.ref t) items.size none) Q E s:=by
 have hlt:t≠s.heap.objs.size:=by obtain⟨o,ho,_⟩:=ht;exact Aw (Aj ho)
 unfold Jt;refine Aa ?_
 ·unfold notIterableAtAll
  refine Aa (Mt ht.typeIs PySem.F.slot_list_iter.lookup ?_);refine Ag ?_;simp only[Fo,if_false];refine Aa (Bo (Fx ht ?_));have htp:(s.heap.push {cls:=.type "list_iterator",data:=.fields #[.ref t,.int 0 0]}).IsList t items:=by obtain⟨o,ho,r⟩:=ht;exact⟨o,Ac _ ho,r⟩
  refine Aa (Bo (LB hlt items.size 0 _ _ ⟨_,Ao _ rfl,rfl,rfl⟩ htp (by lia) λh₁ hit₁ hs₁=>?_));have km:List.take items.size (List.drop 0 items.toList)=items.toList:=by rw[Np];exact Ce (by simp)
  rw[km];rw[if_neg (by simp)];have ht₁:h₁.IsList t items:=htp.extBut hs₁.extBut hlt;refine Aa (Bo (Mm hh hit₁ ht₁ (by simp) λh₂ he₂=>?_));simp only[Option.isSome_none,Fo,if_false];refine Ag (hQ h₂ λb o hb e=>he₂ b o hb (hs₁.extBut b o hb (Ac _ e)))
theorem Q6{env:Env}{jw:List Ux}{x1}{pos:Pos}{t:Ur}{items:Array Uq}{Q:Unit->Ad->Prop}(hh:A.handled=none)(ht:s.heap.IsList t items)(hn:(Uz jw env).length=items.size)(ni:(Uz jw env).findIdx? (·.1)=none)(h:∀h',Jw s.heap.objs.size s.heap h'->Ut (Uv prog w) A (Vi ((Uz jw env).map (·.2)) items.toList) Q E {s with heap:=h'}):Ut (Uv prog w) A (Fv (.Tuple jw x1 pos) env (.ref t)) Q E s:=by rw[assign_Tuple];refine Aa (Dd ?_);unfold unpack;rw[hn,ni];exact Aa (Bo (Q4 hh ht h))
end
section
variable{X:Cx}{pos:Pos}
def gLst(K:Ai)(n:Nat)(t:AR):TG:=λv σ H Q=>∃a xs,v=.ref a/\YA K H a xs/\xs.length=n/\t xs σ H Q
theorem dD{es:List Ux}{k:Nat}{t:AR}{n:Nat}(hc:X.calm=true)(h:CW X es t)(hn:(Uz es X.env).length=n:=by rfl)(hst:(Uz es X.env).findIdx? (·.1)=none:=by rfl):PG X (.Tuple es k pos) (gLst X.K n t):=by intro aa s σ H v u Q I r hw;obtain⟨a,xs,e1,hq,hl,hw⟩:=hw;subst e1;cases r;obtain⟨its,rv,ht,hz⟩:=I.list hq;refine Q6 (I.ok.hd hc) ht.isList (by simp[hn,<-hl,rv.length]) hst λh' hx=>?_;have I1:cK X aa σ H {s with heap:=h'}:=I.kept (t':=s.toks) λb o e=>hx b o (Aw (Aj e)) e;exact h aa _ σ H xs _ Q I1 (by simpa using rv) hw
def FnAt(X:Cx)(f:Ur)(sp:Sp):Prop:=∃(k:Nat) (fd:Df) (ps:List Uw),aW X.prog X.w X.K X.mg X.base CX0 k f fd ps sp/\ZG k X.A/\Hz X.K (.ref f)=true/\U5 X.K fd ps []
def rO(X:Cx)(tf:TE)(t:TA):TE:=λσ H Q=>tf σ H λx H1=>∃f sp,x=.ref f/\FnAt X f sp/\t σ H1 λvs H2=>sp vs H2 Q E0
end
section
variable{X:Cx}{K:Ai}
theorem lW(h:X.K=K):aR X (.type "list") (λxs H Q=>∃p ys,xs=[.ref p]/\(YA K H p ys∨WM K H p ys)/\∀l,H l=none->Q (.ref l) (upd H l (.lst ys))):=by subst h;exact JG
theorem lJ(h:X.K=K):aR X (.type "tuple") (λxs H Q=>∃p ys,xs=[.ref p]/\((YA K H p ys/\∀l,H l=none->Q (.ref l) (upd H l (.tup ys)))∨(WM K H p ys/\Q (.ref p) H))):=by subst h;exact MT
theorem kK(h:X.K=K):aR X (.builtin "sorted") (λxs H Q=>∃(p:Ur) (ns:List Int),xs=[.ref p]/\YA K H p (ns.map V.int)/\ns.length<64∧ ∀(l:Ur) (ms:List Int),H l=none->ms.Perm ns->ms.Pairwise (· <= ·)->Q (.ref l) (upd H l (.lst (ms.map V.int)))):=by subst h;exact QI
theorem kEqD(h:X.K=K)(hu:X.A.units+64<cLine):W5 X (De .Eq) (rEqD K):=by subst h;exact kG hu
theorem NS(h:X.K=K)(hu:X.A.units+64<cLine):W5 X (De .NotEq) (rNeD K):=by subst h;exact eT hu
theorem Za(h:X.K=K){es:List Ux}{k:Nat}{t:AR}{n:Nat}{pos:Pos}(hc:X.calm=true)(hg:CW X es t)(hn:(Uz es X.env).length=n:=by rfl)(hst:(Uz es X.env).findIdx? (·.1)=none:=by rfl):PG X (.Tuple es k pos) (gTup K n t):=by subst h;exact rJ hc hg hn hst
theorem Zq(h:X.K=K){es:List Ux}{k:Nat}{t:AR}{n:Nat}{pos:Pos}(hc:X.calm=true)(hg:CW X es t)(hn:(Uz es X.env).length=n:=by rfl)(hst:(Uz es X.env).findIdx? (·.1)=none:=by rfl):PG X (.Tuple es k pos) (gLst K n t):=by subst h;exact dD hc hg hn hst
theorem Wv(h:X.K=K){tg l:Ux}{tl:TE}(hl:PE X l tl):PI X tg l (Yh K tl):=by subst h;exact nK hl
theorem Wk(h:X.K=K){tg l:Ux}{tl:TE}(hl:PE X l tl):PI X tg l (iTup K tl):=by subst h;exact kU hl
theorem kBm(h:X.K=K){o e:Ux}{es:List Ux}{to:TE}{t:TA}{name:Uw}{ao af:Pos}{T id:String}{r:V->List V->Hp->VK->Prop}(pa:PlainAttrs T)(slot:Slot T name id)(hty:Nl (.builtin id)=pure (.type "method_descriptor"))(hm:MtR X id r)(ho:PE X o to)(ha:PA X (e::es) t)(cj:Fn o name X.env (eval o X.env)=eval o X.env:=by rfl)(eo:((Dv af (Us (e::es) X.env)).all (λx=> !x.1)&&(Ic af (Fe [] X.env)).all (λx=>x.1.isSome)&&decide ((e::es).length+([]:List Iv).length+(if([]:List Iv).isEmpty then 0 else 1)<30))=true:=by rfl)(ci:(ao.endLine==af.line)=true:=by rfl)(hs:Us (e::es) X.env=(false,eval e X.env)::Us es X.env:=by rfl)(bp:(Dv af (Us es X.env)).any (·.1)=false:=by rfl):PE X (.Call (.Attribute o name ao) (e::es) [] af) (tBM K T r to t):=by subst h;exact Zv pa slot hty hm ho ha cj eo ci hs bp
end
theorem qP:Be "len"=some (.builtin "len"):=by decide+kernel
theorem fH:Be "min"=some (.builtin "min"):=by decide+kernel
theorem rQ:Be "max"=some (.builtin "max"):=by decide+kernel
theorem K4:Be "sorted"=some (.builtin "sorted"):=by decide+kernel
theorem b7:Be "isinstance"=some (.builtin "isinstance"):=by decide+kernel
theorem JD:Be "list"=some (.type "list"):=by decide+kernel
theorem XT:Be "tuple"=some (.type "tuple"):=by decide+kernel
theorem nE:Be "range"=some (.type "range"):=by decide+kernel
theorem C3:Be "bool"=some (.type "bool"):=by decide+kernel
theorem iT:Be "int"=some (.type "int"):=by decide+kernel
theorem ro:Be "str"=some (.type "str"):=by decide+kernel
structure Def(P:Av)(w:Uy)(K:Ai)(mg:Uw->Option Uq)(base:Va)(x:Uw)(k:Nat)(ps:List Uw)(sp:Sp)(f:Ur):Prop where
 at_:mg x=some (.ref f)
 ok:∃fd,aW P w K mg base CX0 k f fd ps sp/\U5 K fd ps []
 kp:Hz K (.ref f)=true
section
variable{X:Cx}{x:Uw}{k j:Nat}{ps:List Uw}{sp:Sp}{f:Ur}{p pos:Pos}{e:Ux}{es:List Ux}{t:TA}
theorem gR(D:Def X.prog X.w X.K X.mg X.base x k ps sp f)(hr:ZG j X.A)(hk:k<=j)(hg:Gl X x)(ha:PA X (e::es) t)(hdb:(x==("__debug__":Uw))=false:=by decide)(he:Us (e::es) X.env=(false,eval e X.env)::Us es X.env:=by rfl)(hpl:(Dv pos (Us es X.env)).any (·.1)=false:=by rfl):PE X (.Call (.Name x p) (e::es) [] pos) (ED sp [] E0 t):=by obtain⟨fd,F,B⟩:=D.ok;exact jU F (hr.mono hk) hg D.at_ D.kp B .nil Xa ha hdb he hpl
theorem Def.fnAt(D:Def X.prog X.w X.K X.mg X.base x k ps sp f)(hr:ZG j X.A)(hk:k<=j):FnAt X f sp:=by obtain⟨fd,F,B⟩:=D.ok;exact⟨k,fd,ps,F,hr.mono hk,D.kp,B⟩
end
theorem cQ{H:Hp}{p:Ur}{o:HO}(hp:H p=none):aZ H (upd H p o):=λb o' e=>by rw[b6 (X6 e hp)];exact e
theorem IA(ns:List Int):Ep (.list (ns.map Pw))=true:=by
 have h1:Gm (.list (ns.map Pw))=true:=by simp only[Gm,canLayAll_ints]
 have h2:Jf (.list (ns.map Pw))<=64:=by simp only[Jf,depthAll_ints];decide
 unfold Ep;rw[h1,decide_eq_true h2];rfl
inductive cX where
 |non|bl (b:Bool)|int (i:Int)|str (x:Uw)|ty (n:String)|fn (x:Uw)|tup (ds:List cX)|lst (ds:List cX)|dct (ks:List aK) (ds:List cX)|exn (x:Uw)|exr (x n:Uw) (d:cX)
def FzL(K:Ai)(H:Hp)(a:Ur)(xs:List V):Prop:=
 (∃o,H a=some (.frz o (.lst xs)))∨
  ∃(o:Vc) (its:Array Uq) (n:Nat),K.lookup a=some o/\o.cls=.type "list" /\o.dict=none/\o.data=.seq its n/\its.size<=sizeLine/\bN xs its.toList
theorem FzL.sq{K:Ai}{H:Hp}{a:Ur}{xs:List V}(h:FzL K H a xs):YA K H a xs:=by
 rcases h with⟨o,h⟩|h
 ·exact .inl (.inr ⟨o,h⟩)
 ·exact .inr h
def CU(h:Va)(a C:Ur):Prop:=∃o vs,h.get? a=some o/\o.cls=.ref C/\o.data=.fields vs
def Yn(h:Va)(a C D:Ur):Prop:=∃o vs,h.get? a=some o/\o.cls=.ref C/\o.data=.fields vs/\o.dict=some D
mutual
inductive bI(K:Ai)(N:Ur->Prop)(H:Hp):(Ur->Prop)->V->cX->Prop
 |non {M:Ur->Prop}:bI K N H M .non .non
 |bl {M:Ur->Prop} (b:Bool):bI K N H M (.bl b) (.bl b)
 |int {M:Ur->Prop} (i:Int):bI K N H M (.int i) (.int i)
 |str {M:Ur->Prop} (x:Uw):bI K N H M (.str x) (.str x)
 |ty {M:Ur->Prop} (n:String):bI K N H M (.ty n) (.ty n)
 |fn {M:Ur->Prop} {a:Ur} {x:Uw}:Er K Uu x=some (some (.ref a))->bI K N H M (.ref a) (.fn x)
 |tup {M:Ur->Prop} {a:Ur} {xs:List V} {ds:List cX}:WM K H a xs->cD K N H xs ds->bI K N H M (.ref a) (.tup ds)
 |lst {M:Ur->Prop} {a:Ur} {xs:List V} {ds:List cX}:H a=some (.lst xs)->¬M a->cD K N H xs ds->bI K N H M (.ref a) (.lst ds)
 |fzl {M:Ur->Prop} {a:Ur} {xs:List V} {ds:List cX}:FzL K H a xs->cD K N H xs ds->bI K N H M (.ref a) (.lst ds)
 |dct {M:Ur->Prop} {a:Ur} {kvs:List (aK×V)} {ds:List cX}:H a=some (.dK kvs)->¬M a->cD K N H (kvs.map Eo) ds->bI K N H M (.ref a) (.dct (kvs.map Dn) ds)
 |ktb {M:Ur->Prop} {a:Ur} {D:List (Uw×V)} {ds:List cX}:KTab K a D->cD K N H (D.map Eo) ds->bI K N H M (.ref a) (.dct (D.map λp=>.inr p.1) ds)
 |exn {M:Ur->Prop} {a C:Ur} {x:Uw} {φ:Va->Prop}:Er K Uu x=some (some (.ref C))->H a=some (.ext φ)->(∀h,φ h->CU h a C)->bI K N H M (.ref a) (.exn x)
 |exr {M:Ur->Prop} {a C D:Ur} {x n:Uw} {φ:Va->Prop} {v:V} {d:cX}:Er K Uu x=some (some (.ref C))->H a=some (.ext φ)->(∀h,φ h->Yn h a C D)->H D=some (.xd [(n,v)])->bI K N H N v d->bI K N H M (.ref a) (.exr x n d)
inductive cD(K:Ai)(N:Ur->Prop)(H:Hp):List V->List cX->Prop
 |nil:cD K N H [] []
 |cons {v:V} {vs:List V} {d:cX} {ds:List cX}:bI K N H N v d->cD K N H vs ds->cD K N H (v::vs) (d::ds)
end
def Hard:HO->Prop
 |.tup _=>True
 |.frz _ _=>True
 |.ext _=>True
 |.xd _=>True
 |_=>False
def Fr(P:Ur->Prop)(H H':Hp):Prop:=∀b o,H b=some o->(P b->Hard o)->H' b=some o
theorem Fr.refl(P:Ur->Prop)(H:Hp):Fr P H H:=λ_ _ h _=>h
theorem Fr.trans{P:Ur->Prop}{H H1 H2:Hp}(a:Fr P H H1)(b:Fr P H1 H2):Fr P H H2:=λc o h n=>b c o (a c o h n) n
theorem Fr.mono{P P':Ur->Prop}{H H':Hp}(a:Fr P H H')(h:∀b,P b->P' b):Fr P' H H':=λc o e n=>a c o e λz=>n (h c z)
theorem aZ.fr{P:Ur->Prop}{H H':Hp}(a:aZ H H'):Fr P H H':=λc o h _=>a c o h
section
variable{K:Ai}{N N' M M' P:Ur->Prop}{H H':Hp}
theorem Fr.tup(f:Fr P H H'){a:Ur}{xs:List V}(h:WM K H a xs):WM K H' a xs:=by
 rcases h with(h|⟨o,h⟩)|h
 ·exact .inl (.inl (f _ _ h λ_=>trivial))
 ·exact .inl (.inr ⟨o,f _ _ h λ_=>trivial⟩)
 ·exact .inr h
theorem Fr.fzl(f:Fr P H H'){a:Ur}{xs:List V}(h:FzL K H a xs):FzL K H' a xs:=by
 rcases h with⟨o,h⟩|h
 ·exact .inl ⟨o,f _ _ h λ_=>trivial⟩
 ·exact .inr h
theorem bI.fr(f:Fr P H H')(hN:∀a,P a->N a){M:Ur->Prop}{v:V}{d:cX}(hM:∀a,P a->M a)(h:bI K N H M v d):bI K N H' M v d:=
 bI.rec (motive_1:=λM v d _=>(∀a,P a->M a)->bI K N H' M v d) (motive_2:=λvs ds _=>cD K N H' vs ds) (λ_=>.non) (λb _=>.bl b) (λi _=>.int i) (λx _=>.str x) (λn _=>.ty n) (λq _=>.fn q) (λq _ r _=>.tup (f.tup q) r)
  (λq n _ r hM=>.lst (f _ _ q λz=>absurd (hM _ z) n) n r) (λq _ r _=>.fzl (f.fzl q) r) (λq n _ r hM=>.dct (f _ _ q λz=>absurd (hM _ z) n) n r) (λq _ r _=>.ktb q r) (λp q r _=>.exn p (f _ _ q λ_=>trivial) r)
  (λp q r s _ t _=>.exr p (f _ _ q λ_=>trivial) r (f _ _ s λ_=>trivial) (t hN)) .nil (λ_ _ a b=>.cons (a hN) b) h hM
theorem cD.map{K':Ai}{N':Ur->Prop}{H':Hp}(g:∀{v d},bI K N H N v d->bI K' N' H' N' v d):∀{vs:List V} {ds:List cX},cD K N H vs ds->cD K' N' H' vs ds:=by
 intro vs;induction vs with
 |nil=>intro ds h;cases h;exact .nil
 |cons v vs ih=>intro ds h;cases h with|cons a b=>exact .cons (g a) (ih b)
theorem cD.fr(f:Fr P H H')(hN:∀a,P a->N a){vs:List V}{ds:List cX}(h:cD K N H vs ds):cD K N H' vs ds:=h.map λr=>r.fr f hN hN
theorem bI.mono(hN:∀a,N' a->N a){M M':Ur->Prop}{v:V}{d:cX}(hM:∀a,M' a->M a)(h:bI K N H M v d):bI K N' H M' v d:=
 bI.rec (motive_1:=λM v d _=>∀M',(∀a,M' a->M a)->bI K N' H M' v d) (motive_2:=λvs ds _=>cD K N' H vs ds) (λ_ _=>.non) (λb _ _=>.bl b) (λi _ _=>.int i) (λx _ _=>.str x) (λn _ _=>.ty n) (λq _ _=>.fn q) (λq _ r _ _=>.tup q r)
  (λq n _ r _ hM=>.lst q (λz=>n (hM _ z)) r) (λq _ r _ _=>.fzl q r) (λq n _ r _ hM=>.dct q (λz=>n (hM _ z)) r) (λq _ r _ _=>.ktb q r) (λp q r _ _=>.exn p q r) (λp q r s _ t _ _=>.exr p q r s (t _ hN)) .nil (λ_ _ a b=>.cons (a _ hN) b) h M' hM
theorem cD.mono(hN:∀a,N' a->N a){vs:List V}{ds:List cX}(h:cD K N H vs ds):cD K N' H vs ds:=h.map λr=>r.mono hN hN
theorem bI.same(f:aZ H H'){v:V}{d:cX}(h:bI K N H M v d):bI K N H' M v d:=h.fr f.fr (λ_ z=>z.elim) (P:=λ_=>False) λ_ z=>z.elim
theorem cD.same(f:aZ H H'){vs:List V}{ds:List cX}(h:cD K N H vs ds):cD K N H' vs ds:=h.fr f.fr (P:=λ_=>False) λ_ z=>z.elim
theorem cD.length:∀{vs:List V} {ds:List cX},cD K N H vs ds->vs.length=ds.length
 |_,_,.nil=>rfl
 |_,_,.cons _ t=>congrArg (· +1) (cD.length t)
theorem cD.append:∀{vs ws:List V} {ds es:List cX},cD K N H vs ds->cD K N H ws es->cD K N H (vs++ws) (ds++es)
 |_,_,_,_,.nil,s=>s
 |_,_,_,_,.cons h t,s=>.cons h (cD.append t s)
theorem cD.get:∀{vs:List V} {ds:List cX} {i:Nat} {d:cX},cD K N H vs ds->ds[i]?=some d->∃v,vs[i]?=some v/\bI K N H N v d
 |_,_,_,_,.nil,e=>by simp at e
 |_,_,0,_,.cons r _,e=>by simp at e;subst e;exact⟨_,rfl,r⟩
 |_,_,i+1,x,.cons _ t,e=>by obtain⟨u,h1,h2⟩:=cD.get (i:=i) (d:=x) t (by simpa using e);exact⟨u,by simpa using h1,h2⟩
theorem cD.take:∀{vs:List V} {ds:List cX} (n:Nat),cD K N H vs ds->cD K N H (vs.take n) (ds.take n)
 |_,_,0,_=>.nil
 |_,_,_+1,.nil=>.nil
 |_,_,n+1,.cons r t=>.cons r (cD.take n t)
theorem cD.drop:∀{vs:List V} {ds:List cX} (n:Nat),cD K N H vs ds->cD K N H (vs.drop n) (ds.drop n)
 |_,_,0,r=>r
 |_,_,_+1,.nil=>.nil
 |_,_,n+1,.cons _ t=>cD.drop n t
theorem cD.snoc{vs:List V}{ds:List cX}{v:V}{d:cX}(r:cD K N H vs ds)(h:bI K N H N v d):cD K N H (vs++[v]) (ds++[d]):=r.append (.cons h .nil)
end
mutual
def cX.isD:cX->Bool
 |.non=>true
 |.bl _=>true
 |.int _=>true
 |.str _=>true
 |.ty _=>false
 |.fn _=>false
 |.tup ds=>G1 ds
 |.lst ds=>G1 ds
 |.dct _ _=>false
 |.exn _=>false
 |.exr _ _ _=>false
def G1:List cX->Bool
 |[]=>true
 |d::ds=>d.isD&&G1 ds
end
mutual
def cX.pd:cX->No
 |.non=>.none
 |.bl b=>.bool b
 |.int i=>.int i
 |.str x=>.str x
 |.ty _=>.none
 |.fn _=>.none
 |.tup ds=>.tuple (AE ds)
 |.lst ds=>.list (AE ds)
 |.dct _ _=>.none
 |.exn _=>.none
 |.exr _ _ _=>.none
def AE:List cX->List No
 |[]=>[]
 |d::ds=>d.pd::AE ds
end
mutual
def cX.hard:cX->Bool
 |.tup ds=>UK ds
 |.lst _=>false
 |.dct _ _=>false
 |.exr _ _ _=>false
 |_=>true
def UK:List cX->Bool
 |[]=>true
 |d::ds=>d.hard&&UK ds
end
section
variable{K:Ai}{N:Ur->Prop}{H:Hp}
theorem bI.dp{M:Ur->Prop}{v:V}{d:cX}(h:bI K N H M v d)(e:d.isD=true):Dp K H v d.pd:=
 bI.rec (motive_1:=λM v d _=>d.isD=true->Dp K H v d.pd) (motive_2:=λvs ds _=>G1 ds=true->M3 K H vs (AE ds)) (λ_=>.non) (λb _=>.bl b) (λi _=>.int i) (λx _=>.str x) (λ_ h=>nomatch h) (λ_ h=>nomatch h) (λq _ r h=>.tup q (r h))
  (λq _ _ r h=>.lst (YA.of q) (r h)) (λq _ r h=>.lst q.sq (r h)) (λ_ _ _ _ h=>nomatch h) (λ_ _ _ h=>nomatch h) (λ_ _ _ h=>nomatch h) (λ_ _ _ _ _ _ h=>nomatch h) (λ_=>.nil) (λ_ _ a b e=>.cons (a (Dr.mp e).1) (b (Dr.mp e).2)) h e
theorem bI.hard{N':Ur->Prop}{M M':Ur->Prop}{v:V}{d:cX}(h:bI K N H M v d)(e:d.hard=true):bI K N' H M' v d:=
 bI.rec (motive_1:=λM v d _=>∀M',d.hard=true->bI K N' H M' v d) (motive_2:=λvs ds _=>UK ds=true->cD K N' H vs ds) (λ_ _=>.non) (λb _ _=>.bl b) (λi _ _=>.int i) (λx _ _=>.str x) (λn _ _=>.ty n) (λq _ _=>.fn q) (λq _ r _ h=>.tup q (r h))
  (λ_ _ _ _ _ h=>nomatch h) (λ_ _ _ _ h=>nomatch h) (λ_ _ _ _ _ h=>nomatch h) (λ_ _ _ _ h=>nomatch h) (λp q r _ _=>.exn p q r) (λ_ _ _ _ _ _ _ h=>nomatch h) (λ_=>.nil) (λ_ _ a b e=>.cons (a _ (Dr.mp e).1) (b (Dr.mp e).2)) h M' e
theorem cD.hard{N':Ur->Prop}:∀{vs:List V} {ds:List cX},cD K N H vs ds->UK ds=true->cD K N' H vs ds:=by
 intro vs;induction vs with
 |nil=>intro ds h _;cases h;exact .nil
 |cons v vs ih=>intro ds h e;cases h with|cons a b=>exact .cons (a.hard (Dr.mp e).1) (ih b (Dr.mp e).2)
end
inductive Sl where
 |no|va (d:cX)|ow (d:cX)
abbrev Ev:=List Sl
structure Bs where
 Z:Ur->Prop
 P:Ur->Prop
 H0:Hp
 mu:Nat->Option Ur
 kp:List (V×cX)
def Nn(B:Bs)(O:Nat->Option Ur):Ur->Prop:=λa=>B.Z a∨∃i,O i=some a
def OA(O:Nat->Option Ur):Ur->Prop:=λa=>∃i,O i=some a
inductive OV(K:Ai)(N:Ur->Prop)(H:Hp)(a:Ur):cX->Prop
 |lst {xs:List V} {ds:List cX}:H a=some (.lst xs)->cD K N H xs ds->OV K N H a (.lst ds)
 |dct {kvs:List (aK×V)} {ds:List cX}:H a=some (.dK kvs)->cD K N H (kvs.map Eo) ds->OV K N H a (.dct (kvs.map Dn) ds)
theorem OV.fr{K:Ai}{N P:Ur->Prop}{H H':Hp}{a:Ur}{d:cX}(f:Fr P H H')(hN:∀a,P a->N a)(ha:¬P a):OV K N H a d->OV K N H' a d
 |.lst q r=>.lst (f _ _ q λz=>absurd z ha) (r.fr f hN)
 |.dct q r=>.dct (f _ _ q λz=>absurd z ha) (r.fr f hN)
theorem OV.mono{K:Ai}{N N':Ur->Prop}{H:Hp}{a:Ur}{d:cX}(h:∀b,N' b->N b):OV K N H a d->OV K N' H a d
 |.lst q r=>.lst q (r.mono h)
 |.dct q r=>.dct q (r.mono h)
theorem OV.soft{K:Ai}{N:Ur->Prop}{H:Hp}{a:Ur}{d:cX}(h:OV K N H a d):∃o,H a=some o/\¬Hard o:=by
 cases h with
 |lst q _=>exact⟨_,q,λz=>z⟩
 |dct q _=>exact⟨_,q,λz=>z⟩
theorem OV.rep{K:Ai}{N M:Ur->Prop}{H:Hp}{a:Ur}{d:cX}(h:OV K N H a d)(hM:¬M a):bI K N H M (.ref a) d:=by
 cases h with
 |lst q r=>exact .lst q hM r
 |dct q r=>exact .dct q hM r
structure aS(K:Ai)(ml:List Nat)(B:Bs)(O:Nat->Option Ur)(H:Hp)(σ:St)(δ:Ev):Prop where
 len:σ.length=δ.length
 va:∀(i:Nat) (d:cX),δ[i]?=some (Sl.va d)->∃v,σ[i]?=some (some v)/\bI K (Nn B O) H (Nn B O) v d
 ow:∀(i:Nat) (d:cX),δ[i]?=some (Sl.ow d)->∃a,O i=some a/\σ[i]?=some (some (.ref a))/\OV K (Nn B O) H a d
 dom:∀(i:Nat) a,O i=some a->∃d,δ[i]?=some (Sl.ow d)
 inj:∀i j a,O i=some a->O j=some a->i=j
 old:∀i a,O i=some a->¬B.Z a/\(B.P a∨B.H0 a=none)
 zin:∀a,B.Z a->∃o,H a=some o
 frm:Fr B.P B.H0 H
 par:(∀i a,B.mu i=some a->i∈ml)/\∀i∈ml,O i=B.mu i
 pin:∀a,B.P a->∃o,H a=some o
 kep:∀p∈B.kp,bI K (Nn B O) H (Nn B O) p.1 p.2
section
variable{K:Ai}{ml:List Nat}{B:Bs}{O:Nat->Option Ur}{H H':Hp}{σ:St}{δ δ':Ev}
theorem aS.nin(S:aS K ml B O H σ δ){a:Ur}(h:Nn B O a):∃o,H a=some o:=by
 rcases h with h|⟨i,h⟩
 ·exact S.zin a h
 ·obtain⟨d,e⟩:=S.dom i a h
  obtain⟨a',e1,_,w⟩:=S.ow i d e;rw[h] at e1;cases e1;obtain⟨o,q,_⟩:=w.soft;exact⟨o,q⟩
theorem aS.new(S:aS K ml B O H σ δ){a:Ur}(h:H a=none):¬Nn B O a:=λz=>by obtain⟨o,q⟩:=S.nin z;rw[h] at q;cases q
theorem aS.same(S:aS K ml B O H σ δ)(f:aZ H H'):aS K ml B O H' σ δ where
 len:=S.len
 va:=λi d e=>let ⟨v,a,b⟩:=S.va i d e;⟨v,a,b.same f⟩
 ow:=λi d e=>let ⟨a,b,c,w⟩:=S.ow i d e;⟨a,b,c,w.fr (P:=λ_=>False) f.fr (λ_ z=>z.elim) λz=>z⟩
 dom:=S.dom
 inj:=S.inj
 old:=S.old
 zin:=λa h=>let ⟨o,q⟩:=S.zin a h;⟨o,f _ _ q⟩
 frm:=S.frm.trans f.fr
 par:=S.par
 pin:=λa h=>let ⟨o,q⟩:=S.pin a h;⟨o,f _ _ q⟩
 kep:=λp h=>(S.kep p h).same f
theorem aS.fresh(S:aS K ml B O H σ δ){a:Ur}(h:H a=none):B.H0 a=none:=by
 cases q:B.H0 a with
 |none=>rfl
 |some o=>
  by_cases hp:B.P a
  ·obtain⟨o',e⟩:=S.pin a hp
   rw[h] at e;cases e
  ·have := S.frm a o q λz => absurd z hp
   rw[h] at this;cases this
def Bs.add(B:Bs)(p:Ur):Bs:={B with Z:=λa=>B.Z a∨a=p}
theorem SU{p:Ur}:∀a,Nn B O a->Nn (B.add p) O a:=λa h=>by
 rcases h with h|h
 ·exact .inl (.inl h)
 ·exact .inr h
theorem bI.away{p:Ur}(hp:H p=none)(N N':Ur->Prop)(hN:∀a,N' a->N a∨a=p){M M':Ur->Prop}{v:V}{d:cX}(hM:∀a,M' a->M a∨a=p)(h:bI K N H M v d):bI K N' H M' v d:=
 have no:∀{a:Ur} {o:HO} {M M':Ur->Prop},H a=some o->¬M a->(∀a,M' a->M a∨a=p)->¬M' a:=λq n hM z=>(hM _ z).elim n λe=>by rw[e,hp] at q;cases q
 bI.rec (motive_1:=λM v d _=>∀M',(∀a,M' a->M a∨a=p)->bI K N' H M' v d) (motive_2:=λvs ds _=>cD K N' H vs ds) (λ_ _=>.non) (λb _ _=>.bl b) (λi _ _=>.int i) (λx _ _=>.str x) (λn _ _=>.ty n) (λq _ _=>.fn q) (λq _ r _ _=>.tup q r)
  (λq n _ r _ hM=>.lst q (no q n hM) r) (λq _ r _ _=>.fzl q r) (λq n _ r _ hM=>.dct q (no q n hM) r) (λq _ r _ _=>.ktb q r) (λp q r _ _=>.exn p q r) (λp q r s _ t _ _=>.exr p q r s (t _ hN)) .nil (λ_ _ a b=>.cons (a _ hN) b) h M' hM
theorem cD.away{p:Ur}(hp:H p=none)(N N':Ur->Prop)(hN:∀a,N' a->N a∨a=p){vs:List V}{ds:List cX}(h:cD K N H vs ds):cD K N' H vs ds:=h.map λr=>r.away hp N N' hN hN
theorem WO{p:Ur}:∀a,Nn (B.add p) O a->Nn B O a∨a=p:=λa h=>by
 rcases h with(h|h)|h
 ·exact .inl (.inl h)
 ·exact .inr h
 ·exact .inl (.inr h)
theorem aS.laid(S:aS K ml B O H σ δ){p:Ur}{o:HO}(hp:H p=none):aS K ml (B.add p) O (upd H p o) σ δ where
 len:=S.len
 va:=λi d e=>let ⟨v,a,b⟩:=S.va i d e;⟨v,a,(b.away hp _ _ WO WO).same (cQ hp)⟩
 ow:=λi d e=>by
  obtain⟨a,b,c,w⟩:=S.ow i d e;refine⟨a,b,c,?_⟩;have hne:∀o,H a=some o->upd H p o=upd H p o:=λ_ _=>rfl;cases w with
  |lst q r=>exact .lst (cQ hp _ _ q) ((r.away hp _ _ WO).same (cQ hp))
  |dct q r=>exact .dct (cQ hp _ _ q) ((r.away hp _ _ WO).same (cQ hp))
 dom:=S.dom
 inj:=S.inj
 old:=λi a h=>by
  refine⟨λz=>?_,(S.old i a h).2⟩;rcases z with z|z
  ·exact(S.old i a h).1 z
  ·obtain⟨o,q⟩:=S.nin (.inr ⟨i,h⟩)
   rw[z,hp] at q;cases q
 zin:=λa h=>by
  rcases h with h|h
  ·obtain⟨o,q⟩:=S.zin a h
   exact⟨o,cQ hp _ _ q⟩
  ·exact⟨_,by rw[h];exact cF⟩
 frm:=S.frm.trans (cQ hp).fr
 par:=S.par
 pin:=λa h=>let ⟨o,q⟩:=S.pin a h;⟨o,cQ hp _ _ q⟩
 kep:=λp h=>((S.kep p h).away hp _ _ WO WO).same (cQ hp)
theorem P7{i:Nat}{o:Option Ur}:∀a,Nn B (λj=>if j=i then none else O j) a->Nn B O a:=λa h=>by
 rcases h with h|⟨j,h⟩
 ·exact .inl h
 ·refine .inr ⟨j,?_⟩
  by_cases hj:j=i
  ·simp[hj] at h
  ·simpa[hj] using h
theorem T8{α:Type}{l:List α}{i j:Nat}{x y:α}(h:(l.set i x)[j]?=some y):(j=i/\y=x/\i<l.length)∨(j≠i/\l[j]?=some y):=by
 by_cases hj:j=i
 ·subst hj
  rw[List.getElem?_set_self'] at h;cases q:l[j]? with
  |none=>rw[q] at h;cases h
  |some z=>
   rw[q] at h;cases h;exact .inl ⟨rfl,rfl,(Ah.mp q).1⟩
 ·rw[Bu (Dk hj)] at h
  exact .inr ⟨hj,h⟩
theorem aS.setVa(S:aS K ml B O H σ δ){i:Nat}{v:V}{d:cX}(hm:i∉ml)(h:bI K (Nn B O) H (Nn B O) v d):aS K ml B (λj=>if j=i then none else O j) H (σ.set i (some v)) (δ.set i (.va d)) where
 len:=by rw[Cd,Cd,S.len]
 va:=λj e q=>by
  rcases T8 q with⟨rfl,z,hl⟩|⟨hj,q⟩
  ·cases z
   exact⟨v,by rw[Db (by rw[S.len];exact hl)],h.mono (P7 (o:=none)) (P7 (o:=none))⟩
  ·obtain⟨u,e1,r⟩:=S.va j e q
   exact⟨u,by rw[Bu (Dk hj)];exact e1,r.mono (P7 (o:=none)) (P7 (o:=none))⟩
 ow:=λj e q=>by
  rcases T8 q with⟨rfl,z,hl⟩|⟨hj,q⟩
  ·cases z
  ·obtain⟨a,e1,e2,w⟩:=S.ow j e q
   exact⟨a,by simpa[hj] using e1,by rw[Bu (Dk hj)];exact e2,w.mono (P7 (o:=none))⟩
 dom:=λj a e=>by
  by_cases hj:j=i
  ·simp[hj] at e
  ·obtain ⟨d,q⟩ := S.dom j a (by simpa [hj] using e)
   exact⟨d,by rw[Bu (Dk hj)];exact q⟩
 inj:=λj k a e1 e2=>by
  by_cases hj:j=i
  ·simp[hj] at e1
  ·by_cases hk:k=i
   ·simp[hk] at e2
   ·exact S.inj j k a (by simpa[hj] using e1) (by simpa[hk] using e2)
 old:=λj a e=>by
  by_cases hj:j=i
  ·simp[hj] at e
  ·exact S.old j a (by simpa[hj] using e)
 zin:=S.zin
 frm:=S.frm
 par:=⟨S.par.1,λj hj=>by have hne:j≠i:=λz=>hm (z▸hj);have h2:O j=B.mu j:=S.par.2 j hj;simpa[hne] using h2⟩
 pin:=S.pin
 kep:=λp hp=>(S.kep p hp).mono (P7 (o:=none)) (P7 (o:=none))
theorem QU{i:Nat}{p:Ur}:∀a,Nn B (λj=>if j=i then some p else O j) a->Nn (B.add p) O a:=λa h=>by
 rcases h with h|⟨j,h⟩
 ·exact .inl (.inl h)
 ·by_cases hj:j=i
  ·simp[hj] at h
   exact .inl (.inr h.symm)
  ·exact .inr ⟨j,by simpa[hj] using h⟩
theorem aS.setOw{p:Ur}(S:aS K ml (B.add p) O H σ δ){i:Nat}{d:cX}(hm:i∉ml)(hl:i<δ.length)(hz:¬B.Z p)(h0:B.H0 p=none)(h:OV K (Nn (B.add p) O) H p d):
  aS K ml B (λj=>if j=i then some p else O j) H (σ.set i (some (.ref p))) (δ.set i (.ow d)) where
 len:=by rw[Cd,Cd,S.len]
 va:=λj e q=>by
  rcases T8 q with⟨rfl,z,_⟩|⟨hj,q⟩
  ·cases z
  ·obtain⟨u,e1,r⟩:=S.va j e q
   exact⟨u,by rw[Bu (Dk hj)];exact e1,r.mono QU QU⟩
 ow:=λj e q=>by
  rcases T8 q with⟨rfl,z,hl⟩|⟨hj,q⟩
  ·cases z
   exact⟨p,by simp,by rw[Db (by rw[S.len];exact hl)],h.mono QU⟩
  ·obtain⟨a,e1,e2,w⟩:=S.ow j e q
   exact⟨a,by simpa[hj] using e1,by rw[Bu (Dk hj)];exact e2,w.mono QU⟩
 dom:=λj a e=>by
  by_cases hj:j=i
  ·subst hj
   exact⟨d,by rw[Db hl]⟩
  ·obtain ⟨d,q⟩ := S.dom j a (by simpa [hj] using e)
   exact⟨d,by rw[Bu (Dk hj)];exact q⟩
 inj:=λj k a e1 e2=>by
  by_cases hj:j=i
  ·by_cases hk:k=i
   ·rw[hj,hk]
   ·simp[hj] at e1
    simp[hk] at e2;exact absurd (.inr e1.symm) (S.old k a e2).1
  ·by_cases hk:k=i
   ·simp[hk] at e2
    simp[hj] at e1;exact absurd (.inr e2.symm) (S.old j a e1).1
   ·exact S.inj j k a (by simpa[hj] using e1) (by simpa[hk] using e2)
 old:=λj a e=>by
  by_cases hj:j=i
  ·simp[hj] at e
   subst e;exact⟨hz,.inr h0⟩
  ·have := S.old j a (by simpa [hj] using e)
   exact⟨λz=>this.1 (.inl z),this.2⟩
 zin:=λa h=>S.zin a (.inl h)
 frm:=S.frm
 par:=⟨S.par.1,λj hj=>by have hne:j≠i:=λz=>hm (z▸hj);have h2:O j=B.mu j:=S.par.2 j hj;simpa[hne] using h2⟩
 pin:=S.pin
 kep:=λp hp=>(S.kep p hp).mono QU QU
theorem aS.wrote(S:aS K ml B O H σ δ){i:Nat}{a:Ur}{d:cX}{o:HO}(e:O i=some a)(ho:¬Hard o)(h:OV K (Nn B O) (upd H a o) a d):aS K ml B O (upd H a o) σ (δ.set i (.ow d)):=by
 have hf:Fr (λb=>b=a) H (upd H a o):=λb u q n=>by
  by_cases hb:b=a
  ·subst hb
   obtain⟨d',q'⟩:=S.dom i b e;obtain⟨a',e1,_,w⟩:=S.ow i d' q';rw[e] at e1;cases e1;obtain⟨u',q1,hh⟩:=w.soft;rw[q] at q1;cases q1;exact absurd (n rfl) hh
  ·rw[b6 hb]
   exact q
 have hN:∀b,b=a->Nn B O b:=λb z=>.inr ⟨i,z▸e⟩;have hin:∀b,(∃u,H b=some u)->∃u,upd H a o b=some u:=λb q0=>by
  obtain⟨u,q⟩:=q0;by_cases hb:b=a
  ·exact⟨o,by rw[hb];exact cF⟩
  ·exact⟨u,by rw[b6 hb];exact q⟩
 refine⟨by rw[Cd,S.len],λj d' q=>?_,λj d' q=>?_,λj b q=>?_,S.inj,S.old,λb h=>hin b (S.zin b h),?_,S.par,λb h=>hin b (S.pin b h),λp hp=>(S.kep p hp).fr hf hN hN⟩
 ·rcases T8 q with⟨_,z,_⟩|⟨hj,q⟩
  ·cases z
  ·obtain⟨v,e1,r⟩:=S.va j d' q
   exact⟨v,e1,r.fr hf hN hN⟩
 ·rcases T8 q with⟨rfl,z,hl⟩|⟨hj,q⟩
  ·cases z
   obtain⟨d0,q0⟩:=S.dom j a e;obtain⟨a',e1,e2,_⟩:=S.ow j d0 q0;rw[e] at e1;cases e1;exact⟨a,e,e2,h⟩
  ·obtain⟨a',e1,e2,w⟩:=S.ow j d' q
   exact⟨a',e1,e2,w.fr hf hN λz=>hj (S.inj j i a (z▸e1) e)⟩
 ·by_cases hj:j=i
  ·subst hj
   obtain⟨d0,q0⟩:=S.dom j b q;exact⟨d,by rw[Db (Ah.mp q0).1]⟩
  ·obtain⟨d0,q0⟩:=S.dom j b q
   exact⟨d0,by rw[Bu (Dk hj)];exact q0⟩
 ·intro b u q n
  have h1:=S.frm b u q n;by_cases hb:b=a
  ·subst hb
   rcases(S.old i b e).2 with z|z
   ·obtain⟨d',q'⟩:=S.dom i b e
    obtain⟨a',e1,_,w⟩:=S.ow i d' q';rw[e] at e1;cases e1;obtain⟨u',q1,hh⟩:=w.soft;rw[h1] at q1;cases q1;exact absurd (n z) hh
   ·rw[q] at z
    cases z
  ·rw[b6 hb]
   exact h1
theorem aS.keepV(S:aS K ml B O H σ δ){ps:List (V×cX)}(h:∀p∈ps,bI K (Nn B O) H (Nn B O) p.1 p.2):aS K ml {B with kp:=ps++B.kp} O H σ δ:=
 ⟨S.len,S.va,S.ow,S.dom,S.inj,S.old,S.zin,S.frm,S.par,S.pin,λp hp=>(Ck.mp hp).elim (h p) (S.kep p)⟩
theorem aS.unkeep{ps:List (V×cX)}(S:aS K ml {B with kp:=ps++B.kp} O H σ δ):aS K ml B O H σ δ:=
 ⟨S.len,S.va,S.ow,S.dom,S.inj,S.old,S.zin,S.frm,S.par,S.pin,λp hp=>S.kep p (Au _ hp)⟩
end
def rz(B:Bs):Ur->Prop:=λa=>B.Z a∨∃i,B.mu i=some a
def av(B:Bs)(O:Nat->Option Ur)(b:Bool):Ur->Prop:=if b then Nn B O else λa=>Nn B O a/\rz B a
def at_(B:Bs)(O:Nat->Option Ur)(b:Bool):Ur->Prop:=if b then Nn B O else λ_=>False
theorem Vx{B:Bs}{O:Nat->Option Ur}{b:Bool}:∀a,at_ B O b a->av B O b a:=λa h=>by
 cases b with
 |true=>exact h
 |false=>exact h.elim
theorem nM{B:Bs}{O:Nat->Option Ur}{b c:Bool}(h:b=true->c=true):∀a,at_ B O b a->at_ B O c a:=λa z=>by
 cases b with
 |true=>rw[h rfl];exact z
 |false=>exact z.elim
theorem aS.rzn{K:Ai}{ml:List Nat}{B:Bs}{O:Nat->Option Ur}{H:Hp}{σ:St}{δ:Ev}(S:aS K ml B O H σ δ):∀a,rz B a->Nn B O a:=λa h=>by
 rcases h with h|⟨i,h⟩
 ·exact .inl h
 ·exact .inr ⟨i,(S.par.2 i (S.par.1 i a h)).trans h⟩
theorem aS.rza{K:Ai}{ml:List Nat}{B:Bs}{O:Nat->Option Ur}{H:Hp}{σ:St}{δ:Ev}(S:aS K ml B O H σ δ){b:Bool}:∀a,rz B a->av B O b a:=λa h=>by
 cases b with
 |true=>exact S.rzn a h
 |false=>exact⟨S.rzn a h,h⟩
theorem OX{B:Bs}{O:Nat->Option Ur}{b c:Bool}(h:b=true->c=true):∀a,av B O b a->av B O c a:=λa z=>by
 cases b with
 |true=>rw[h rfl];exact z
 |false=>cases c with
  |true=>exact z.1
  |false=>exact z
structure Res(K:Ai)(ml:List Nat)(B:Bs)(O:Nat->Option Ur)(H:Hp)(σ:St)(pu bt bi:Bool)(H':Hp)(δ':Ev)(v:V)(d:cX):Prop where
 sta:aS K ml B O H' σ δ'
 frm:Fr (OA O) H H'
 pur:pu=true->aZ H H'
 rep:bI K (av B O bi) H' (at_ B O bt) v d
abbrev VF:=Ev->Option (cX×Ev)
def TV(K:Ai)(ml:List Nat)(pu bt bi:Bool)(f:VF):TE:=λσ H Q=>∃B O δ d δ',aS K ml B O H σ δ/\f δ=some (d,δ')/\∀v H',Res K ml B O H σ pu bt bi H' δ' v d->Q v H'
theorem PE.imp{X:Cx}{e:Ux}{t u:TE}(h:PE X e t)(k:∀σ H Q,u σ H Q->t σ H Q):PE X e u:=λaa s σ H Q I w=>h aa s σ H Q I (k σ H Q w)
theorem PT.imp{X:Cx}{e:Ux}{t u:TT}(h:PT X e t)(k:∀σ H Q,u σ H Q->t σ H Q):PT X e u:=λaa s σ H Q I w=>h aa s σ H Q I (k σ H Q w)
theorem PW.imp{X:Cx}{e:Ux}{t u:TT}(h:PW X e t)(k:∀σ H Q,u σ H Q->t σ H Q):PW X e u:=λc9 aa s σ H Q I w=>h c9 aa s σ H Q I (k σ H Q w)
theorem PA.imp{X:Cx}{e:List Ux}{t u:TA}(h:PA X e t)(k:∀σ H Q,u σ H Q->t σ H Q):PA X e u:=λpos aa s σ H Q I w=>h pos aa s σ H Q I (k σ H Q w)
theorem PS.imp{X:Cx}{e:Vd}{t u:TS}(h:PS X e t)(k:∀D σ H,u D σ H->t D σ H):PS X e u:=λaa s σ H D I w=>h aa s σ H D I (k D σ H w)
theorem W2.imp{X:Cx}{e:List Vd}{t u:TS}(h:W2 X e t)(k:∀D σ H,u D σ H->t D σ H):W2 X e u:=λaa s σ H D I w=>h aa s σ H D I (k D σ H w)
section
variable{X:Cx}{K:Ai}{ml:List Nat}{e a b c:Ux}{pa ta ia pb tb ib pc tc ic:Bool}{fa fb fc:VF}{r:R2}{o:cX->cX->Option cX}{B:Bs}{O:Nat->Option Ur}{H H1 H':Hp}{σ:St}{δ δ':Ev}{v:V}{d:cX}
def fC(d:cX):VF:=λδ=>some (d,δ)
theorem Res.refl{pu bt bi:Bool}(S:aS K ml B O H σ δ)(h:bI K (av B O bi) H (at_ B O bt) v d):Res K ml B O H σ pu bt bi H δ v d:=⟨S,Fr.refl _ _,λ_=>aZ.refl _,h⟩
theorem CM(h:PE X e (tC v))(hr:∀N H M,bI K N H M v d):PE X e (TV K ml true true true (fC d)):=h.imp λσ H Q q0=>by obtain⟨B,O,δ,d',δ',S,q,k⟩:=q0;cases q;exact k v H (Res.refl S (hr _ _ _))
theorem cV{i j pos}:PE X (.Constant (.int i) j pos) (TV K ml true true true (fC (.int i))):=CM gQ λ_ _ _=>.int i
theorem YJ{i j pos}:PE X (.Constant (.bool i) j pos) (TV K ml true true true (fC (.bl i))):=CM fW λ_ _ _=>.bl i
theorem UV{j pos}:PE X (.Constant .none j pos) (TV K ml true true true (fC .non)):=CM rn λ_ _ _=>.non
theorem cI{i j pos}:PE X (.Constant (.str i) j pos) (TV K ml true true true (fC (.str i))):=CM Xv λ_ _ _=>.str i
noncomputable def fV(i:Nat):VF:=λδ=>match δ[i]? with
 |some (.va d)=>some (d,δ)
 |_=>none
noncomputable def fO(i:Nat):VF:=λδ=>match δ[i]? with
 |some (.va d)=>some (d,δ)
 |some (.ow d)=>some (d,δ)
 |_=>none
theorem rK{i:Nat}(h:PE X e (KJ i)):PE X e (TV K ml true true true (fV i)):=h.imp λσ H Q q0=>by
 obtain⟨B,O,δ,d',δ',S,q,k⟩:=q0;unfold fV at q;split at q
 ·rename_i d hd
  cases q;obtain⟨v,e1,r⟩:=S.va i _ hd;exact⟨v,e1,k v H (Res.refl S r)⟩
 ·cases q
theorem fZ{i:Nat}(h:PE X e (KJ i)):PE X e (TV K ml true false true (fO i)):=h.imp λσ H Q q0=>by
 obtain⟨B,O,δ,d',δ',S,q,k⟩:=q0;unfold fO at q;split at q
 ·rename_i d hd
  cases q;obtain⟨v,e1,r⟩:=S.va i _ hd;exact⟨v,e1,k v H (Res.refl S (r.mono (λ_ z=>z) λa z=>z.elim))⟩
 ·rename_i d hd
  cases q;obtain⟨a,e1,e2,w⟩:=S.ow i _ hd;exact⟨.ref a,e2,k _ H (Res.refl S (w.rep λz=>z))⟩
 ·cases q
theorem Res.live{H2:Hp}{v2:V}{d2:cX}(R2:Res K ml B O H1 σ pb tb ib H2 δ' v2 d2)(hs:(pb || (ta&&ia))=true)(h:bI K (av B O ia) H1 (at_ B O ta) v d):bI K (av B O ia) H2 (at_ B O ta) v d:=by
 cases pb with
 |true=>exact h.same (R2.pur rfl)
 |false=>
  have hs:(ta&&ia)=true:=by simpa using hs
  obtain⟨h1,h2⟩:=(Ae _ _).mp hs;subst h1 h2;exact h.fr R2.frm (λa z=>.inr z) λa z=>.inr z
noncomputable def f2(o:cX->cX->Option cX)(fa fb:VF):VF:=λδ=>(fa δ).bind λp=>(fb p.2).bind λq=>(o p.1 q.1).map λc=>(c,q.2)
theorem SE{δ2:Ev}(h:f2 o fa fb δ=some (d,δ2)):∃x δ1 y,fa δ=some (x,δ1)/\fb δ1=some (y,δ2)/\o x y=some d:=by
 unfold f2 at h;cases h1:fa δ with
 |none=>rw[h1] at h;cases h
 |some p=>
  rw[h1] at h;cases h2:fb p.2 with
  |none=>simp[h2] at h
  |some q=>
   simp only[Af,h2] at h;cases h3:o p.1 q.1 with
   |none=>rw[h3] at h;cases h
   |some c=>
    rw[h3] at h;cases h;exact⟨p.1,p.2,q.1,rfl,h2,h3⟩
def PY(K:Ai)(r:R2)(o:cX->cX->Option cX):Prop:=∀(H:Hp) (N N' M M':Ur->Prop) (x y:V) (d e c:cX) (Q:VK),bI K N H M x d->bI K N' H M' y e->o d e=some c->(∀v,(∀H' N M,bI K N H' M v c)->Q v H)->r x y H Q
def OpC(K:Ai)(r:R2)(o:cX->cX->Option cX):Prop:=∀(H:Hp) (N M M':Ur->Prop) (x y:V) (d e c:cX) (Q:VK),bI K N H M x d->bI K N H M' y e->o d e=some c->
 (∀v H',aZ H H'->(∀M,(∀a,M a->∃o,H a=some o)->bI K N H' M v c)->Q v H')->r x y H Q
def OpI(K:Ai)(r:R2)(o:cX->cX->Option cX):Prop:=∀(H:Hp) (N N' M M':Ur->Prop) (x y:V) (d e c:cX) (Q:VK),bI K N H M x d->bI K N' H M' y e->o d e=some c->(∀v,bI K N H N v c->Q v H)->r x y H Q
theorem GB(ho:PY K r o)(hs:(pb || (ta&&ia))=true){Q:VK}(h:TV K ml (pa&&pb) true true (f2 o fa fb) σ H Q):tOp r (TV K ml pa ta ia fa) (TV K ml pb tb ib fb) σ H Q:=by
 obtain⟨B,O,δ,d,δ2,S,q,k⟩:=h;obtain⟨x,δ1,y,h1,h2,h3⟩:=SE q;refine⟨B,O,δ,x,δ1,S,h1,λv1 H1 R1=>⟨B,O,δ1,y,δ2,R1.sta,h2,λv2 H2 R2=>?_⟩⟩;exact ho H2 _ _ _ _ v1 v2 x y d Q (R2.live hs R1.rep) R2.rep h3 λv hv=>k v H2 ⟨R2.sta,R1.frm.trans R2.frm,λz=>by obtain⟨z1,z2⟩:=(Ae _ _).mp z;exact(R1.pur z1).trans (R2.pur z2),hv _ _ _⟩
theorem eI(ho:OpC K r o)(hs:(pb || (ta&&ia))=true){Q:VK}(h:TV K ml (pa&&pb) true (ia&&ib) (f2 o fa fb) σ H Q):tOp r (TV K ml pa ta ia fa) (TV K ml pb tb ib fb) σ H Q:=by obtain⟨B,O,δ,d,δ2,S,q,k⟩:=h;obtain⟨x,δ1,y,h1,h2,h3⟩:=SE q;refine⟨B,O,δ,x,δ1,S,h1,λv1 H1 R1=>⟨B,O,δ1,y,δ2,R1.sta,h2,λv2 H2 R2=>?_⟩⟩;have g1:∀a,av B O (ia&&ib) a->av B O ia a:=OX λz=>((Ae _ _).mp z).1;have g2:∀a,av B O (ia&&ib) a->av B O ib a:=OX λz=>((Ae _ _).mp z).2;refine ho H2 (av B O (ia&&ib)) _ _ v1 v2 x y d Q ((R2.live hs R1.rep).mono g1 λ_ z=>z) (R2.rep.mono g2 λ_ z=>z) h3 λv H3 s3 hv=>k v H3 ⟨R2.sta.same s3,(R1.frm.trans R2.frm).trans s3.fr,λz=>?_,hv _ λa z=>R2.sta.nin z⟩;obtain⟨z1,z2⟩:=(Ae _ _).mp z;exact((R1.pur z1).trans (R2.pur z2)).trans s3
theorem oR(ho:OpI K r o)(hs:(pb || (ta&&ia))=true){Q:VK}(h:TV K ml (pa&&pb) ia ia (f2 o fa fb) σ H Q):tOp r (TV K ml pa ta ia fa) (TV K ml pb tb ib fb) σ H Q:=by
 obtain⟨B,O,δ,d,δ2,S,q,k⟩:=h;obtain⟨x,δ1,y,h1,h2,h3⟩:=SE q;refine⟨B,O,δ,x,δ1,S,h1,λv1 H1 R1=>⟨B,O,δ1,y,δ2,R1.sta,h2,λv2 H2 R2=>?_⟩⟩;exact ho H2 _ _ _ _ v1 v2 x y d Q (R2.live hs R1.rep) R2.rep h3 λv hv=>k v H2 ⟨R2.sta,R1.frm.trans R2.frm,λz=>by obtain⟨z1,z2⟩:=(Ae _ _).mp z;exact(R1.pur z1).trans (R2.pur z2),hv.mono (λ_ z=>z) Vx⟩
theorem YM{op:Operator}{pos:Pos}(ho:W5 X (Fm op) r)(hv:PY K r o)(ha:PE X a (TV K ml pa ta ia fa))(hb:PE X b (TV K ml pb tb ib fb))(hs:(pb || (ta&&ia))=true:=by rfl):PE X (.BinOp a op b pos) (TV K ml (pa&&pb) true true (f2 o fa fb)):=
 (Xq ho ha hb).imp λ_ _ _ h=>GB hv hs h
theorem aH{op:Operator}{pos:Pos}(ho:W5 X (Fm op) r)(hv:OpC K r o)(ha:PE X a (TV K ml pa ta ia fa))(hb:PE X b (TV K ml pb tb ib fb))(hs:(pb || (ta&&ia))=true:=by rfl):PE X (.BinOp a op b pos) (TV K ml (pa&&pb) true (ia&&ib) (f2 o fa fb)):=
 (Xq ho ha hb).imp λ_ _ _ h=>eI hv hs h
theorem YK{op:CmpOp}{pos:Pos}(ho:W5 X (De op) r)(hv:PY K r o)(ha:PE X a (TV K ml pa ta ia fa))(hb:PE X b (TV K ml pb tb ib fb))(hm:Hy op b=false)(hs:(pb || (ta&&ia))=true:=by rfl):PE X (.Compare a [op] [b] pos) (TV K ml (pa&&pb) true true (f2 o fa fb)):=
 (eB ho ha hb hm).imp λ_ _ _ h=>GB hv hs h
theorem mO{pos:Pos}(ho:AK X r)(hv:OpI K r o)(ha:PE X a (TV K ml pa ta ia fa))(hb:PE X b (TV K ml pb tb ib fb))(hx:IU b)(hs:(pb || (ta&&ia))=true:=by rfl):PE X (.Subscript a b pos) (TV K ml (pa&&pb) ia ia (f2 o fa fb)):=
 (jK ho ha hb hx).imp λ_ _ _ h=>oR hv hs h
noncomputable def oI(C:Int->Int->Bool)(g:Int->Int->cX):cX->cX->Option cX
 |.int i,.int j=>if C i j=true then some (g i j) else none
 |_,_=>none
theorem Ym{C:Int->Int->Bool}{g:Int->Int->cX}{d e c:cX}(h:oI C g d e=some c):∃i j,d=.int i/\e=.int j/\C i j=true/\c=g i j:=by
 unfold oI at h;split at h
 ·split at h
  ·rename_i hc
   cases h;exact⟨_,_,rfl,rfl,hc,rfl⟩
  ·cases h
 ·cases h
theorem DQ{C:Int->Int->Prop}{C':Int->Int->Bool}{g:Int->Int->V}{g':Int->Int->cX}(hC:∀i j,C' i j=true->C i j)(hg:∀i j N H M,bI K N H M (g i j) (g' i j)):PY K (rI C g) (oI C' g'):=by intro H N N' M M' x y d e c Q hx hy h k;obtain⟨i,j,rfl,rfl,hc,rfl⟩:=Ym h;cases hx;cases hy;exact⟨_,_,rfl,rfl,hC _ _ hc,k _ λ_ _ _=>hg ..⟩
theorem N4{g:Int->Int->V}{g':Int->Int->cX}(hg:∀i j N H M,bI K N H M (g i j) (g' i j)):PY K (FV g) (oI (λ_ _=>true) g'):=by intro H N N' M M' x y d e c Q hx hy h k;obtain⟨i,j,rfl,rfl,hc,rfl⟩:=Ym h;cases hx;cases hy;exact⟨_,_,rfl,rfl,k _ λ_ _ _=>hg ..⟩
noncomputable def cMul(i j:Int):Bool:=(decide (-18446744073709551616<i)&&decide (i<18446744073709551616)) || (decide (-18446744073709551616<j)&&decide (j<18446744073709551616))
noncomputable def cDiv(i j:Int):Bool:=decide (0<j)&&decide (j<1073741824)
def cPow(i j:Int):Bool:=decide (0<=j)&&decide (j<=1000000)&&decide (i.natAbs<18446744073709551616)
abbrev N0:=oI (λ_ _=>true) λi j=>.int (i - j)
abbrev oMul:=oI cMul λi j=>.int (i*j)
abbrev DM:=oI cDiv λi j=>.int (i/j)
noncomputable abbrev J3:=oI (λ_ j=>decide (0<j)) λi j=>.int (i % j)
abbrev oPow:=oI cPow λi j=>.int (i ^ j.toNat)
abbrev oLt:=oI (λ_ _=>true) λi j=>.bl (decide (i<j))
abbrev oLe:=oI (λ_ _=>true) λi j=>.bl (decide (i<=j))
abbrev oGt:=oI (λ_ _=>true) λi j=>.bl (decide (j<i))
abbrev oGe:=oI (λ_ _=>true) λi j=>.bl (decide (j<=i))
theorem QA:PY K (FV λi j=>.int (i - j)) N0:=N4 λi j _ _ _=>.int _
theorem nW:PY K (rI AF λi j=>.int (i*j)) oMul:=DQ (λi j h=>by
 have p:(2:Int) ^ 64=18446744073709551616:=by decide
 unfold AF;rw[p];simpa[cMul] using h) λi j _ _ _=>.int _
theorem Wq:PY K (rI CDiv λi j=>.int (i/j)) DM:=DQ (λi j h=>by show 0<j/\j<1073741824;simpa[cDiv] using h) λi j _ _ _=>.int _
theorem P9:PY K (rI (λ_ j=>0<j) λi j=>.int (i % j)) J3:=DQ (λi j h=>by simpa using h) λi j _ _ _=>.int _
theorem rW:PY K (rI CPow λi j=>.int (i ^ j.toNat)) oPow:=DQ (λi j h=>by
 have p:(2:Nat) ^ 64=18446744073709551616:=by decide
 unfold CPow;rw[p];simpa[cPow,and_assoc] using h) λi j _ _ _=>.int _
theorem s_lt:PY K (FV λi j=>.bl (decide (i<j))) oLt:=N4 λi j _ _ _=>.bl _
theorem s_le:PY K (FV λi j=>.bl (decide (i<=j))) oLe:=N4 λi j _ _ _=>.bl _
theorem s_gt:PY K (FV λi j=>.bl (decide (j<i))) oGt:=N4 λi j _ _ _=>.bl _
theorem s_ge:PY K (FV λi j=>.bl (decide (j<=i))) oGe:=N4 λi j _ _ _=>.bl _
def LW(d:cX):Bool:=d.isD&&Ep d.pd
def eqD(d e:cX):Bool:=Jp d.pd e.pd
def WZ(d e:cX):Option cX:=if(LW d&&LW e)=true then some (.bl (eqD d e)) else none
def QW(d e:cX):Option cX:=if(LW d&&LW e)=true then some (.bl (!eqD d e)) else none
theorem s_eq:PY K (rEqD K) WZ:=by
 intro H N N' M M' x y d e c Q hx hy h k;unfold WZ at h;split at h
 ·rename_i hh
  cases h;simp only[LW,Ae] at hh;exact⟨d.pd,e.pd,hx.dp hh.1.1,hy.dp hh.2.1,hh.1.2,hh.2.2,k _ λ_ _ _=>.bl _⟩
 ·cases h
theorem OF:PY K (rNeD K) QW:=by
 intro H N N' M M' x y d e c Q hx hy h k;unfold QW at h;split at h
 ·rename_i hh
  cases h;simp only[LW,Ae] at hh;exact⟨d.pd,e.pd,hx.dp hh.1.1,hy.dp hh.2.1,hh.1.2,hh.2.2,k _ λ_ _ _=>.bl _⟩
 ·cases h
noncomputable def isN:cX->Bool
 |.non=>true
 |_=>false
noncomputable def FK:cX->cX->Option cX
 |d,.non=>some (.bl (isN d))
 |_,_=>none
def NZ:cX->cX->Option cX
 |d,.non=>some (.bl (!isN d))
 |_,_=>none
theorem D4{N M:Ur->Prop}(h:bI K N H M v d):decide (v=V.non)=isN d:=by
 cases h<;>simp[isN]
theorem eS:PY K (λx y H Q=>y=.non/\Q (.bl (decide (x=.non))) H) FK:=by
  intro H N N' M M' x y d e c Q hx hy h k;cases hy<;>first
    | (cases h
       refine⟨rfl,?_⟩;rw[D4 hx];exact k _ λ_ _ _=>.bl _)
    |(simp[FK] at h)
theorem jR:PY K (λx y H Q=>y=.non/\Q (.bl (!decide (x=.non))) H) NZ:=by
  intro H N N' M M' x y d e c Q hx hy h k;cases hy<;>first
    | (cases h
       refine⟨rfl,?_⟩;rw[D4 hx];exact k _ λ_ _ _=>.bl _)
    |(simp[NZ] at h)
noncomputable def YG:cX->Option (List cX)
 |.tup ds=>some ds
 |.lst ds=>some ds
 |_=>none
theorem bI.seq{N M:Ur->Prop}{ds:List cX}(h:bI K N H M v d)(e:YG d=some ds):∃a xs,v=.ref a/\(YA K H a xs∨WM K H a xs)/\cD K N H xs ds:=by
 cases h<;>first
  |(cases e;rename_i q r;exact⟨_,_,rfl,.inr q,r⟩)
  |(cases e;rename_i q n r;exact⟨_,_,rfl,.inl (YA.of q),r⟩)
  |(cases e;rename_i q r;exact⟨_,_,rfl,.inl q.sq,r⟩)
  |cases e
theorem kZ{N:Ur->Prop}{xs:List V}{ds:List cX}{i:Int}(r:cD K N H xs ds)(h:T0 ds i=some d):∃v,T0 xs i=some v/\bI K N H N v d:=by
 unfold T0 at h⊢;rw[r.length];cases hi:ixN ds.length i with
 |none=>rw[hi] at h;cases h
 |some j=>
  rw[hi] at h;exact r.get h
end
section
variable{X:Cx}{K:Ai}{ml:List Nat}{e a b c:Ux}{es:List Ux}{pa ta ia pb tb ib pc tc ic pu bt bi ps bs:Bool}{fa fb fc:VF}{r r':R2}{o o':cX->cX->Option cX}{B:Bs}{O:Nat->Option Ur}{H H1 H':Hp}{σ:St}{δ δ':Ev}{v:V}{d:cX}{p:Ur}{pos:Pos}
theorem aS.unadd(S:aS K ml (B.add p) O H σ δ):aS K ml B O H σ δ where
 len:=S.len
 va:=λi d e=>let ⟨v,a,b⟩:=S.va i d e;⟨v,a,b.mono SU SU⟩
 ow:=λi d e=>let ⟨a,b,c,w⟩:=S.ow i d e;⟨a,b,c,w.mono SU⟩
 dom:=S.dom
 inj:=S.inj
 old:=λi a h=>⟨λz=>(S.old i a h).1 (.inl z),(S.old i a h).2⟩
 zin:=λa h=>S.zin a (.inl h)
 frm:=S.frm
 par:=S.par
 pin:=S.pin
 kep:=λp h=>(S.kep p h).mono SU SU
structure ResN(K:Ai)(ml:List Nat)(B:Bs)(O:Nat->Option Ur)(H:Hp)(σ:St)(pu:Bool)(H':Hp)(δ':Ev)(p:Ur)(d:cX):Prop where
 sta:aS K ml (B.add p) O H' σ δ'
 frm:Fr (OA O) H H'
 pur:pu=true->aZ H H'
 own:OV K (Nn (B.add p) O) H' p d
 nz:¬Nn B O p
 h0:B.H0 p=none
def TN(K:Ai)(ml:List Nat)(pu:Bool)(f:VF):TE:=λσ H Q=>∃B O δ d δ',aS K ml B O H σ δ/\f δ=some (d,δ')/\∀p H',ResN K ml B O H σ pu H' δ' p d->Q (.ref p) H'
theorem bX{f:VF}(h:PE X e (TN K ml pu f)):PE X e (TV K ml pu true true f):=h.imp λσ H Q ⟨B,O,δ,d,δ',S,q,k⟩=>
 ⟨B,O,δ,d,δ',S,q,λp H' R=>k _ H' ⟨R.sta.unadd,R.frm,R.pur,(R.own.mono SU).rep R.nz⟩⟩
theorem mkN{xs:List V}{ds:List cX}(S:aS K ml B O H1 σ δ')(f:Fr (OA O) H H1)(s:pu=true->aZ H H1)(hp:H1 p=none)(r:cD K (Nn B O) H1 xs ds):ResN K ml B O H σ pu (upd H1 p (.lst xs)) δ' p (.lst ds):=
 ⟨S.laid hp,f.trans (cQ hp).fr,λz=>(s z).trans (cQ hp),.lst cF ((r.away hp _ _ WO).same (cQ hp)),S.new hp,S.fresh hp⟩
theorem mkD(S:aS K ml B O H1 σ δ')(f:Fr (OA O) H H1)(s:pu=true->aZ H H1)(hp:H1 p=none):ResN K ml B O H σ pu (upd H1 p (.dK [])) δ' p (.dct [] []):=
 ⟨S.laid hp,f.trans (cQ hp).fr,λz=>(s z).trans (cQ hp),.dct (kvs:=[]) cF .nil,S.new hp,S.fresh hp⟩
theorem pH:PE X (.Dict [] [] pos) (TN K ml true (fC (.dct [] []))):=zBZ.imp λσ H Q q0=>by obtain⟨B,O,δ,d,δ',S,q,k⟩:=q0;cases q;exact λp hp=>k p _ (mkD S (Fr.refl _ _) (λ_=>aZ.refl _) hp)
abbrev OW:=Ev->Option (List cX×Ev)
structure ResA(K:Ai)(ml:List Nat)(B:Bs)(O:Nat->Option Ur)(H:Hp)(σ:St)(pu b:Bool)(H':Hp)(δ':Ev)(vs:List V)(ds:List cX):Prop where
 sta:aS K ml B O H' σ δ'
 frm:Fr (OA O) H H'
 pur:pu=true->aZ H H'
 rep:cD K (av B O b) H' vs ds
def TAV(K:Ai)(ml:List Nat)(pu b:Bool)(f:OW):TA:=λσ H Q=>∃B O δ d δ',aS K ml B O H σ δ/\f δ=some (d,δ')/\∀vs H',ResA K ml B O H σ pu b H' δ' vs d->Q vs H'
def b9:OW:=λδ=>some ([],δ)
noncomputable def cS(fa:VF)(fs:OW):OW:=λδ=>(fa δ).bind λp=>(fs p.2).map λq=>(p.1::q.1,q.2)
theorem BD{fs:OW}{ds:List cX}(h:cS fa fs δ=some (ds,δ')):∃x δ1 xs,fa δ=some (x,δ1)/\fs δ1=some (xs,δ')/\ds=x::xs:=by
 unfold cS at h;cases h1:fa δ with
 |none=>rw[h1] at h;cases h
 |some p=>
  rw[h1] at h;cases h2:fs p.2 with
  |none=>simp[h2] at h
  |some q=>
   simp only[Af,h2] at h;cases h;exact⟨p.1,p.2,q.1,rfl,h2,rfl⟩
theorem cM:PA X [] (TAV K ml true true b9):=ZY.imp λσ H Q q0=>by obtain⟨B,O,δ,d,δ',S,q,k⟩:=q0;cases q;exact k [] H ⟨S,Fr.refl _ _,λ_=>aZ.refl _,.nil⟩
theorem cW{fs:OW}(ha:PE X a (TV K ml pa ta ia fa))(hr:PA X es (TAV K ml ps bs fs))(hs:Us (a::es) X.env=(false,eval a X.env)::Us es X.env:=by rfl)(hl:(ps || (ta&&ia))=true:=by rfl)(ht:ta=true:=by rfl):
  PA X (a::es) (TAV K ml (pa&&ps) (ta&&ia&&bs) (cS fa fs)):=(bM ha hr hs).imp λσ H Q ⟨B,O,δ,d,δ2,S,q,k⟩=>by
 obtain⟨x,δ1,xs,h1,h2,rfl⟩:=BD q;refine⟨B,O,δ,x,δ1,S,h1,λv1 H1 R1=>⟨B,O,δ1,xs,δ2,R1.sta,h2,λvs H2 R2=>k _ H2 ⟨R2.sta,R1.frm.trans R2.frm,λz=>?_,?_⟩⟩⟩
 ·obtain⟨z1,z2⟩:=(Ae _ _).mp z
  exact(R1.pur z1).trans (R2.pur z2)
 ·have g : ∀ c,((ta && ia && bs) = true -> c = true) -> ∀ a,av B O (ta && ia && bs) a -> av B O c a := λc h => OX h
  have g1:=g ta λz=>by simp only[Ae] at z;exact z.1.1
  have g2:=g ia λz=>by simp only[Ae] at z;exact z.1.2
  have g3:=g bs λz=>by simp only[Ae] at z;exact z.2
  refine .cons ?_ (R2.rep.mono g3);have h:bI K (av B O ia) H2 (at_ B O ta) v1 x:=by
   cases ps with
   |true=>exact R1.rep.same (R2.pur rfl)
   |false=>
    have hs:(ta&&ia)=true:=by simpa using hl
    obtain⟨h1,h2⟩:=(Ae _ _).mp hs;subst h1 h2;exact R1.rep.fr R2.frm (λa z=>.inr z) λa z=>.inr z
  subst ht;exact h.mono g2 g1
theorem aS.lone(S:aS K ml B O H σ δ){i:Nat}{x:cX}(hm:i∉ml)(h:fO i δ=some (x,δ')):δ'=δ/\∃v,σ[i]?=some (some v)/\bI K (av B O false) H (av B O false) v x:=by
 unfold fO at h;split at h
 ·rename_i d hd
  cases h;obtain⟨v,e1,r⟩:=S.va i _ hd;exact⟨rfl,v,e1,r.mono (λa z=>z.1) λa z=>z.1⟩
 ·rename_i d hd
  cases h;obtain⟨a,e1,e2,w⟩:=S.ow i _ hd;refine⟨rfl,.ref a,e2,(w.mono λa z=>z.1).rep λz=>?_⟩;rcases z.2 with z|⟨j,z⟩
  ·exact(S.old i a e1).1 z
  ·have hj:=S.par.1 j a z
   have:i=j:=S.inj i j a e1 ((S.par.2 j hj).trans z);exact hm (this▸hj)
 ·cases h
noncomputable def Z1(fs:OW):VF:=λδ=>(fs δ).bind λp=>if p.1.length<=16777216 then some (.tup p.1,p.2) else none
noncomputable def aA(fs:OW):VF:=λδ=>(fs δ).bind λp=>if p.1.length<=16777216 then some (.lst p.1,p.2) else none
theorem NI{fs:OW}{g:List cX->cX}(h:((fs δ).bind λp=>if p.1.length<=16777216 then some (g p.1,p.2) else none)=some (d,δ')):∃ds,fs δ=some (ds,δ')/\ds.length<=16777216/\d=g ds:=by
 cases h1:fs δ with
 |none=>rw[h1] at h;cases h
 |some p=>
  rw[h1] at h;have h:(if p.1.length<=16777216 then some (g p.1,p.2) else none)=some (d,δ'):=h;split at h
  ·cases h
   exact⟨p.1,rfl,by assumption,rfl⟩
  ·cases h
theorem bL{x1}{fs:OW}(h:PA X es (TAV K ml pu bs fs)):PE X (.Tuple es x1 pos) (TV K ml pu true bs (Z1 fs)):=(Wx h).imp λσ H Q q0=>by obtain⟨B,O,δ,d,δ',S,q,k⟩:=q0;obtain⟨ds,h1,hl,rfl⟩:=NI (g:=cX.tup) q;refine⟨B,O,δ,ds,δ',S,h1,λvs H1 R=>⟨by rw[R.rep.length,Bt];exact hl,λp hp=>k _ _ ⟨R.sta.same (cQ hp),R.frm.trans (cQ hp).fr,λz=>(R.pur z).trans (cQ hp),.tup (WM.of cF) (R.rep.same (cQ hp))⟩⟩⟩
theorem lN{fs:OW}(h:PA X es (TAV K ml pu bs fs)):PE X (.List es pos) (TV K ml pu true bs (aA fs)):=(Wy h).imp λσ H Q q0=>by obtain⟨B,O,δ,d,δ',S,q,k⟩:=q0;obtain⟨ds,h1,hl,rfl⟩:=NI (g:=cX.lst) q;refine⟨B,O,δ,ds,δ',S,h1,λvs H1 R=>⟨by rw[R.rep.length,Bt];exact hl,λp hp=>k _ _ ⟨R.sta.same (cQ hp),R.frm.trans (cQ hp).fr,λz=>(R.pur z).trans (cQ hp),.lst cF (R.sta.new hp) (R.rep.same (cQ hp))⟩⟩⟩
theorem bH{fs:OW}(h:PA X es (TAV K ml pu true fs)):PE X (.List es pos) (TN K ml pu (aA fs)):=(Wy h).imp λσ H Q q0=>by obtain⟨B,O,δ,d,δ',S,q,k⟩:=q0;obtain⟨ds,h1,hl,rfl⟩:=NI (g:=cX.lst) q;exact⟨B,O,δ,ds,δ',S,h1,λvs H1 R=>⟨by rw[R.rep.length,Bt];exact hl,λp hp=>k p _ (mkN R.sta R.frm R.pur hp R.rep)⟩⟩
abbrev VB:=Ev->Option (Bool×Ev)
structure AQ(K:Ai)(ml:List Nat)(B:Bs)(O:Nat->Option Ur)(H:Hp)(σ:St)(pu:Bool)(H':Hp)(δ':Ev):Prop where
 sta:aS K ml B O H' σ δ'
 frm:Fr (OA O) H H'
 pur:pu=true->aZ H H'
def TB(K:Ai)(ml:List Nat)(pu:Bool)(f:VB):TT:=λσ H Q=>∃B O δ k δ',aS K ml B O H σ δ/\f δ=some (k,δ')/\∀H',AQ K ml B O H σ pu H' δ'->Q k H'
noncomputable def fB(f:VF):VB:=λδ=>(f δ).bind λp=>match p.1 with
 |.bl k=>some (k,p.2)
 |_=>none
theorem mS{f:VF}{k:Bool}(h:fB f δ=some (k,δ')):f δ=some (.bl k,δ'):=by
 unfold fB at h;cases h1:f δ with
 |none=>rw[h1] at h;cases h
 |some p=>
  obtain⟨x,δ1⟩:=p;rw[h1] at h;cases x<;>first
   |(cases h;rfl)
   |cases h
theorem KL{f:VF}{t:TE}(ht:∀σ H Q,TV K ml pu bt bi f σ H Q->t σ H Q){Q:Bool->Hp->Prop}(h:TB K ml pu (fB f) σ H Q):t σ H λx H'=>∃k,x=.bl k/\Q k H':=by obtain⟨B,O,δ,k,δ',S,q,w⟩:=h;refine ht σ H _ ⟨B,O,δ,.bl k,δ',S,mS q,λv H' R=>⟨k,?_,w H' ⟨R.sta,R.frm,R.pur⟩⟩⟩;cases R.rep;rfl
theorem bA{op:CmpOp}(ho:W5 X (De op) r)(hv:PY K r o)(ha:PE X a (TV K ml pa ta ia fa))(hb:PE X b (TV K ml pb tb ib fb))(hm:Hy op b=false)(hs:(pb || (ta&&ia))=true:=by rfl):PT X (.Compare a [op] [b] pos) (TB K ml (pa&&pb) (fB (f2 o fa fb))):=
 (eZ ho ha hb hm).imp λ_ _ _ h=>KL (λ_ _ _=>GB hv hs) h
theorem Z6{f:VF}(h:PE X e (TV K ml pu bt bi f))(he:∀c9,isTrue e X.env c9=(do let v<-c9;Ml e.pos;Ti [v] (truthy v)):=by intro _;rfl):PT X e (TB K ml pu (fB f)):=
 (mP h he).imp λ_ _ _ h=>KL (λ_ _ _ z=>z) h
noncomputable def PQ(x y:VB):VB:=λδ=>(x δ).bind λp=>if p.1=true then y p.2 else some (false,p.2)
noncomputable def EX(x y:VB):VB:=λδ=>(x δ).bind λp=>if p.1=true then some (true,p.2) else y p.2
noncomputable def VC(x:VB):VB:=λδ=>(x δ).map λp=>(!p.1,p.2)
theorem AQ.refl(S:aS K ml B O H σ δ):AQ K ml B O H σ pu H δ:=⟨S,Fr.refl _ _,λ_=>aZ.refl _⟩
theorem fJ{x y:VB}{Q:Bool->Hp->Prop}(h:TB K ml (pa&&pb) (PQ x y) σ H Q):tAnd (TB K ml pa x) (TB K ml pb y) σ H Q:=by
 obtain⟨B,O,δ,k,δ',S,q,w⟩:=h;unfold PQ at q;cases h1:x δ with
 |none=>rw[h1] at q;cases q
 |some p=>
  obtain⟨kk,δ1⟩:=p;rw[h1] at q;refine⟨B,O,δ,kk,δ1,S,h1,λH1 R1=>?_⟩;cases kk with
  |true=>
   have q:y δ1=some (k,δ'):=q;exact RL ⟨B,O,δ1,k,δ',R1.sta,q,λH2 R2=>w H2 ⟨R2.sta,R1.frm.trans R2.frm,λz=>by obtain⟨z1,z2⟩:=(Ae _ _).mp z;exact(R1.pur z1).trans (R2.pur z2)⟩⟩
  |false=>
   have q:some (false,δ1)=some (k,δ'):=q;cases q;exact RK (w H1 ⟨R1.sta,R1.frm,λz=>R1.pur ((Ae _ _).mp z).1⟩)
theorem iQ{x y:VB}{Q:Bool->Hp->Prop}(h:TB K ml (pa&&pb) (EX x y) σ H Q):tOr (TB K ml pa x) (TB K ml pb y) σ H Q:=by
 obtain⟨B,O,δ,k,δ',S,q,w⟩:=h;unfold EX at q;cases h1:x δ with
 |none=>rw[h1] at q;cases q
 |some p=>
  obtain⟨kk,δ1⟩:=p;rw[h1] at q;refine⟨B,O,δ,kk,δ1,S,h1,λH1 R1=>?_⟩;cases kk with
  |false=>
   have q:y δ1=some (k,δ'):=q;exact RK ⟨B,O,δ1,k,δ',R1.sta,q,λH2 R2=>w H2 ⟨R2.sta,R1.frm.trans R2.frm,λz=>by obtain⟨z1,z2⟩:=(Ae _ _).mp z;exact(R1.pur z1).trans (R2.pur z2)⟩⟩
  |true=>
   have q:some (true,δ1)=some (k,δ'):=q;cases q;exact RL (w H1 ⟨R1.sta,R1.frm,λz=>R1.pur ((Ae _ _).mp z).1⟩)
theorem YV{x:VB}(h:PT X a (TB K ml pu x)):PT X (.UnaryOp .Not a pos) (TB K ml pu (VC x)):=(kS h).imp λσ H Q q0=>by
 obtain⟨B,O,δ,k,δ',S,q,w⟩:=q0;unfold VC at q;cases h1:x δ with
 |none=>rw[h1] at q;cases q
 |some p=>
  rw[h1] at q;cases q;exact⟨B,O,δ,p.1,p.2,S,h1,w⟩
theorem PJ{x:VB}(h:PT X a (TB K ml pu x)):PW X (.BoolOp .And [a] pos) (TB K ml pu x):=lF h
theorem WL{x:VB}(h:PT X a (TB K ml pu x)):PW X (.BoolOp .Or [a] pos) (TB K ml pu x):=iY h
theorem KO{x y:VB}(ha:PT X a (TB K ml pa x))(hb:PW X (.BoolOp .And (b::es) pos) (TB K ml pb y)):PW X (.BoolOp .And (a::b::es) pos) (TB K ml (pa&&pb) (PQ x y)):=(dR ha hb).imp λ_ _ _ h=>fJ h
theorem TD{x y:VB}(ha:PT X a (TB K ml pa x))(hb:PW X (.BoolOp .Or (b::es) pos) (TB K ml pb y)):PW X (.BoolOp .Or (a::b::es) pos) (TB K ml (pa&&pb) (EX x y)):=(lU ha hb).imp λ_ _ _ h=>iQ h
theorem R6{x:VB}(h:PW X e (TB K ml pu x)):PT X e (TB K ml pu x):=h.pt
noncomputable def U2(x y:VF):VF:=λδ=>(x δ).bind λp=>match p.1 with
 |.bl true=>y p.2
 |.bl false=>some (.bl false,p.2)
 |_=>none
noncomputable def fOr(x y:VF):VF:=λδ=>(x δ).bind λp=>match p.1 with
 |.bl false=>y p.2
 |.bl true=>some (.bl true,p.2)
 |_=>none
noncomputable def fNot(x:VF):VF:=λδ=>(x δ).bind λp=>match p.1 with
 |.bl k=>some (.bl (!k),p.2)
 |_=>none
theorem YL{op}{f:VF}(h:PE X a (TV K ml pu bt bi f)):PE X (.BoolOp op [a] pos) (TV K ml pu bt bi f):=eL h
theorem YI(ha:PE X a (TV K ml pa ta ia fa))(hb:PE X (.BoolOp .And (b::es) pos) (TV K ml pb tb ib fb)):PE X (.BoolOp .And (a::b::es) pos) (TV K ml (pa&&pb) tb ib (U2 fa fb)):=(oW ha hb).imp λσ H Q q0=>by
 obtain⟨B,O,δ,d,δ',S,q,k⟩:=q0;unfold U2 at q;cases h1:fa δ with
 |none=>rw[h1] at q;cases q
 |some p=>
  obtain⟨x,δ1⟩:=p;rw[h1] at q;refine⟨B,O,δ,x,δ1,S,h1,λv1 H1 R1=>?_⟩;cases x with
  |bl kk=>
   have e1:v1=.bl kk:=by cases R1.rep;rfl
   refine⟨kk,e1,?_⟩;cases kk with
   |true=>
    exact RL ⟨B,O,δ1,d,δ',R1.sta,q,λv2 H2 R2=>k v2 H2 ⟨R2.sta,R1.frm.trans R2.frm,λz=>by obtain⟨z1,z2⟩:=(Ae _ _).mp z;exact(R1.pur z1).trans (R2.pur z2),R2.rep⟩⟩
   |false=>
    cases q;exact RK (k _ H1 ⟨R1.sta,R1.frm,λz=>R1.pur ((Ae _ _).mp z).1,.bl _⟩)
  |_=>cases q
theorem Yi(ha:PE X a (TV K ml pa ta ia fa))(hb:PE X (.BoolOp .Or (b::es) pos) (TV K ml pb tb ib fb)):PE X (.BoolOp .Or (a::b::es) pos) (TV K ml (pa&&pb) tb ib (fOr fa fb)):=(gZ ha hb).imp λσ H Q q0=>by
 obtain⟨B,O,δ,d,δ',S,q,k⟩:=q0;unfold fOr at q;cases h1:fa δ with
 |none=>rw[h1] at q;cases q
 |some p=>
  obtain⟨x,δ1⟩:=p;rw[h1] at q;refine⟨B,O,δ,x,δ1,S,h1,λv1 H1 R1=>?_⟩;cases x with
  |bl kk=>
   have e1:v1=.bl kk:=by cases R1.rep;rfl
   refine⟨kk,e1,?_⟩;cases kk with
   |false=>
    exact RK ⟨B,O,δ1,d,δ',R1.sta,q,λv2 H2 R2=>k v2 H2 ⟨R2.sta,R1.frm.trans R2.frm,λz=>by obtain⟨z1,z2⟩:=(Ae _ _).mp z;exact(R1.pur z1).trans (R2.pur z2),R2.rep⟩⟩
   |true=>
    cases q;exact RL (k _ H1 ⟨R1.sta,R1.frm,λz=>R1.pur ((Ae _ _).mp z).1,.bl _⟩)
  |_=>cases q
theorem eO(ha:PE X a (TV K ml pa ta ia fa)):PE X (.UnaryOp .Not a pos) (TV K ml pa true true (fNot fa)):=(gJ ha).imp λσ H Q q0=>by
 obtain⟨B,O,δ,d,δ',S,q,k⟩:=q0;unfold fNot at q;cases h1:fa δ with
 |none=>rw[h1] at q;cases q
 |some p=>
  obtain⟨x,δ1⟩:=p;rw[h1] at q;refine⟨B,O,δ,x,δ1,S,h1,λv1 H1 R1=>?_⟩;cases x with
  |bl kk=>
   have e1:v1=.bl kk:=by cases R1.rep;rfl
   cases q;exact⟨kk,e1,k _ H1 ⟨R1.sta,R1.frm,R1.pur,.bl _⟩⟩
  |_=>cases q
def fIf(t:VB)(x y:VF):VF:=λδ=>(t δ).bind λp=>if p.1=true then x p.2 else y p.2
theorem OP{t:VB}(ht:PT X c (TB K ml pc t))(ha:PE X a (TV K ml pa ta ia fa))(hb:PE X b (TV K ml pb tb ib fb)):PE X (.IfExp c a b pos) (TV K ml (pc&&pa&&pb) (ta&&tb) (ia&&ib) (fIf t fa fb)):=(HI ht ha hb).imp λσ H Q q0=>by
 obtain⟨B,O,δ,d,δ',S,q,k⟩:=q0;unfold fIf at q;cases h1:t δ with
 |none=>rw[h1] at q;cases q
 |some p=>
  obtain⟨kk,δ1⟩:=p;rw[h1] at q;refine⟨B,O,δ,kk,δ1,S,h1,λH1 R1=>?_⟩;have g1:∀c,((ta&&tb)=true->c=true)->∀a,at_ B O (ta&&tb) a->at_ B O c a:=λc h=>nM h;have g2:∀c,((ia&&ib)=true->c=true)->∀a,av B O (ia&&ib) a->av B O c a:=λc h=>OX h;cases kk with
  |true=>
   exact RL ⟨B,O,δ1,d,δ',R1.sta,q,λv2 H2 R2=>k v2 H2 ⟨R2.sta,R1.frm.trans R2.frm,λz=>by simp only[Ae] at z;exact(R1.pur z.1.1).trans (R2.pur z.1.2),R2.rep.mono (g2 _ λz=>((Ae _ _).mp z).1) (g1 _ λz=>((Ae _ _).mp z).1)⟩⟩
  |false=>
   exact RK ⟨B,O,δ1,d,δ',R1.sta,q,λv2 H2 R2=>k v2 H2 ⟨R2.sta,R1.frm.trans R2.frm,λz=>by simp only[Ae] at z;exact(R1.pur z.1.1).trans (R2.pur z.2),R2.rep.mono (g2 _ λz=>((Ae _ _).mp z).2) (g1 _ λz=>((Ae _ _).mp z).2)⟩⟩
noncomputable def f3(o o':cX->cX->Option cX)(fa fb fc:VF):VF:=λδ=>(fa δ).bind λp=>(fb p.2).bind λq=>(o p.1 q.1).bind λz=>match z with
 |.bl true=>(fc q.2).bind λs=>(o' q.1 s.1).map λu=>(u,s.2)
 |.bl false=>some (.bl false,q.2)
 |_=>none
theorem IE(ho:PY K r o)(ho':PY K r' o')(hs:(pb || (ta && ia))=true)(hs':(pc || (tb && ib))=true){Q:VK}(h:TV K ml (pa && pb && pc) true true (f3 o o' fa fb fc) σ H Q):F7 r r' (TV K ml pa ta ia fa) (TV K ml pb tb ib fb) (TV K ml pc tc ic fc) σ H Q:=by
 obtain⟨B,O,δ,d,δ3,S,q,k⟩:=h;unfold f3 at q;cases h1:fa δ with
 |none=>rw[h1] at q;cases q
 |some p=>
  obtain⟨x,δ1⟩:=p;rw[h1] at q;cases h2:fb δ1 with
  |none=>simp[h2] at q
  |some p2=>
   obtain⟨y,δ2⟩:=p2;simp only[Af,h2] at q;refine⟨B,O,δ,x,δ1,S,h1,λv1 H1 R1=>⟨B,O,δ1,y,δ2,R1.sta,h2,λv2 H2 R2=>?_⟩⟩;cases h3:o x y with
   |none=>rw[h3] at q;cases q
   |some z=>
    rw[h3] at q;refine ho H2 _ _ _ _ v1 v2 x y z _ (R2.live hs R1.rep) R2.rep h3 λv hv=>?_;have hv:=hv (λ_=>none) (λ_=>True) λ_=>True;cases z with
    |bl kk=>
     have e1:v=.bl kk:=by cases hv;rfl
     refine⟨kk,e1,?_⟩;cases kk with
     |false=>
      cases q;exact RK (k _ H2 ⟨R2.sta,R1.frm.trans R2.frm,λz=>by simp only[Ae] at z;exact(R1.pur z.1.1).trans (R2.pur z.1.2),.bl _⟩)
     |true=>
      have q:((fc δ2).bind λs=>(o' y s.1).map λu=>(u,s.2))=some (d,δ3):=q;cases h4:fc δ2 with
      |none=>rw[h4] at q;cases q
      |some p4=>
       obtain⟨z4,δ4⟩:=p4;rw[h4] at q;have q:((o' y z4).map λu=>(u,δ4))=some (d,δ3):=q;cases h5:o' y z4 with
       |none=>rw[h5] at q;cases q
       |some u=>
        rw[h5] at q;cases q;refine RL ⟨B,O,δ2,z4,_,R2.sta,h4,λv4 H4 R4=>?_⟩;exact ho' H4 _ _ _ _ v2 v4 y z4 d Q (R4.live hs' R2.rep) R4.rep h5 λv hv=>k v H4 ⟨R4.sta,(R1.frm.trans R2.frm).trans R4.frm,λz=>by simp only[Ae] at z;exact((R1.pur z.1.1).trans (R2.pur z.1.2)).trans (R4.pur z.2),hv _ _ _⟩
    |_=>cases q
theorem dP{op op':CmpOp}(ho:W5 X (De op) r)(ho':W5 X (De op') r')(hv:PY K r o)(hv':PY K r' o')(ha:PE X a (TV K ml pa ta ia fa))(hb:PE X b (TV K ml pb tb ib fb))(hc:PE X c (TV K ml pc tc ic fc))(hm:Rv [op,op'] [b,c]=false:=by with_unfolding_all rfl)(hs:(pb || (ta&&ia))=true:=by rfl)(hs':(pc || (tb&&ib))=true:=by rfl):PE X (.Compare a [op,op'] [b,c] pos) (TV K ml (pa&&pb&&pc) true true (f3 o o' fa fb fc)):=
 (kI ho ho' ha hb hc hm).imp λ_ _ _ h=>IE hv hv' hs hs' h
theorem gI{op op':CmpOp}(ho:W5 X (De op) r)(ho':W5 X (De op') r')(hv:PY K r o)(hv':PY K r' o')(ha:PE X a (TV K ml pa ta ia fa))(hb:PE X b (TV K ml pb tb ib fb))(hc:PE X c (TV K ml pc tc ic fc))(hm:Rv [op,op'] [b,c]=false:=by with_unfolding_all rfl)(hs:(pb || (ta&&ia))=true:=by rfl)(hs':(pc || (tb&&ib))=true:=by rfl):PT X (.Compare a [op,op'] [b,c] pos) (TB K ml (pa&&pb&&pc) (fB (f3 o o' fa fb fc))):=
 (lE ho ho' ha hb hc hm).imp λ_ _ _ h=>KL (λ_ _ _=>IE hv hv' hs hs') h
end
section
variable{X:Cx}{K:Ai}{ml:List Nat}{e a b c:Ux}{es:List Ux}{pa ta ia pb tb ib pc tc ic pu bt bi ps bs:Bool}{fa fb fc:VF}{B:Bs}{O:Nat->Option Ur}{H H1 H':Hp}{σ:St}{δ δ':Ev}{v:V}{d:cX}{p:Ur}{pos:Pos}
noncomputable def f1(o:cX->Option cX)(fa:VF):VF:=λδ=>(fa δ).bind λp=>(o p.1).map λc=>(c,p.2)
theorem QM{o:cX->Option cX}(h:f1 o fa δ=some (d,δ')):∃x,fa δ=some (x,δ')/\o x=some d:=by
 unfold f1 at h;cases h1:fa δ with
 |none=>rw[h1] at h;cases h
 |some p=>
  rw[h1] at h;have h:((o p.1).map λc=>(c,p.2))=some (d,δ'):=h;cases h3:o p.1 with
  |none=>rw[h3] at h;cases h
  |some c=>
   rw[h3] at h;cases h;exact⟨p.1,rfl,h3⟩
abbrev RC:=List V->Hp->VK->Prop
def AI(K:Ai)(r:RC)(o:cX->Option cX):Prop:=∀(H:Hp) (N M:Ur->Prop) (x:V) (d c:cX) (Q:VK),bI K N H M x d->o d=some c->(∀v,(∀H' N M,bI K N H' M v c)->Q v H)->r [x] H Q
def CalC(K:Ai)(r:RC)(o:cX->Option cX):Prop:=∀(H:Hp) (N M:Ur->Prop) (x:V) (d c:cX) (Q:VK),bI K N H M x d->o d=some c->
 (∀v H',aZ H H'->(∀M,(∀a,M a->∃o,H a=some o)->bI K N H' M v c)->Q v H')->r [x] H Q
def AH(K:Ai)(r:RC)(o:cX->Option cX):Prop:=∀(H:Hp) (N M:Ur->Prop) (x:V) (d c:cX) (Q:VK),bI K N H M x d->o d=some c->
 (∀p xs ds,H p=none->cD K N H xs ds->c=.lst ds->Q (.ref p) (upd H p (.lst xs)))->r [x] H Q
def M0(K:Ai)(r:RC)(o:cX->cX->Option cX):Prop:=∀(H:Hp) (N N' M M':Ur->Prop) (x y:V) (d e c:cX) (Q:VK),bI K N H M x d->bI K N' H M' y e->o d e=some c->(∀v,(∀H' N M,bI K N H' M v c)->Q v H)->r [x,y] H Q
theorem CK{r:RC}{o:cX->Option cX}(ho:AI K r o){Q:VK}(h:TV K ml pa true true (f1 o fa) σ H Q):tCB r (ME (TV K ml pa ta ia fa) tNil) σ H Q:=by obtain⟨B,O,δ,d,δ',S,q,k⟩:=h;obtain⟨x,h1,h2⟩:=QM q;exact⟨B,O,δ,x,δ',S,h1,λv1 H1 R1=>ho H1 _ _ v1 x d Q R1.rep h2 λv hv=>k v H1 ⟨R1.sta,R1.frm,R1.pur,hv _ _ _⟩⟩
theorem CJ{r:RC}{o:cX->Option cX}(ho:CalC K r o){Q:VK}(h:TV K ml pa true ia (f1 o fa) σ H Q):tCB r (ME (TV K ml pa ta ia fa) tNil) σ H Q:=by obtain⟨B,O,δ,d,δ',S,q,k⟩:=h;obtain⟨x,h1,h2⟩:=QM q;exact⟨B,O,δ,x,δ',S,h1,λv1 H1 R1=>ho H1 _ _ v1 x d Q R1.rep h2 λv H2 s2 hv=>k v H2 ⟨R1.sta.same s2,R1.frm.trans s2.fr,λz=>(R1.pur z).trans s2,hv _ λa z=>R1.sta.nin z⟩⟩
theorem MG{r:RC}{o:cX->Option cX}(ho:AH K r o){Q:VK}(h:TN K ml pa (f1 o fa) σ H Q):tCB r (ME (TV K ml pa ta true fa) tNil) σ H Q:=by obtain⟨B,O,δ,d,δ',S,q,k⟩:=h;obtain⟨x,h1,h2⟩:=QM q;refine⟨B,O,δ,x,δ',S,h1,λv1 H1 R1=>ho H1 _ _ v1 x d Q R1.rep h2 λp xs ds hp hr he=>?_⟩;subst he;exact k p _ (mkN R1.sta R1.frm R1.pur hp hr)
theorem CL{r:RC}{o:cX->cX->Option cX}(ho:M0 K r o)(hs:(pb || (ta&&ia))=true){Q:VK}(h:TV K ml (pa&&pb) true true (f2 o fa fb) σ H Q):tCB r (ME (TV K ml pa ta ia fa) (ME (TV K ml pb tb ib fb) tNil)) σ H Q:=by
 obtain⟨B,O,δ,d,δ2,S,q,k⟩:=h;obtain⟨x,δ1,y,h1,h2,h3⟩:=SE q;refine⟨B,O,δ,x,δ1,S,h1,λv1 H1 R1=>⟨B,O,δ1,y,δ2,R1.sta,h2,λv2 H2 R2=>?_⟩⟩;exact ho H2 _ _ _ _ v1 v2 x y d Q (R2.live hs R1.rep) R2.rep h3 λv hv=>k v H2 ⟨R2.sta,R1.frm.trans R2.frm,λz=>by obtain⟨z1,z2⟩:=(Ae _ _).mp z;exact(R1.pur z1).trans (R2.pur z2),hv _ _ _⟩
section
variable{x:Uw}{p':Pos}{id T:String}{r:RC}
theorem Vw{o:cX->Option cX}(hc:aR X (.builtin id) r)(ho:AI K r o)(hg:Gl X x)(hm:X.mg x=none)(hv:Be x=some (.builtin id))(ha:PE X a (TV K ml pa ta ia fa))(hn:x≠ "__name__":=by decide)(hdb:(x==("__debug__":Uw))=false:=by decide)(he:Us (a::[]) X.env=(false,eval a X.env)::Us [] X.env:=by rfl):PE X (.Call (.Name x p') [a] [] pos) (TV K ml pa true true (f1 o fa)):=
 (N5 hc hg hm hv (bM ha ZY he) hn hdb he).imp λ_ _ _ h=>CK ho h
theorem YH{o:cX->cX->Option cX}(hc:aR X (.builtin id) r)(ho:M0 K r o)(hg:Gl X x)(hm:X.mg x=none)(hv:Be x=some (.builtin id))(ha:PE X a (TV K ml pa ta ia fa))(hb:PE X b (TV K ml pb tb ib fb))(hn:x≠ "__name__":=by decide)(hdb:(x==("__debug__":Uw))=false:=by decide)(he:Us (a::[b]) X.env=(false,eval a X.env)::Us [b] X.env:=by rfl)(he2:Us (b::[]) X.env=(false,eval b X.env)::Us [] X.env:=by rfl)(hpl:(Dv pos (Us [b] X.env)).any (·.1)=false:=by rfl)(hs:(pb || (ta&&ia))=true:=by rfl):PE X (.Call (.Name x p') [a,b] [] pos) (TV K ml (pa&&pb) true true (f2 o fa fb)):=
 (N5 hc hg hm hv (bM ha (bM hb ZY he2) he) hn hdb he hpl).imp λ_ _ _ h=>CL ho hs h
theorem IH{o:cX->Option cX}(hc:aR X (.type T) r)(ho:CalC K r o)(hg:Gl X x)(hm:X.mg x=none)(hv:Be x=some (.type T))(ha:PE X a (TV K ml pa ta ia fa))(hn:x≠ "__name__":=by decide)(hdb:(x==("__debug__":Uw))=false:=by decide)(he:Us (a::[]) X.env=(false,eval a X.env)::Us [] X.env:=by rfl):PE X (.Call (.Name x p') [a] [] pos) (TV K ml pa true ia (f1 o fa)):=
 (V8 hc hg hm hv (bM ha ZY he) hn hdb he).imp λ_ _ _ h=>CJ ho h
theorem Yk{o:cX->Option cX}(hc:aR X (.type T) r)(ho:AH K r o)(hg:Gl X x)(hm:X.mg x=none)(hv:Be x=some (.type T))(ha:PE X a (TV K ml pa ta true fa))(hn:x≠ "__name__":=by decide)(hdb:(x==("__debug__":Uw))=false:=by decide)(he:Us (a::[]) X.env=(false,eval a X.env)::Us [] X.env:=by rfl):PE X (.Call (.Name x p') [a] [] pos) (TN K ml pa (f1 o fa)):=
 (V8 hc hg hm hv (bM ha ZY he) hn hdb he).imp λ_ _ _ h=>MG ho h
theorem Xm{o:cX->Option cX}(hc:aR X (.builtin id) r)(ho:AH K r o)(hg:Gl X x)(hm:X.mg x=none)(hv:Be x=some (.builtin id))(ha:PE X a (TV K ml pa ta true fa))(hn:x≠ "__name__":=by decide)(hdb:(x==("__debug__":Uw))=false:=by decide)(he:Us (a::[]) X.env=(false,eval a X.env)::Us [] X.env:=by rfl):PE X (.Call (.Name x p') [a] [] pos) (TN K ml pa (f1 o fa)):=
 (N5 hc hg hm hv (bM ha ZY he) hn hdb he).imp λ_ _ _ h=>MG ho h
end
noncomputable def Y3:cX->Option cX
 |.tup ds=>some (.int ds.length)
 |.lst ds=>some (.int ds.length)
 |.str z=>if z.length<=16777216 then some (.int z.length) else none
 |_=>none
def rLen(K:Ai):RC:=λxs H Q=>(∃p ys,xs=[.ref p]/\(YA K H p ys∨WM K H p ys)/\Q (.int ys.length) H)∨∃z,xs=[.str z]/\z.length<=sizeLine/\Q (.int z.length) H
theorem pU(h:X.K=K):aR X (.builtin "len") (rLen K):=by subst h;exact JE.or JF
theorem fY:AI K (rLen K) Y3:=by
  intro H N M x d c Q hx h k;cases d<;>first
    | (rename_i ds
       obtain⟨a,xs,rfl,sq,r⟩:=hx.seq rfl;cases h;refine .inl ⟨a,xs,rfl,sq,?_⟩;rw[r.length];exact k _ λ_ _ _=>.int _)
    | (cases hx
       simp only[Y3] at h;split at h
       · cases h
         exact .inr ⟨_,rfl,by rw[Bt];assumption,k _ λ_ _ _=>.int _⟩
       · cases h)
    |cases h
def HF(d:cX):Option cX:=(YG d).map cX.lst
def UO(d:cX):Option cX:=(YG d).map cX.tup
def Wz(K:Ai):RC:=λxs H Q=>∃p ys,xs=[.ref p]/\(YA K H p ys∨WM K H p ys)/\∀l,H l=none->Q (.ref l) (upd H l (.lst ys))
def D1(K:Ai):RC:=λxs H Q=>∃p ys,xs=[.ref p]/\((YA K H p ys/\∀l,H l=none->Q (.ref l) (upd H l (.tup ys)))∨(WM K H p ys/\Q (.ref p) H))
theorem Xg(h:X.K=K):aR X (.type "list") (Wz K):=lW h
theorem RM(h:X.K=K):aR X (.type "tuple") (D1 K):=lJ h
theorem HZ{d:cX}{g:List cX->cX}{c:cX}(h:(YG d).map g=some c):∃ds,YG d=some ds/\c=g ds:=by
 cases h1:YG d with
 |none=>rw[h1] at h;cases h
 |some ds=>rw[h1] at h;cases h;exact⟨ds,rfl,rfl⟩
theorem QT:AH K (Wz K) HF:=by intro H N M x d c Q hx h k;obtain⟨ds,h1,rfl⟩:=HZ h;obtain⟨a,xs,rfl,sq,r⟩:=hx.seq h1;exact⟨a,xs,rfl,sq,λl hl=>k l xs ds hl r rfl⟩
theorem RA:CalC K (D1 K) UO:=by
 intro H N M x d c Q hx h k;obtain⟨ds,h1,rfl⟩:=HZ h;obtain⟨a,xs,rfl,sq,r⟩:=hx.seq h1;rcases sq with sq|sq
 ·exact⟨a,xs,rfl,.inl ⟨sq,λl hl=>k _ _ (cQ hl) λM hM=>.tup (WM.of cF) (r.same (cQ hl))⟩⟩
 ·exact⟨a,xs,rfl,.inr ⟨sq,k _ _ (aZ.refl _) λM hM=>.tup sq r⟩⟩
noncomputable def o2I(g:Int->Int->Int):cX->cX->Option cX
 |.int i,.int j=>some (.int (g i j))
 |_,_=>none
theorem Wj{g:Int->Int->Int}:M0 K (λxs H Q=>∃i j,xs=[.int i,.int j]/\Q (.int (g i j)) H) (o2I g):=by
 intro H N N' M M' x y d e c Q hx hy h k;unfold o2I at h;split at h
 ·cases h
  cases hx;cases hy;exact⟨_,_,rfl,k _ λ_ _ _=>.int _⟩
 ·cases h
abbrev oMax:=o2I λi j=>if j>i then j else i
abbrev oMin:=o2I λi j=>if j<i then j else i
theorem jP:M0 K (λxs H Q=>∃i j,xs=[.int i,.int j]/\Q (.int (if j>i then j else i)) H) oMax:=Wj
theorem kO:M0 K (λxs H Q=>∃i j,xs=[.int i,.int j]/\Q (.int (if j<i then j else i)) H) oMin:=Wj
noncomputable def tyD:cX->Option String
 |.non=>some "NoneType"
 |.bl _=>some "bool"
 |.int _=>some "int"
 |.str _=>some "str"
 |.tup _=>some "tuple"
 |.lst _=>some "list"
 |_=>none
noncomputable def QQ(t n:String):Option Bool:=if((Kv t)==(Kv n))=true then some true else if W.kitMeta n=true then(PySem.fastBuiltinMro t).map (·.contains (.type n)) else none
theorem gW{t n:String}{k:Bool}(h:QQ t n=some k):Hh K (.type t) (.type n)=some k:=h
noncomputable def SV:cX->cX->Option cX
 |d,.ty n=>(tyD d).bind λt=>(QQ t n).map cX.bl
 |_,_=>none
def rIsi(K:Ai):RC:=λxs H Q=>∃x n d N M t k,xs=[x,.ty n]/\bI K N H M x d/\tyD d=some t/\QQ t n=some k/\Q (.bl k) H
theorem AX:aR X (.builtin "isinstance") (rIsi X.K):=by
 intro aa s σ H xs us Q I r h;obtain⟨x,n,d,N,M,t,k,rfl,hx,ht,hk,q⟩:=h;obtain⟨u,c,rfl,rx,rc⟩:=IF r;cases (show c=Kv n from rc);have e:=gW (K:=X.K) hk;have fin:∀tk,EP X aa σ Q (.bool k) {s with toks:=tk}:=λtk=>⟨.bl k,H,I.tok tk,rfl,q⟩;cases hx with
 |non=>cases ht;exact T4 I rx (.non) e fin
 |bl y=>cases ht;exact T4 I rx (.bl y) e fin
 |int i=>cases ht;exact T4 I rx (.int i) e fin
 |str y=>cases ht;exact T4 I rx (.str y) e fin
 |ty n=>cases ht
 |fn _=>cases ht
 |dct _ _ _=>cases ht
 |ktb _ _=>cases ht
 |exn _ _ _=>cases ht
 |exr _ _ _ _ _=>cases ht
 |tup q _=>
  cases ht;cases rx;obtain⟨its,_,⟨o,h1,h2,_⟩,_⟩:=I.tuple q;exact Fc W.kitx_tuple I.kIn ⟨o,h1,h2⟩ e (λz=>nomatch z) fin
 |lst q _ _=>
  cases ht;cases rx;obtain⟨its,_,⟨o,n,h1,h2,_⟩,_⟩:=I.list (YA.of q);exact Fc Nu I.kIn ⟨o,h1,h2⟩ e (λz=>nomatch z) fin
 |fzl q _=>
  cases ht;cases rx;obtain⟨its,_,⟨o,n,h1,h2,_⟩,_⟩:=I.list q.sq;exact Fc Nu I.kIn ⟨o,h1,h2⟩ e (λz=>nomatch z) fin
theorem kIsi(h:X.K=K):aR X (.builtin "isinstance") (rIsi K):=by subst h;exact AX
theorem Zs:M0 K (rIsi K) SV:=by
  intro H N N' M M' x y d e c Q hx hy h k;cases hy<;>first
    | (simp only [SV] at h
       cases h1:tyD d with
       |none=>rw[h1] at h;cases h
       |some t=>
         rw[h1] at h;rename_i n;have h:(QQ t n).map cX.bl=some c:=h;cases h2:QQ t n with
         |none=>rw[h2] at h;cases h
         |some kk=>
           rw[h2] at h;cases h;exact⟨x,n,d,N,M,t,kk,rfl,hx,h1,h2,k _ λ_ _ _=>.bl _⟩)
    |cases h
def NY:cX->Option cX
 |.int i=>some (.int (-i))
 |_=>none
theorem V0(ha:PE X a (TV K ml pa ta ia fa)):PE X (.UnaryOp .USub a pos) (TV K ml pa true true (f1 NY fa)):=(fS qQ ha).imp λσ H Q q0=>by
 obtain⟨B,O,δ,d,δ',S,q,k⟩:=q0;obtain⟨x,h1,h2⟩:=QM q;refine⟨B,O,δ,x,δ',S,h1,λv1 H1 R1=>?_⟩;cases x with
 |int i=>
  cases h2;have e1:v1=.int i:=by cases R1.rep;rfl
  exact⟨i,e1,k _ H1 ⟨R1.sta,R1.frm,R1.pur,.int _⟩⟩
 |_=>cases h2
abbrev VP:=Ev->Option (Option Int×Ev)
def TPO(K:Ai)(ml:List Nat)(pu:Bool)(f:VP):TO:=λσ H Q=>∃B O δ k δ',aS K ml B O H σ δ/\f δ=some (k,δ')/\∀H',AQ K ml B O H σ pu H' δ'->Q k H'
def pNo:VP:=λδ=>some (none,δ)
noncomputable def BY(f:VF):VP:=λδ=>(f δ).bind λp=>match p.1 with
 |.int i=>some (some i,p.2)
 |_=>none
theorem PO.imp{e:Option Ux}{t u:TO}(h:PO X e t)(k:∀σ H Q,u σ H Q->t σ H Q):PO X e u:=λaa s σ H Q I w=>h aa s σ H Q I (k σ H Q w)
theorem QC:PO X none (TPO K ml true pNo):=zEC.imp λσ H Q q0=>by obtain⟨B,O,δ,d,δ',S,q,k⟩:=q0;cases q;exact k H (AQ.refl S)
theorem QD(h:PE X a (TV K ml pa ta ia fa)):PO X (some a) (TPO K ml pa (BY fa)):=(pX h).imp λσ H Q q0=>by
 obtain⟨B,O,δ,d,δ',S,q,k⟩:=q0;unfold BY at q;cases h1:fa δ with
 |none=>rw[h1] at q;cases q
 |some p=>
  obtain⟨x,δ1⟩:=p;rw[h1] at q;refine⟨B,O,δ,x,δ1,S,h1,λv1 H1 R1=>?_⟩;cases x with
  |int i=>
   have e1:v1=.int i:=by cases R1.rep;rfl
   cases q;exact⟨i,e1,k H1 ⟨R1.sta,R1.frm,R1.pur⟩⟩
  |_=>cases q
def V5(ds:List cX)(lo hi:Option Int):List cX:=(ds.drop (HT.sIx ds.length 0 lo)).take (HT.sIx ds.length ds.length hi - HT.sIx ds.length 0 lo)
theorem O0{N:Ur->Prop}{xs:List V}{ds:List cX}(r:cD K N H xs ds)(lo hi:Option Int):cD K N H (GR xs lo hi) (V5 ds lo hi):=by unfold GR V5;rw[r.length];exact(r.drop _).take _
noncomputable def oSl(d:cX)(lo hi:Option Int):Option cX:=match d with
 |.lst ds=>some (.lst (V5 ds lo hi))
 |.tup ds=>some (.tup (V5 ds lo hi))
 |_=>none
noncomputable def BF(fa:VF)(fl fh:VP):VF:=λδ=>(fa δ).bind λp=>(fl p.2).bind λl=>(fh l.2).bind λu=>(oSl p.1 l.1 u.1).map λc=>(c,u.2)
theorem CG{prog:Av}{w:Uy}{A:Br}{E:Uq->Ad->Prop}{s:Ad}{t sl:Ur}{items:Array Uq}{vl vu:Uq}{lo hi:Option Int}{Q:Uq->Ad->Prop}(ht:IsTup s.heap t items)(hs:s.heap.IsSliceOf sl vl vu .none)(pl:IsPart vl lo)(pu:IsPart vu hi)(h1:HT.sIx items.size 0 lo=0)(h2:HT.sIx items.size items.size hi=items.size)(h:Q (.ref t) s):Ut (Uv prog w) A (Ll (.ref t) (.ref sl)) Q E s:=by
 obtain⟨os,hos,hcs,hds⟩:=id hs;have hT:s.TypeIs (.ref sl) "slice":=⟨os,hos,hcs⟩;unfold Ll;try with_reducible refine Bo ?_
 first|refine Aa (Ag ?_)|skip
 refine Aa (Kx ht.typeIs (by decide) ?_);refine Aa (Dm (name:=Bf "__getitem__") ht.typeIs Ej
  (Du Ej ht.typeIs PyProof.Rows.entry_tuple_getitem ?_ (PyProof.Rows.args_tuple_getitem _ _)))
 show Ut _ _ (Ki (.ref t)>>=_) _ _ s;refine Aa (PyProof.Rows.tupleItemsOf_ ht ?_);refine Aa (Km hT ?_);rw[if_pos (by decide)];refine Aa (HT.WB hs pl pu ?_);rw[h1,h2];show Ut _ _ (if((((0:Nat):Int)==0&&(1:Int)==1&&(items.size - 0)==items.size)=true) then _ else _) _ _ s;rw[if_pos (by simp)];refine Aa (m:=Sq _) (Aa (Km ht.typeIs (Ag ?_)));rw[if_pos (by decide)];exact Aa (Gk (Ag ⟨_,rfl,Ag h⟩))
def rSlW(K:Ai):V->Option Int->Option Int->Hp->VK->Prop:=λx lo hi H Q=>∃a xs,x=.ref a/\WM K H a xs/\(HT.sIx xs.length 0 lo=0/\HT.sIx xs.length xs.length hi=xs.length)/\Q (.ref a) H
theorem rS:SlR X (rSlW X.K):=by
 intro aa s σ H x v vl vu lo hi sl Q I rx hs pl pu h;obtain⟨a,xs,rfl,hx,hw,q⟩:=h;cases rx;obtain⟨its,r,ht,hz⟩:=I.tuple hx;have ah:its.toArray.size=xs.length:=by rw[An];exact r.length.symm
 refine⟨"tuple",_,PyProof.Rows.slot_tuple_getitem.lookup,ht.typeIs,?_⟩;exact CG ht hs pl pu (by rw[ah];exact hw.1) (by rw[ah];exact hw.2) ⟨.ref a,H,I,rfl,q⟩
def rSl(K:Ai):V->Option Int->Option Int->Hp->VK->Prop:=λx lo hi H Q=>(rSlT K x lo hi H Q∨rSlL K x lo hi H Q)∨rSlW K x lo hi H Q
theorem kSl(h:X.K=K):SlR X (rSl K):=by subst h;exact(zHI.or oN).or rS
theorem oG{fl fh:VP}(h:BF fa fl fh δ=some (d,δ')):∃x δ1 l δ2 u,fa δ=some (x,δ1)/\fl δ1=some (l,δ2)/\fh δ2=some (u,δ')/\oSl x l u=some d:=by
 unfold BF at h;cases h1:fa δ with
 |none=>rw[h1] at h;cases h
 |some p=>
  rw[h1] at h;cases h2:fl p.2 with
  |none=>simp[h2] at h
  |some q=>
   simp only[Af,h2] at h;cases h3:fh q.2 with
   |none=>simp[h3] at h
   |some s=>
    simp only[Af,h3] at h;cases h4:oSl p.1 q.1 s.1 with
    |none=>rw[h4] at h;cases h
    |some c=>
     rw[h4] at h;cases h;exact⟨p.1,p.2,q.1,q.2,s.1,rfl,h2,h3,h4⟩
theorem QB{lo hi:Option Ux}{p2:Pos}{fl fh:VP}(hK:X.K=K)(ha:PE X a (TV K ml pa ta ia fa))(hl:PO X lo (TPO K ml pb fl))(hh:PO X hi (TPO K ml pc fh))(hs:(pb&&pc || (ta&&ia))=true:=by rfl):
  PE X (.Subscript a (.Slice lo hi none p2) pos) (TV K ml (pa&&pb&&pc) true ia (BF fa fl fh)):=(nA (kSl hK) ha hl hh).imp λσ H Q ⟨B,O,δ,d,δ3,S,q,k⟩=>by
 obtain⟨x,δ1,l,δ2,u,h1,h2,h3,h4⟩:=oG q;refine⟨B,O,δ,x,δ1,S,h1,λv1 H1 R1=>⟨B,O,δ1,l,δ2,R1.sta,h2,λH2 R2=>⟨B,O,δ2,u,δ3,R2.sta,h3,λH3 R3=>?_⟩⟩⟩;have hx:bI K (av B O ia) H3 (at_ B O ta) v1 x:=by
  rcases(Ih _ _).mp hs with z|z
  ·obtain⟨z1,z2⟩:=(Ae _ _).mp z
   exact(R1.rep.same (R2.pur z1)).same (R3.pur z2)
  ·obtain⟨z1,z2⟩:=(Ae _ _).mp z
   subst z1 z2;exact(R1.rep.fr R2.frm (λa z=>.inr z) λa z=>.inr z).fr R3.frm (λa z=>.inr z) λa z=>.inr z
 have j3:(pa&&pb&&pc)=true->aZ H H3:=λz=>by simp only[Ae] at z;exact((R1.pur z.1.1).trans (R2.pur z.1.2)).trans (R3.pur z.2)
 have hfr:=(R1.frm.trans R2.frm).trans R3.frm;cases x with
 |lst ds=>
  cases h4;obtain⟨a,xs,rfl,sq,r⟩:=hx.seq rfl;rcases sq with sq|sq
  ·exact .inl (.inr ⟨a,xs,rfl,sq,λp hp=>k _ _ ⟨R3.sta.same (cQ hp),hfr.trans (cQ hp).fr,λz=>(j3 z).trans (cQ hp),.lst cF (R3.sta.new hp) ((O0 r l u).same (cQ hp))⟩⟩)
  ·cases hx with
   |lst q n r'=>exact .inl (.inr ⟨a,_,rfl,YA.of q,λp hp=>k _ _ ⟨R3.sta.same (cQ hp),hfr.trans (cQ hp).fr,λz=>(j3 z).trans (cQ hp),.lst cF (R3.sta.new hp) ((O0 r' l u).same (cQ hp))⟩⟩)
   |fzl q r'=>exact .inl (.inr ⟨a,_,rfl,q.sq,λp hp=>k _ _ ⟨R3.sta.same (cQ hp),hfr.trans (cQ hp).fr,λz=>(j3 z).trans (cQ hp),.lst cF (R3.sta.new hp) ((O0 r' l u).same (cQ hp))⟩⟩)
 |tup ds=>
  cases h4;cases hx with
  |tup q r'=>
   by_cases hw:HT.sIx ds.length 0 l=0/\HT.sIx ds.length ds.length u=ds.length
   ·refine .inr ⟨_,_,rfl,q,by rw [r'.length];exact hw,k _ _ ⟨R3.sta,hfr,j3,?_⟩⟩
    have e:V5 ds l u=ds:=by unfold V5;rw[hw.1,hw.2];simp
    rw[e];exact .tup q r'
   ·exact .inl (.inl ⟨_,_,rfl,q,by rw[r'.length];exact hw,λp hp=>k _ _ ⟨R3.sta.same (cQ hp),hfr.trans (cQ hp).fr,λz=>(j3 z).trans (cQ hp),.tup (WM.of cF) ((O0 r' l u).same (cQ hp))⟩⟩)
 |_=>cases h4
end
inductive Ou where
 |nx (δ:Ev)|rt (d:cX) (δ:Ev)|bk (δ:Ev)|ct (δ:Ev)
abbrev VS:=Ev->Option Ou
def Post(K:Ai)(ml:List Nat)(B:Bs)(D:MM):Ou->Prop
 |.nx δ'=>∀σ' H' O',aS K ml B O' H' σ' δ'->D.nx σ' H'
 |.rt d δ'=>∀v σ' H' O',aS K ml B O' H' σ' δ'->bI K (rz B) H' (rz B) v d->D.rt v H'
 |.bk δ'=>∀σ' H' O',aS K ml B O' H' σ' δ'->D.bk σ' H'
 |.ct δ'=>∀σ' H' O',aS K ml B O' H' σ' δ'->D.ct σ' H'
def WE(K:Ai)(ml:List Nat)(g:VS):TS:=λD σ H=>∃B O δ o,aS K ml B O H σ δ/\g δ=some o/\Post K ml B D o
section
variable{X:Cx}{K:Ai}{ml:List Nat}{e a b c:Ux}{es:List Ux}{pa ta ia pb tb ib pc tc ic pu bt bi ps bs:Bool}{fa fb fc f:VF}{B B':Bs}{O:Nat->Option Ur}{H H1 H':Hp}{σ:St}{δ δ':Ev}{v:V}{d:cX}{p:Ur}{pos:Pos}{st:Vd}{rest:List Vd}{g g':VS}
def Z3:VS:=λδ=>some (.nx δ)
def cE(g g':VS):VS:=λδ=>(g δ).bind λo=>match o with
 |.nx δ'=>g' δ'
 |o=>some o
theorem b8:W2 X [] (WE K ml Z3):=DW.imp λD σ H q0=>by obtain⟨B,O,δ,o,S,q,k⟩:=q0;cases q;exact k σ H O S
theorem cT(h1:PS X st (WE K ml g))(h2:W2 X rest (WE K ml g')):W2 X (st::rest) (WE K ml (cE g g')):=(RU h1 h2).imp λD σ H q0=>by
 obtain⟨B,O,δ,o,S,q,k⟩:=q0;unfold cE at q;cases h1:g δ with
 |none=>rw[h1] at q;cases q
 |some z=>
  rw[h1] at q;refine⟨B,O,δ,z,S,h1,?_⟩;cases z with
  |nx δ1=>exact λσ' H' O' S'=>⟨B,O',δ1,o,S',q,k⟩
  |rt d δ1=>cases q;exact k
  |bk δ1=>cases q;exact k
  |ct δ1=>cases q;exact k
theorem cP(h1:PS X st (WE K ml g)):W2 X [st] (WE K ml g):=(RU h1 DW).imp λD σ H ⟨B,O,δ,o,S,q,k⟩=>⟨B,O,δ,o,S,q,by cases o<;>exact k⟩
noncomputable def bO(f:VF):VS:=λδ=>(f δ).map λp=>.rt p.1 p.2
theorem cJ(h:PE X e (TV K ml pu bt bi f))(ht:bt=true:=by rfl):PS X (.Return (some e) pos) (WE K ml (bO f)):=(FU h).imp λD σ H q0=>by
 obtain⟨B,O,δ,o,S,q,k⟩:=q0;unfold bO at q;cases h1:f δ with
 |none=>rw[h1] at q;cases q
 |some p=>
  rw[h1] at q;cases q;subst ht;exact⟨B,O,δ,p.1,p.2,S,h1,λv H' R=>k v σ H' O R.sta (R.rep.mono R.sta.rza R.sta.rzn)⟩
theorem hJ{i:Nat}(h:PE X e (KJ i))(hm:i∉ml:=by decide):PS X (.Return (some e) pos) (WE K ml (bO (fO i))):=(FU h).imp λD σ H q0=>by
 obtain⟨B,O,δ,o,S,q,k⟩:=q0;unfold bO at q;cases h1:fO i δ with
 |none=>rw[h1] at q;cases q
 |some p=>
  obtain⟨x,δ1⟩:=p;rw[h1] at q;cases q;obtain⟨rfl,v,e1,r⟩:=S.lone hm h1;exact⟨v,e1,k v σ H O S (r.mono S.rza S.rza)⟩
def HU(f:VF):VS:=λδ=>(f δ).map λp=>.nx p.2
theorem EL(h:PE X e (TV K ml pu bt bi f))(hs:Ve e none pos.line X.env=pure false:=by rfl):PS X (.Expr e pos) (WE K ml (HU f)):=(J6 h hs).imp λD σ H q0=>by
 obtain⟨B,O,δ,o,S,q,k⟩:=q0;unfold HU at q;cases h1:f δ with
 |none=>rw[h1] at q;cases q
 |some p=>
  rw[h1] at q;cases q;exact⟨B,O,δ,p.1,p.2,S,h1,λv H' R=>k σ H' O R.sta⟩
def WR(t:VB)(g g':VS):VS:=λδ=>(t δ).bind λp=>if p.1=true then g p.2 else g' p.2
theorem a8{x y:List Vd}{t:VB}(ht:PT X c (TB K ml pc t))(ha:W2 X x (WE K ml g))(hb:W2 X y (WE K ml g')):PS X (.If c x y pos) (WE K ml (WR t g g')):=(Yg ht ha hb).imp λD σ H q0=>by
 obtain⟨B,O,δ,o,S,q,k⟩:=q0;unfold WR at q;cases h1:t δ with
 |none=>rw[h1] at q;cases q
 |some p=>
  obtain⟨kk,δ1⟩:=p;rw[h1] at q;refine⟨B,O,δ,kk,δ1,S,h1,λH1 R1=>?_⟩;cases kk with
  |true=>exact RL ⟨B,O,δ1,o,R1.sta,q,k⟩
  |false=>exact RK ⟨B,O,δ1,o,R1.sta,q,k⟩
abbrev VX:=Ev->Option (Sl×Ev)
inductive St1(K:Ai)(B:Bs)(O:Nat->Option Ur)(H:Hp):Bs->V->Sl->Prop
 |va {v:V} {d:cX}:St1 K B O H {B with kp:=[(v,d)]++B.kp} v (.va d)
 |ol {p:Ur} {xs:List V} {ds:List cX}:H p=some (.lst xs)->xs.length=ds.length->¬Nn B O p->B.H0 p=none->St1 K B O H {B.add p with kp:=xs.zip ds++B.kp} (.ref p) (.ow (.lst ds))
 |od {p:Ur} {kvs:List (aK×V)} {ds:List cX}:H p=some (.dK kvs)->kvs.length=ds.length->¬Nn B O p->B.H0 p=none->St1 K B O H {B.add p with kp:=(kvs.map Eo).zip ds++B.kp} (.ref p) (.ow (.dct (kvs.map Dn) ds))
theorem St1.fr{s:Sl}(h:St1 K B O H B' v s)(f:Fr (OA O) H H'):St1 K B O H' B' v s:=by
 cases h with
 |va=>exact .va
 |ol q l n z=>exact .ol (f _ _ q λw=>absurd (.inr w) n) l n z
 |od q l n z=>exact .od (f _ _ q λw=>absurd (.inr w) n) l n z
def TX(K:Ai)(ml:List Nat)(f:VX):TE:=λσ H Q=>∃B O δ s δ',aS K ml B O H σ δ/\f δ=some (s,δ')/\∀v H' B',aS K ml B' O H' σ δ'->St1 K B O H' B' v s->Fr (OA O) H H'->Q v H'
noncomputable def xV(f:VF):VX:=λδ=>(f δ).map λp=>(.va p.1,p.2)
noncomputable def xO(f:VF):VX:=λδ=>(f δ).map λp=>(.ow p.1,p.2)
theorem aF(h:PE X e (TV K ml pu true true f)):PE X e (TX K ml (xV f)):=h.imp λσ H Q q0=>by
 obtain⟨B,O,δ,o,δ',S,q,k⟩:=q0;unfold xV at q;cases h1:f δ with
 |none=>rw[h1] at q;cases q
 |some p=>
  rw[h1] at q;cases q;exact⟨B,O,δ,p.1,p.2,S,h1,λv H' R=>k v H' _ (R.sta.keepV (ps:=[(v,p.1)]) λz hz=>by rw[Ay.mp hz];exact R.rep) .va R.frm⟩
theorem UA{N:Ur->Prop}:∀{xs:List V} {ds:List cX},cD K N H xs ds->∀z∈xs.zip ds,bI K N H N z.1 z.2
 |_,_,.nil,z,hz=>nomatch hz
 |_,_,.cons h t,z,hz=>by
  rcases Al.mp hz with e|e
  ·rw[e];exact h
  ·exact UA t z e
theorem VW{N:Ur->Prop}:∀{xs:List V} {ds:List cX},xs.length=ds.length->(∀z∈xs.zip ds,bI K N H N z.1 z.2)->cD K N H xs ds
 |[],[],_,_=>.nil
 |x::xs,d::ds,hl,h=>.cons (h (x,d) (Ax ..)) (VW (by simpa using hl) λz hz=>h z (Ap _ hz))
theorem VA(h:PE X e (TN K ml pu f)):PE X e (TX K ml (xO f)):=h.imp λσ H Q q0=>by
 obtain⟨B,O,δ,o,δ',S,q,k⟩:=q0;unfold xO at q;cases h1:f δ with
 |none=>rw[h1] at q;cases q
 |some p=>
  obtain⟨d,δ1⟩:=p;rw[h1] at q;cases q;refine⟨B,O,δ,d,δ1,S,h1,λp H' R=>?_⟩;have w:=R.own;cases w with
  |lst q r=>exact k _ H' _ (R.sta.keepV (UA r)) (.ol q r.length R.nz R.h0) R.frm
  |dct q r=>exact k _ H' _ (R.sta.keepV (UA r)) (.od q (by simpa using r.length) R.nz R.h0) R.frm
theorem St1.bind{O':Nat->Option Ur}{s:Sl}{i:Nat}(h:St1 K B O H' B' v s)(S:aS K ml B' O' H' σ δ)(hm:i∉ml)(hl:i<δ.length):∃O'',aS K ml B O'' H' (σ.set i (some v)) (δ.set i s):=by
 cases h with
 |va=>
  refine⟨_,aS.unkeep (ps:=_) (S.setVa hm (S.kep _ (Bk _ (Ay.mpr rfl))))⟩
 |ol q l n z=>
  refine⟨_,aS.setOw (aS.unkeep (B:=B.add _) S) hm hl (λw=>n (.inl w)) z (.lst q (VW l λz hz=>S.kep z (Bk _ hz)))⟩
 |od q l n z=>
  refine⟨_,aS.setOw (aS.unkeep (B:=B.add _) S) hm hl (λw=>n (.inl w)) z (.dct q (VW (by simpa using l) λz hz=>S.kep z (Bk _ hz)))⟩
noncomputable def aG(i:Nat)(x:VX):VS:=λδ=>(x δ).bind λp=>if i<p.2.length then some (.nx (p.2.set i p.1)) else none
theorem bF{i:Nat}{y:Uw}{x:VX}{d7:Pos}(hN:X.N.Nodup)(he:PE X e (TX K ml x))(hi:X.N[i]?=some y:=by rfl)(hx:AL X.env.scope y:=by first|exact .inl rfl|exact .inr rfl)(hm:i∉ml:=by decide)(hs:Ve e (some (.Name y d7)) pos.line X.env=pure false:=by rfl)
  (hf:X.fn y=true∨X.env.scope.names.lookup y=some .local:=by first|exact .inl rfl|exact .inr rfl|assumption):PS X (.Assign [.Name y d7] e pos) (WE K ml (aG i x)):=(rG hN hi hx he hs hf).imp λD σ H ⟨B,O,δ,o,S,q,k⟩=>by
 unfold aG at q;cases h1:x δ with
 |none=>rw[h1] at q;cases q
 |some p=>
  obtain⟨s,δ1⟩:=p;rw[h1] at q;have q:(if i<δ1.length then some (Ou.nx (δ1.set i s)) else none)=some o:=q;split at q
  ·rename_i hl
   cases q;refine⟨B,O,δ,s,δ1,S,h1,λv H' B' S' h' f'=>?_⟩;obtain⟨O'',S''⟩:=h'.bind S' hm hl;exact k _ _ _ S''
  ·cases q
noncomputable def HW(i j:Nat)(x y:VX):VS:=λδ=>(x δ).bind λp=>(y p.2).bind λq=>if i<q.2.length/\j<q.2.length then some (.nx ((q.2.set j q.1).set i p.1)) else none
theorem EM{i j:Nat}{y z:Uw}{fx fy:VX}{px py pt:Pos}{kt k2 pt2}(hc:X.calm=true)(hN:X.N.Nodup)(hi:X.N[i]?=some y)(hj:X.N[j]?=some z)(hij:i≠j)(hx:X.env.scope.names.lookup y=some .local)(hy:X.env.scope.names.lookup z=some .local)(ha:PE X a (TX K ml fx))(hb:PE X b (TX K ml fy))(hw:Gg [.Tuple [.Name y px,.Name z py] kt pt] (.Tuple [a,b] k2 pt2) X.env=pure (some [y,z]))(hmi:i∉ml:=by decide)(hmj:j∉ml:=by decide)(hs:Gf [.Tuple [.Name y px,.Name z py] kt pt] (.Tuple [a,b] k2 pt2) pos.line X.env=pure false:=by rfl)(he:Us (a::[b]) X.env=(false,eval a X.env)::Us [b] X.env:=by rfl)(he2:Us (b::[]) X.env=(false,eval b X.env)::Us [] X.env:=by rfl):
  PS X (.Assign [.Tuple [.Name y px,.Name z py] kt pt] (.Tuple [a,b] k2 pt2) pos) (WE K ml (HW i j fx fy)):=(qL hc hN hi hj hij hx hy (bM ha (bM hb ZY he2) he) hw hs).imp λD σ H ⟨B,O,δ,o,S,q,k⟩=>by
 unfold HW at q;cases h1:fx δ with
 |none=>rw[h1] at q;cases q
 |some p=>
  obtain⟨s,δ1⟩:=p;rw[h1] at q;cases h2:fy δ1 with
  |none=>simp[h2] at q
  |some p2=>
   obtain⟨s2,δ2⟩:=p2;simp only[Af,h2] at q;split at q
   ·rename_i hl
    cases q;refine⟨B,O,δ,s,δ1,S,h1,λv H1 B1 S1 w1 f1=>⟨B1,O,δ1,s2,δ2,S1,h2,λv2 H2 B2 S2 w2 f2=>⟨v,v2,rfl,?_⟩⟩⟩;obtain⟨O3,S3⟩:=w2.bind S2 hmj hl.2;obtain⟨O4,S4⟩:=(w1.fr f2).bind S3 hmi (by rw[Cd];exact hl.1);rw[Em _ _ (Dk hij)] at S4;exact k _ _ _ S4
   ·cases q
abbrev VG:=cX->Ev->Option Ev
def TGV(K:Ai)(ml:List Nat)(h:VG):TG:=λv σ H Q=>∃B O δ d δ',aS K ml B O H σ δ/\bI K (Nn B O) H (Nn B O) v d/\h d δ=some δ'/\∀σ' O',aS K ml B O' H σ' δ'->(∀i∈ml,σ'[i]?=σ[i]?)->Q σ' H
theorem PG.imp{t u:TG}(h:PG X e t)(k:∀v σ H Q,u v σ H Q->t v σ H Q):PG X e u:=λaa s σ H v w Q I r z=>h aa s σ H v w Q I r (k v σ H Q z)
theorem CW.imp{t u:AR}(h:CW X es t)(k:∀v σ H Q,u v σ H Q->t v σ H Q):CW X es u:=λaa s σ H v w Q I r z=>h aa s σ H v w Q I r (k v σ H Q z)
theorem PG.or{t u:TG}(h:PG X e t)(h':PG X e u):PG X e (λv σ H Q=>t v σ H Q∨u v σ H Q):=λaa s σ H v w Q I r z=>by
 rcases z with z|z
 ·exact h aa s σ H v w Q I r z
 ·exact h' aa s σ H v w Q I r z
def gN(i:Nat):VG:=λd δ=>some (δ.set i (.va d))
theorem bY{i:Nat}{x:Uw}(hN:X.N.Nodup)(hi:X.N[i]?=some x:=by rfl)(hx:AL X.env.scope x:=by first|exact .inl rfl|exact .inr rfl)(hm:i∉ml:=by decide)(hf:X.fn x=true∨X.env.scope.names.lookup x=some .local:=by first|exact .inl rfl|exact .inr rfl|assumption):PG X (.Name x pos) (TGV K ml (gN i)):=
 (PH hN hi hx hf).imp λv σ H Q q0=>by obtain⟨B,O,δ,d,δ',S,r,q,k⟩:=q0;cases q;exact k _ _ (S.setVa hm r) λj hj=>Bu λ(z:i=j)=>hm (z▸hj)
abbrev VGs:=List cX->Ev->Option Ev
def TGVs(K:Ai)(ml:List Nat)(h:VGs):AR:=λvs σ H Q=>∃B O δ ds δ',aS K ml B O H σ δ/\cD K (Nn B O) H vs ds/\h ds δ=some δ'/\∀σ' O',aS K ml B O' H σ' δ'->(∀i∈ml,σ'[i]?=σ[i]?)->Q σ' H
def WY:VGs:=λds δ=>match ds with
 |[]=>some δ
 |_=>none
def aY(g:VG)(gs:VGs):VGs:=λds δ=>match ds with
 |d::r=>(g d δ).bind λδ1=>gs r δ1
 |[]=>none
theorem XX:CW X [] (TGVs K ml WY):=DS.imp λvs σ H Q q0=>by
 obtain⟨B,O,δ,ds,δ',S,r,q,k⟩:=q0;cases r with
 |nil=>cases q;exact⟨rfl,k _ _ S λ_ _=>rfl⟩
 |cons _ _=>cases q
theorem bB{g:VG}{gs:VGs}(h1:PG X e (TGV K ml g))(h2:CW X es (TGVs K ml gs))(hs:(Uz (e::es) X.env).map (·.2)=Fv e X.env::(Uz es X.env).map (·.2):=by rfl):CW X (e::es) (TGVs K ml (aY g gs)):=
 (RS h1 h2 hs).imp λvs σ H Q q0 => by
  obtain⟨B,O,δ,ds,δ',S,r,q,k⟩:=q0;cases r with
  |nil=>cases q
  | @cons v vs d ds h t=>
   have q:((g d δ).bind λδ1=>gs ds δ1)=some δ':=q;cases h1:g d δ with
   |none=>rw[h1] at q;cases q
   |some δ1=>
    rw[h1] at q;have S0:=S.keepV (UA t);exact⟨v,vs,rfl,_,O,δ,d,δ1,S0,h,h1,λσ1 O1 S1 m1=>⟨B,O1,δ1,ds,δ',S1.unkeep,VW t.length λz hz=>S1.kep z (Bk _ hz),q,λσ2 O2 S2 m2=>k σ2 O2 S2 λi hi=>(m2 i hi).trans (m1 i hi)⟩⟩
def GY(n:Nat)(gs:VGs):VG:=λd δ=>(YG d).bind λds=>if ds.length=n then gs ds δ else none
theorem WK{gs:VGs}{k n:Nat}(hK:X.K=K)(hc:X.calm=true)(h:CW X es (TGVs K ml gs))(hn:(Uz es X.env).length=n:=by rfl)(hst:(Uz es X.env).findIdx? (·.1)=none:=by rfl):PG X (.Tuple es k pos) (TGV K ml (GY n gs)):=
 ((Za (K := K) hK hc h hn hst).or (Zq (K := K) hK hc h hn hst)).imp λv σ H Q q0 => by
  obtain⟨B,O,δ,d,δ',S,r,q,k⟩:=q0;unfold GY at q;cases h1:YG d with
  |none=>rw[h1] at q;cases q
  |some ds=>
   rw[h1] at q;have q:(if ds.length=n then gs ds δ else none)=some δ':=q;split at q
   ·rename_i hl
    obtain⟨a,xs,rfl,sq,ra⟩:=r.seq h1;have fin:TGVs K ml gs xs σ H Q:=⟨B,O,δ,ds,δ',S,ra,q,k⟩;rcases sq with sq|sq
    ·exact .inr ⟨a,xs,rfl,sq,ra.length.trans hl,fin⟩
    ·exact .inl ⟨a,xs,rfl,sq,ra.length.trans hl,fin⟩
   ·cases q
noncomputable def CC(f:VF)(g:VG):VS:=λδ=>(f δ).bind λp=>(g p.1 p.2).map Ou.nx
theorem GD{tg:Ux}{gg:VG}(he:PE X e (TV K ml pu true true f))(hg:PG X tg (TGV K ml gg))(hs:Gf [tg] e pos.line X.env=pure false:=by rfl)(hw:Gg [tg] e X.env=pure none:=by rfl)
  (h1:(Uz [tg] X.env).map (·.2)=[Fv tg X.env]:=by rfl):PS X (.Assign [tg] e pos) (WE K ml (CC f gg)):=(FT he hg hs hw h1).imp λD σ H ⟨B,O,δ,o,S,q,k⟩=>by
 unfold CC at q;cases h1:f δ with
 |none=>rw[h1] at q;cases q
 |some p=>
  obtain⟨d,δ1⟩:=p;rw[h1] at q;have q:(gg d δ1).map Ou.nx=some o:=q;cases h2:gg d δ1 with
  |none=>rw[h2] at q;cases q
  |some δ2=>
   rw[h2] at q;cases q;exact⟨B,O,δ,d,δ1,S,h1,λv H' R=>⟨B,O,δ1,d,δ2,R.sta,R.rep,h2,λσ' O' S' _=>k σ' H' O' S'⟩⟩
def MuV(K:Ai)(r:V->List V->Hp->VK->Prop)(m:List cX->List cX->Option (List cX)):Prop:=∀(H:Hp) (N:Ur->Prop) (l:Ur) (xs vs:List V) (ds es ds':List cX) (Q:VK),
 H l=some (.lst xs)->N l->cD K N H xs ds->cD K N H vs es->m ds es=some ds'->(∀v xs',cD K N H xs' ds'->Q v (upd H l (.lst xs')))->r (.ref l) vs H Q
noncomputable def RQ(δ:Ev)(i:Nat):Option (List cX):=match δ[i]? with
 |some (.ow (.lst ds))=>some ds
 |_=>none
noncomputable def WA(i:Nat)(m:List cX->List cX->Option (List cX))(fs:OW):VS:=λδ=>(RQ δ i).bind λ_=>(fs δ).bind λp=>(RQ p.2 i).bind λds=>(m ds p.1).map λds'=>.nx (p.2.set i (.ow (.lst ds')))
theorem LX{i:Nat}{ds:List cX}(h:RQ δ i=some ds):δ[i]?=some (.ow (.lst ds)):=by
 unfold RQ at h;split at h
 ·cases h;assumption
 ·cases h
theorem HR{N:Ur->Prop}{l:Ur}{o:HO}{xs:List V}{ds ys:List cX}{zs:List V}(ho:H l=some (.lst zs))(hN:N l)(h:cD K N H xs ds):cD K N (upd H l o) xs ds:=
 h.fr (P:=λb=>b=l) (λb u q n=>by
  by_cases hb:b=l
  ·subst hb
   rw[ho] at q;cases q;exact absurd (n rfl) λz=>z
  ·rw[b6 hb]
   exact q) λa z=>z▸hN
theorem ZF{i:Nat}{x:Uw}{name:Uw}{ao af ij:Pos}{id:String}{r:V->List V->Hp->VK->Prop}{m:List cX->List cX->Option (List cX)}{fs:OW}(hK:X.K=K)(slot:Slot "list" name id)(hty:Nl (.builtin id)=pure (.type "method_descriptor"))(hm:MtR X id r)(hmu:MuV K r m)(ho:PE X (.Name x ij) (KJ i))(ha:PA X (e::es) (TAV K ml pu true fs))(cj : Fn (.Name x ij) name X.env (eval (.Name x ij) X.env) = eval (.Name x ij) X.env := by rfl)(eo : ((Dv af (Us (e :: es) X.env)).all (λx => !x.1) && (Ic af (Fe [] X.env)).all (λx => x.1.isSome) && decide ((e :: es).length + ([] : List Iv).length + (if ([] : List Iv).isEmpty then 0 else 1) < 30)) = true := by rfl)(ci : (ao.endLine == af.line) = true := by rfl)(hs : Us (e :: es) X.env = (false,eval e X.env) :: Us es X.env := by rfl)(bp : (Dv af (Us es X.env)).any (·.1) = false := by rfl)(hsw : Ve (.Call (.Attribute (.Name x ij) name ao) (e :: es) [] af) none pos.line X.env = pure false := by rfl) :PS X (.Expr (.Call (.Attribute (.Name x ij) name ao) (e::es) [] af) pos) (WE K ml (WA i m fs)):=
 (J6 (kBm (K := K) hK Ii slot hty hm ho ha cj eo ci hs bp) hsw).imp λD σ H q0 => by
  obtain⟨B,O,δ,o,S,q,k⟩:=q0;unfold WA at q;cases h0:RQ δ i with
  |none=>rw[h0] at q;cases q
  |some ds0=>
   rw[h0] at q;have q:((fs δ).bind λp=>(RQ p.2 i).bind λds=>(m ds p.1).map λds'=>Ou.nx (p.2.set i (.ow (.lst ds'))))=some o:=q;cases h1:fs δ with
   |none=>rw[h1] at q;cases q
   |some p=>
    obtain⟨es',δ1⟩:=p;rw[h1] at q;have q:((RQ δ1 i).bind λds=>(m ds es').map λds'=>Ou.nx (δ1.set i (.ow (.lst ds'))))=some o:=q;cases h2:RQ δ1 i with
    |none=>rw[h2] at q;cases q
    |some ds=>
     rw[h2] at q;have q:((m ds es').map λds'=>Ou.nx (δ1.set i (.ow (.lst ds'))))=some o:=q;cases h3:m ds es' with
     |none=>rw[h3] at q;cases q
     |some ds'=>
      rw[h3] at q;cases q;obtain⟨l,e1,e2,w⟩:=S.ow i _ (LX h0);cases w with
      |lst hl0 _=>
       refine⟨.ref l,e2,.inl ⟨rfl,_,YA.of hl0⟩,B,O,δ,es',δ1,S,h1,λvs H1 R=>?_⟩;obtain⟨l',e3,_,w1⟩:=R.sta.ow i _ (LX h2);rw[e1] at e3;cases e3;cases w1 with
       |lst hl1 r1=>
        refine hmu H1 (Nn B O) l _ vs ds es' ds' _ hl1 (.inr ⟨i,e1⟩) r1 R.rep h3 λv xs' r2=>?_;exact k σ _ O (R.sta.wrote e1 (λz=>z) (.lst cF (HR (ys:=[]) hl1 (.inr ⟨i,e1⟩) r2)))
noncomputable def TL:List cX->List cX->Option (List cX)
 |ds,[d]=>if ds.length<16777216 then some (ds++[d]) else none
 |_,_=>none
theorem X5:MuV K DY TL:=by
 intro H N l xs vs ds es ds' Q hl hN rx re h k;cases re with
 |nil=>cases h
 | @cons v vs d es hd t=>
  cases t with
  |cons _ _=>cases h
  |nil=>
   simp only[TL] at h;split at h
   ·rename_i hz
    cases h;exact⟨l,xs,v,rfl,rfl,hl,by rw[rx.length,Bt];exact hz,k _ _ (rx.snoc hd)⟩
   ·cases h
end
section
variable{X:Cx}{K:Ai}{ml:List Nat}{e a b c:Ux}{es:List Ux}{pa ta ia pb tb ib pc tc ic pu bt bi ps bs:Bool}{fa fb fc f:VF}{B B':Bs}{O:Nat->Option Ur}{H H1 H':Hp}{σ:St}{δ δ':Ev}{v:V}{d:cX}{p:Ur}{pos:Pos}{st:Vd}{rest:List Vd}{g g':VS}
def again(nxt:VS):Ou->Option Ou
 |.nx δ=>nxt δ
 |.ct δ=>nxt δ
 |.bk δ=>some (.nx δ)
 |.rt d δ=>some (.rt d δ)
noncomputable def aQ(t:VB)(g:VS):Nat->VS
 |0=>λ_=>none
 |n+1=>λδ=>(t δ).bind λp=>if p.1=true then(g p.2).bind (again (aQ t g n)) else some (.nx p.2)
theorem UX{t:VB}:∀{n:Nat} {δ:Ev} {o:Ou},aQ t g n δ=some o->aQ t g (n+1) δ=some o
 |0,_,_,h=>by cases h
 | n + 1,δ,o,h => by
  dsimp only[aQ] at h;show((t δ).bind λp=>if p.1=true then(g p.2).bind (again (aQ t g (n+1))) else some (.nx p.2))=some o;cases h1:t δ with
  |none=>rw[h1] at h;cases h
  |some p=>
   rw[h1] at h;obtain⟨kk,δ1⟩:=p;cases kk with
   |false=>exact h
   |true=>
    have h:(g δ1).bind (again (aQ t g n))=some o:=h;show(g δ1).bind (again (aQ t g (n+1)))=some o;cases h2:g δ1 with
    |none=>rw[h2] at h;cases h
    |some z=>
     rw[h2] at h;cases z with
     |nx δ2=>exact UX (n:=n) h
     |ct δ2=>exact UX (n:=n) h
     |bk δ2=>exact h
     |rt d δ2=>exact h
theorem SZ{t:VB}{n:Nat}{o:Ou}(h:aQ t g n δ=some o):∀k,aQ t g (n+k) δ=some o
 |0=>h
 |k+1=>UX (SZ h k)
theorem GG{t:VB}{n m:Nat}{o o':Ou}(h:aQ t g n δ=some o)(h':aQ t g m δ=some o'):o=o':=by have e1:=SZ h m;have e2:=SZ h' n;rw[Qn] at e2;rw[e1] at e2;exact Bx e2
open Classical in
noncomputable def SX(t:VB)(g:VS):VS:=λδ=>if h:∃o n,aQ t g n δ=some o then some (Classical.choose h) else none
theorem MA{t:VB}{n:Nat}{o:Ou}(h:aQ t g n δ=some o):SX t g δ=some o:=by have hx:∃o n,aQ t g n δ=some o:=⟨o,n,h⟩;unfold SX;rw[dif_pos hx];obtain⟨m,hm⟩:=Mu hx;rw[GG hm h]
theorem F0{t:VB}{o:Ou}(h:SX t g δ=some o):∃n,aQ t g n δ=some o:=by
 unfold SX at h;split at h
 ·rename_i hx
  cases h;exact Mu hx
 ·cases h
theorem II{body:List Vd}{t:VB}(hp:Rt (Uv X.prog X.w) X.A X.env X.xe)(hc:PT X c (TB K ml pc t))(hb:W2 X body (WE K ml g)):PS X (.While c body [] pos) (WE K ml (SX t g)):=(rD hp hc hb).imp λD σ H q0=>by
 obtain⟨B,O,δ,o,S,q,k⟩:=q0;obtain⟨n,hn⟩:=F0 q;refine⟨λm σ H=>∃O δ,aS K ml B O H σ δ/\aQ t g m δ=some o,⟨n,O,δ,S,hn⟩,?_⟩;rintro m σ H ⟨O,δ,S,hm⟩;cases m with
 |zero=>cases hm
 |succ m=>
  dsimp only[aQ] at hm;cases h1:t δ with
  |none=>rw[h1] at hm;cases hm
  |some p=>
   obtain⟨kk,δ1⟩:=p;rw[h1] at hm;refine⟨B,O,δ,kk,δ1,S,h1,λH1 R1=>?_⟩;cases kk with
   |false=>
    have hm:some (Ou.nx δ1)=some o:=hm;cases hm;exact RK (k σ H1 O R1.sta)
   |true=>
    have hm:(g δ1).bind (again (aQ t g m))=some o:=hm;cases h2:g δ1 with
    |none=>rw[h2] at hm;cases hm
    |some z=>
     rw[h2] at hm;refine RL ⟨λσ' H'=>∃O δ,aS K ml B O H' σ' δ/\aQ t g m δ=some o,λσ' H' w=>⟨m,Nat.lt_succ_self _,w⟩,B,O,δ1,z,R1.sta,h2,?_⟩;cases z with
     |nx δ2=>exact λσ' H' O' S'=>⟨O',δ2,S',hm⟩
     |ct δ2=>exact λσ' H' O' S'=>⟨O',δ2,S',hm⟩
     |bk δ2=>cases hm;exact λσ' H' O' S'=>k σ' H' O' S'
     |rt d δ2=>cases hm;exact λv σ' H' O' S' r=>k v σ' H' O' S' r
def AS(K:Ai)(J:It)(kps:List (V×cX))(ds:List cX):Prop:=∀(N:Ur->Prop) (H:Hp),(∀p∈kps,bI K N H N p.1 p.2)->
 (∀(i:Nat) (d:cX),ds[i]?=some d->J.go i H/\∀x H',J.yld i H x H'->aZ H H'/\bI K N H' N x d)/\J.stop ds.length H
abbrev VI:=Ev->Option (List cX×Ev)
def CY(K:Ai)(ml:List Nat)(pu:Bool)(f:VI):TI:=λσ H R=>∃B O δ ds δ',aS K ml B O H σ δ/\f δ=some (ds,δ')∧
 ∀J kps H',aS K ml {B with kp:=kps++B.kp} O H' σ δ'->Fr (OA O) H H'->(pu=true->aZ H H')->AS K J kps ds->R J H'
theorem PI.imp{tg:Ux}{t u:TI}(h:PI X tg e t)(k:∀σ H R,u σ H R->t σ H R):PI X tg e u:=λaa s σ H R I w=>h aa s σ H R I (k σ H R w)
theorem PI.or{tg:Ux}{t u:TI}(h:PI X tg e t)(h':PI X tg e u):PI X tg e (λσ H R=>t σ H R∨u σ H R):=λaa s σ H R I z=>by
 rcases z with z|z
 ·exact h aa s σ H R I z
 ·exact h' aa s σ H R I z
noncomputable def U3(f:VF):VI:=λδ=>(f δ).bind λp=>(YG p.1).map λds=>(ds,p.2)
theorem nS{a:Ur}{ds:List cX}:AS K (Itl K a) [(.ref a,.lst ds)] ds:=by
 intro N H h;have r:=h _ (Ay.mpr rfl);have fin:∀xs,YA K H a xs->cD K N H xs ds->(∀(i:Nat) (d:cX),ds[i]?=some d->(Itl K a).go i H/\∀x H',(Itl K a).yld i H x H'->aZ H H'/\bI K N H' N x d)/\(Itl K a).stop ds.length H:=λxs sq r=>by refine⟨λi d e=>?_,xs,sq,by rw[r.length];exact Am _⟩;obtain⟨x,e1,r1⟩:=r.get e;refine⟨⟨xs,x,sq,e1⟩,λy H' hy=>?_⟩;obtain⟨e2,e3⟩:=hy;subst e2;have:=e3 xs sq;rw[e1] at this;cases this;exact⟨aZ.refl _,r1⟩
 cases r with
 |lst q n r=>exact fin _ (YA.of q) r
 |fzl q r=>exact fin _ q.sq r
theorem mB{a:Ur}{ds:List cX}:AS K (Itt K a) [(.ref a,.tup ds)] ds:=by
 intro N H h;have r:=h _ (Ay.mpr rfl);cases r with
 |tup sq r=>
  refine⟨λi d e=>?_,_,sq,by rw[r.length];exact Am _⟩;obtain⟨x,e1,r1⟩:=r.get e;refine⟨⟨_,x,sq,e1⟩,λy H' hy=>?_⟩;obtain⟨e2,e3⟩:=hy;subst e2;have:=e3 _ sq;rw[e1] at this;cases this;exact⟨aZ.refl _,r1⟩
theorem V1{tg:Ux}(hK:X.K=K)(h:PE X e (TV K ml pu true true f)):PI X tg e (CY K ml pu (U3 f)):=((Wv (K:=K) hK h).or (Wk (K:=K) hK h)).imp λσ H R q0=>by
 obtain⟨B,O,δ,ds,δ',S,q,k⟩:=q0;unfold U3 at q;cases h1:f δ with
 |none=>rw[h1] at q;cases q
 |some p=>
  obtain⟨x,δ1⟩:=p;rw[h1] at q;cases x with
  |lst ds'=>
   cases q;refine .inl ⟨B,O,δ,_,δ1,S,h1,λv H1 R1=>?_⟩;obtain⟨a,xs,rfl,sq,r⟩:=R1.rep.seq rfl;refine⟨a,rfl,?_,k _ [(.ref a,.lst ds)] H1 (R1.sta.keepV λp hp=>by rw[Ay.mp hp];exact R1.rep) R1.frm R1.pur nS⟩;have r:=R1.rep;cases r with
   |lst q _ _=>exact⟨_,YA.of q⟩
   |fzl q _=>exact⟨_,q.sq⟩
  |tup ds'=>
   cases q;refine .inr ⟨B,O,δ,_,δ1,S,h1,λv H1 R1=>?_⟩;obtain⟨a,xs,rfl,sq,r⟩:=R1.rep.seq rfl;refine⟨a,rfl,?_,k _ [(.ref a,.tup ds)] H1 (R1.sta.keepV λp hp=>by rw[Ay.mp hp];exact R1.rep) R1.frm R1.pur mB⟩;have r:=R1.rep;cases r with
   |tup q _=>exact⟨_,q⟩
  |_=>cases q
def ZC(lo:Int)(n:Nat):List cX:=(Ar n).map λk:Nat=>.int (lo+k)
noncomputable def iR1(f:VF):VI:=λδ=>(f δ).bind λp=>match p.1 with
 |.int j=>if -4611686018427387904<=j/\j<4611686018427387904 then some (ZC 0 j.toNat,p.2) else none
 |_=>none
noncomputable def iR2(f g:VF):VI:=λδ=>(f δ).bind λp=>(g p.2).bind λq=>match p.1,q.1 with
 |.int i,.int j=>if(-4611686018427387904<=i/\i<4611686018427387904)/\ -4611686018427387904<=j/\j<4611686018427387904 then some (ZC i (j - i).toNat,q.2) else none
 |_,_=>none
theorem nO{lo:Int}{n i:Nat}{d:cX}(h:(ZC lo n)[i]?=some d):i<n/\d=.int (lo+i):=by
 unfold ZC at h;rw[Co] at h;cases h1:(Ar n)[i]? with
 |none=>rw[h1] at h;cases h
 |some k=>
  rw[h1] at h;cases h;have:=Ah.mp h1;obtain⟨hl,e⟩:=this;rw[Gy] at hl;rw[Oq] at e;subst e;exact⟨hl,rfl⟩
theorem IK{lo:Int}{n:Nat}:AS K (Itr lo n) [] (ZC lo n):=by intro N H _;refine⟨λi d e=>?_,by simp[Itr,ZC]⟩;obtain⟨hl,rfl⟩:=nO e;refine⟨hl,λx H' hy=>?_⟩;obtain⟨rfl,rfl⟩:=hy;exact⟨aZ.refl _,.int _⟩
theorem W4{tg:Ux}{p':Pos}(hg:Gl X "range")(hm:X.mg "range"=none)(h:PE X a (TV K ml pa ta ia fa))(hs:Us [a] X.env=[(false,eval a X.env)]:=by rfl)(hs1:Us (a::[]) X.env=(false,eval a X.env)::Us [] X.env:=by rfl):
  PI X tg (.Call (.Name "range" p') [a] [] pos) (CY K ml pa (iR1 fa)):=(B0 hg hm (bM h ZY hs1) hs).imp λσ H R ⟨B,O,δ,ds,δ',S,q,k⟩=>by
 unfold iR1 at q;cases h1:fa δ with
 |none=>rw[h1] at q;cases q
 |some p=>
  obtain⟨x,δ1⟩:=p;rw[h1] at q;cases x with
  |int j=>
   have q:(if -4611686018427387904<=j/\j<4611686018427387904 then some (ZC 0 j.toNat,δ1) else none)=some (ds,δ'):=q;split at q
   ·rename_i hj
    cases q;have p62:(2:Int) ^ 62=4611686018427387904:=by decide
    refine⟨B,O,δ,_,_,S,h1,λv H1 R1=>⟨j,?_,by rw[p62];exact hj.1,by rw[p62];exact hj.2,k _ [] H1 (R1.sta.keepV λ_ z=>nomatch z) R1.frm R1.pur IK⟩⟩;have r:=R1.rep;cases r;rfl
   ·cases q
  |_=>cases q
theorem MJ{tg:Ux}{p':Pos}(hg:Gl X "range")(hm:X.mg "range"=none)(h:PE X a (TV K ml pa ta ia fa))(h':PE X b (TV K ml pb tb ib fb))(hs:Us [a,b] X.env=[(false,eval a X.env),(false,eval b X.env)]:=by rfl)(hs2:Us [b] X.env=[(false,eval b X.env)]:=by rfl)(he:Us (a::[b]) X.env=(false,eval a X.env)::Us [b] X.env:=by rfl)(he2:Us (b::[]) X.env=(false,eval b X.env)::Us [] X.env:=by rfl):
  PI X tg (.Call (.Name "range" p') [a,b] [] pos) (CY K ml (pa&&pb) (iR2 fa fb)):=(B4 hg hm (bM h (bM h' ZY he2) he) hs hs2).imp λσ H R ⟨B,O,δ,ds,δ',S,q,k⟩=>by
 unfold iR2 at q;cases h1:fa δ with
 |none=>rw[h1] at q;cases q
 |some p=>
  obtain⟨x,δ1⟩:=p;rw[h1] at q;cases h2:fb δ1 with
  |none=>simp[h2] at q
  |some p2=>
   obtain⟨y,δ2⟩:=p2;simp only[Af,h2] at q;cases x with
   |int i=>
    cases y with
    |int j=>
     have q:(if(-4611686018427387904<=i/\i<4611686018427387904)/\ -4611686018427387904<=j/\j<4611686018427387904 then some (ZC i (j - i).toNat,δ2) else none)=some (ds,δ'):=q;split at q
     ·rename_i hj
      cases q;have p62:(2:Int) ^ 62=4611686018427387904:=by decide
      refine⟨B,O,δ,_,_,S,h1,λv H1 R1=>⟨B,O,δ1,_,_,R1.sta,h2,λv2 H2 R2=>⟨i,j,?_,by rw[p62];exact⟨hj.1.1,hj.1.2,hj.2.1,hj.2.2⟩,k _ [] H2 (R2.sta.keepV λ_ z=>nomatch z) (R1.frm.trans R2.frm) (λz=>by obtain⟨z1,z2⟩:=(Ae _ _).mp z;exact(R1.pur z1).trans (R2.pur z2)) IK⟩⟩⟩
      have r1:=R1.rep;have r2:=R2.rep;cases r1;cases r2;rfl
     ·cases q
    |_=>cases q
   |_=>cases q
noncomputable def WQ(gg:VG)(s:VS):List cX->VS
 |[]=>λδ=>some (.nx δ)
 |d::r=>λδ=>(gg d δ).bind λδ1=>(s δ1).bind (again (WQ gg s r))
def PX(fi:VI)(gg:VG)(s:VS):VS:=λδ=>(fi δ).bind λp=>WQ gg s p.1 p.2
theorem UW{tg iter:Ux}{body:List Vd}{fi:VI}{gg:VG}(hp:Rt (Uv X.prog X.w) X.A X.env X.xe)(hc:X.calm=true)(hi:PI X tg iter (CY K ml pu fi))(hg:PG X tg (TGV K ml gg))(hb:W2 X body (WE K ml g))
  (hs:∀x,Vb iter X.env x=pure x:=by intro _;rfl):PS X (.For tg iter body [] pos) (WE K ml (PX fi gg g)):=(lP hp hc hi hg hb hs).imp λD σ H ⟨B,O,δ,o,S,q,k⟩=>by
 unfold PX at q;cases h1:fi δ with
 |none=>rw[h1] at q;cases q
 |some p=>
  obtain⟨ds,δ1⟩:=p;rw[h1] at q;have q:WQ gg g ds δ1=some o:=q;refine⟨B,O,δ,ds,δ1,S,h1,λJ kps H1 S1 _ _ wk=>?_⟩;refine⟨λi m σ H=>m=ds.length - i/\i<=ds.length/\∃O δ,aS K ml {B with kp:=kps++B.kp} O H σ δ/\WQ gg g (ds.drop i) δ=some o,⟨ds.length,rfl,Di _,O,δ1,S1,q⟩,?_⟩;rintro i m σ H ⟨rfl,hi,O,δ,S,hf⟩;have w:=wk (Nn B O) H λp hp=>S.kep p (Bk _ hp);by_cases hlt:i<ds.length
  ·obtain ⟨go,yl⟩ := w.1 i ds[i] (by simp [hlt])
   rw[Dt hlt] at hf;refine .inr ⟨go,λσ' H'=>∃O δ,aS K ml {B with kp:=kps++B.kp} O H' σ' δ/\WQ gg g (ds.drop (i+1)) δ=some o,λσ' H' w'=>⟨ds.length - (i+1),by lia,rfl,hlt,w'⟩,λx H' hy=>?_⟩;obtain⟨sm,rx⟩:=yl x H' hy;have hf:((gg ds[i] δ).bind λδ1=>(g δ1).bind (again (WQ gg g (ds.drop (i+1)))))=some o:=hf;cases h2:gg ds[i] δ with
   |none=>rw[h2] at hf;cases hf
   |some δ2=>
    rw[h2] at hf;have hf:(g δ2).bind (again (WQ gg g (ds.drop (i+1))))=some o:=hf;refine⟨_,O,δ,ds[i],δ2,S.same sm,rx,h2,λσ2 O2 S2 _=>?_⟩;cases h3:g δ2 with
    |none=>rw[h3] at hf;cases hf
    |some z=>
     rw[h3] at hf;refine⟨_,O2,δ2,z,S2,h3,?_⟩;cases z with
     |nx δ3=>exact λσ' H' O' S'=>⟨O',δ3,S',hf⟩
     |ct δ3=>exact λσ' H' O' S'=>⟨O',δ3,S',hf⟩
     |bk δ3=>cases hf;exact λσ' H' O' S'=>k σ' H' O' S'.unkeep
     |rt d δ3=>cases hf;exact λv σ' H' O' S' r=>k v σ' H' O' S'.unkeep r
  ·have e : i = ds.length := by lia
   subst e;rw[Gj] at hf;cases hf;exact .inl ⟨w.2,k σ H O S.unkeep⟩
end
section
variable{X:Cx}{K:Ai}{ml:List Nat}{e a b c:Ux}{es:List Ux}{pa ta ia pb tb ib pc tc ic pu bt bi ps bs:Bool}{fa fb fc f:VF}{B B':Bs}{O:Nat->Option Ur}{H H1 H':Hp}{σ:St}{δ δ':Ev}{v:V}{d:cX}{p:Ur}{pos:Pos}{st:Vd}{rest:List Vd}{g g':VS}
theorem aS.call{P:Ur->Prop}(S:aS K ml B O H σ δ)(hl:δ'.length=δ.length)(h:∀i:Nat,(δ'[i]?=δ[i]? /\∀a,O i=some a->¬P a)∨∃a d',O i=some a/\δ'[i]?=some (Sl.ow d')/\OV K (Nn B O) H' a d')
  (f:Fr P H H') (hP:∀a,P a->OA O a):aS K ml B O H' σ δ' where
 len:=by rw[hl,S.len]
 va:=λi d e=>by
  rcases h i with⟨e1,_⟩|⟨a,d',_,e1,_⟩
  ·rw[e1] at e
   obtain⟨v,e2,r⟩:=S.va i d e;exact⟨v,e2,r.fr f (λa z=>.inr (hP a z)) λa z=>.inr (hP a z)⟩
  ·rw[e1] at e
   cases e
 ow:=λi d e=>by
  rcases h i with⟨e1,n⟩|⟨a,d',e2,e1,w⟩
  ·rw[e1] at e
   obtain⟨a,e2,e3,w⟩:=S.ow i d e;exact⟨a,e2,e3,w.fr f (λa z=>.inr (hP a z)) (n a e2)⟩
  ·rw[e1] at e
   cases e;obtain⟨d0,q0⟩:=S.dom i a e2;obtain⟨a',e3,e4,_⟩:=S.ow i d0 q0;rw[e2] at e3;cases e3;exact⟨a,e2,e4,w⟩
 dom:=λi a e=>by
  rcases h i with⟨e1,n⟩|⟨a,d',e2,e1,w⟩
  ·obtain⟨d0,q0⟩:=S.dom i a e
   exact⟨d0,e1.trans q0⟩
  ·exact⟨d',e1⟩
 inj:=S.inj
 old:=S.old
 zin:=λa h'=>by
  obtain⟨o,q⟩:=S.zin a h';exact⟨o,f a o q λz=>by obtain⟨i,e⟩:=hP a z;exact absurd h' (S.old i a e).1⟩
 frm:=λb o q n=>by
  have h1:=S.frm b o q n;refine f b o h1 λz=>?_;obtain⟨i,e⟩:=hP b z;rcases(S.old i b e).2 with w|w
  ·exact n w
  ·rw[q] at w;cases w
 par:=S.par
 pin:=λa h'=>by
  obtain⟨o,q⟩:=S.pin a h';by_cases z:P a
  ·obtain⟨i,e⟩:=hP a z
   rcases h i with⟨_,n⟩|⟨a',d',e2,e1,w⟩
   ·exact absurd z (n a e)
   ·rw[e] at e2
    cases e2;obtain⟨o,q,_⟩:=w.soft;exact⟨o,q⟩
  ·exact⟨o,f a o q λy=>absurd y z⟩
 kep:=λp hp=>(S.kep p hp).fr f (λa z=>.inr (hP a z)) λa z=>.inr (hP a z)
abbrev bC:=List cX->Option (cX×List cX)
def MP(ml:List Nat)(vs:List V):Ur->Prop:=λa=>∃i∈ml,vs[i]?=some (.ref a)
def Zp(Z:Ur->Prop)(ml:List Nat)(vs:List V):Ur->Prop:=λa=>Z a∨MP ml vs a
structure Wc(K:Ai)(ml:List Nat)(Z:Ur->Prop)(H:Hp)(vs:List V)(ds:List cX):Prop where
 len:vs.length=ds.length
 mem:∀i∈ml,i<ds.length
 va:∀(i:Nat) (d:cX),i∉ml->ds[i]?=some d->∃v,vs[i]?=some v/\bI K (Zp Z ml vs) H (Zp Z ml vs) v d
 ow:∀(i:Nat) (d:cX),i∈ml->ds[i]?=some d->∃a,vs[i]?=some (.ref a)/\OV K (Zp Z ml vs) H a d/\¬Z a
 inj:∀(i j:Nat) (a:Ur),i∈ml->j∈ml->vs[i]?=some (.ref a)->vs[j]?=some (.ref a)->i=j
 zin:∀a,Z a->∃o,H a=some o
def spV(K:Ai)(ml:List Nat)(n:Nat)(F:bC):Sp:=λvs H Q _=>∃(Z:Ur->Prop) (ds:List cX) (r:cX) (os:List cX),ds.length=n/\Wc K ml Z H vs ds/\F ds=some (r,os)∧
 ∀v H',Fr (MP ml vs) H H'->(∀(k i:Nat) (a:Ur) (o:cX),ml[k]?=some i->vs[i]?=some (.ref a)->os[k]?=some o->OV K (Zp Z ml vs) H' a o)->bI K (Zp Z ml vs) H' (Zp Z ml vs) v r->Q v H'
def bD(ml:List Nat)(n:Nat)(ds:List cX):Ev:=ds.mapIdx (λi d=>if i∈ml then Sl.ow d else Sl.va d)++As (n - ds.length) Sl.no
noncomputable def UR(ml:List Nat)(δ:Ev):Option (List cX):=ml.mapM λ(i:Nat)=>match(δ[i]? :Option Sl) with
 |some (Sl.ow d)=>some d
 |_=>none
noncomputable def Z5(n:Nat)(ml:List Nat)(g:VS):bC:=λds=>(g (bD ml n ds)).bind λo=>match o with
 |.rt d δ=>(UR ml δ).map λos=>(d,os)
 |.nx δ=>(UR ml δ).map λos=>(.non,os)
 |_=>none
theorem HG:∀{ml:List Nat} {δ:Ev} {os:List cX},UR ml δ=some os->∀(k i:Nat) (o:cX),ml[k]?=some i->os[k]?=some o->δ[i]?=some (.ow o)
 |[],_,_,h,k,i,o,e1,e2=>by simp at e1
 | j :: ml,δ,os,h,k,i,o,e1,e2 => by
  unfold UR at h;rw[Ss] at h;split at h
  ·rename_i d hd
   cases h2:(ml.mapM λ(i:Nat)=>match(δ[i]? :Option Sl) with
    |some (Sl.ow d)=>some d
    |_=>none:Option (List cX)) with
   |none=>rw[h2] at h;cases h
   |some os2=>
    rw[h2] at h;cases h;cases k with
    |zero=>
     cases e1;cases e2;exact hd
    |succ k=>exact HG (ml:=ml) h2 k i o (by simpa using e1) (by simpa using e2)
  ·cases h
theorem MD{N:List Uw}{Z:Ur->Prop}{vs:List V}{ds:List cX}(A:Wc K ml Z H vs ds)(hn:ds.length<=N.length):∃mu:Nat->Option Ur,(∀i a,mu i=some a↔i∈ml/\vs[i]?=some (.ref a))/\aS K ml ⟨Z,MP ml vs,H,mu,[]⟩ mu H (start N vs) (bD ml N.length ds):=by
 classical
 let mu:Nat->Option Ur:=λi=>if i∈ml then(match vs[i]? with
  |some (.ref a)=>some a
  |_=>none) else none
 have hmu:∀i a,mu i=some a↔i∈ml/\vs[i]?=some (.ref a):=λi a=>by
  show(if i∈ml then(match vs[i]? with
   |some (.ref a)=>some a
   |_=>none) else none)=some a↔_
  by_cases hi:i∈ml
  ·rw[if_pos hi]
   constructor
   ·intro h
    split at h
    ·rename_i b hb
     cases h;exact⟨hi,hb⟩
    ·cases h
   ·rintro ⟨_,h⟩
    rw[h]
  ·rw[if_neg hi]
   exact⟨(λh=>nomatch h),λh=>absurd h.1 hi⟩
 have hN:∀a,Nn ⟨Z,MP ml vs,H,mu,[]⟩ mu a->Zp Z ml vs a:=λa h=>by
  rcases h with h|⟨i,h⟩
  ·exact .inl h
  ·exact .inr ⟨i,(hmu i a).mp h⟩
 have nu:∀(i:Nat) (s:Sl),(bD ml N.length ds)[i]?=some s->(∃d,ds[i]?=some d/\s=if i∈ml then .ow d else .va d)∨s=.no:=λi s h=>by
  unfold bD at h;by_cases hi:i<ds.length
  ·rw [Ak (by simpa using hi),Nf] at h
   cases q:ds[i]? with
   |none=>rw[q] at h;cases h
   |some d=>rw[q] at h;cases h;exact .inl ⟨d,rfl,rfl⟩
  ·rw [Ch (by simpa using hi),Cj] at h
   split at h
   ·cases h;exact .inr rfl
   ·cases h
 have hst:∀(i:Nat) (v:V),vs[i]?=some v->(start N vs)[i]?=some (some v):=λi v h=>by unfold start;have hi:i<vs.length:=(Ah.mp h).1;rw[Ak (by simpa using hi),Co,h];rfl
 refine⟨mu,hmu,?_,λi d q=>?_,λi d q=>?_,λi a q=>?_,λi j a q1 q2=>?_,λi a q=>?_,A.zin,Fr.refl _ _,⟨λi a q=>((hmu i a).mp q).1,λi _=>rfl⟩,λa q=>?_,λp hp=>nomatch hp⟩
 ·unfold start bD
  have:=A.len;simp;lia
 ·rcases nu i _ q with⟨e,h1,h2⟩|h
  ·by_cases hi:i∈ml
   ·rw[if_pos hi] at h2;cases h2
   ·rw[if_neg hi] at h2
    cases h2;obtain⟨v,e1,r⟩:=A.va i d hi h1;exact⟨v,hst i v e1,r.mono hN hN⟩
  ·cases h
 ·rcases nu i _ q with⟨e,h1,h2⟩|h
  ·by_cases hi:i∈ml
   ·rw[if_pos hi] at h2
    cases h2;obtain⟨a,e1,w,_⟩:=A.ow i d hi h1;exact⟨a,(hmu i a).mpr ⟨hi,e1⟩,hst i _ e1,w.mono hN⟩
   ·rw[if_neg hi] at h2;cases h2
  ·cases h
 ·obtain⟨hi,e1⟩:=(hmu i a).mp q
  have hl:=A.mem i hi;refine⟨ds[i],?_⟩;unfold bD;rw[Ak (by simpa using hl),Nf];simp[hl,hi]
 ·exact A.inj i j a ((hmu i a).mp q1).1 ((hmu j a).mp q2).1 ((hmu i a).mp q1).2 ((hmu j a).mp q2).2
 ·obtain⟨hi,e1⟩:=(hmu i a).mp q
  refine⟨λz=>?_,.inl ⟨i,hi,e1⟩⟩;obtain⟨a',e2,_,n⟩:=A.ow i (ds[i]'(A.mem i hi)) hi (by simp[A.mem i hi]);rw[e1] at e2;cases e2;exact n z
 ·obtain⟨i,hi,e1⟩:=q
  obtain⟨a',e2,w,n⟩:=A.ow i (ds[i]'(A.mem i hi)) hi (by simp[A.mem i hi]);rw[e1] at e2;cases e2;obtain⟨o,q,_⟩:=w.soft;exact⟨o,q⟩
theorem Yb{N ps:List Uw}{vs:List V}{Q:VK}{E:XK}(hps:ps.length<=N.length)(h:spV K ml ps.length (Z5 N.length ml g) vs H Q E):WE K ml g {nx:=λ_ H'=>Q .non H',rt:=Q} (start N vs) H:=by
 obtain⟨Z,ds,r,os,hn,AV,hF,k⟩:=h;obtain⟨mu,hmu,S0⟩:=MD (N:=N) AV (by rw[hn];exact hps);unfold Z5 at hF;cases h1:g (bD ml N.length ds) with
 |none=>rw[h1] at hF;cases hF
 |some o=>
  rw[h1] at hF;refine⟨_,mu,_,o,S0,h1,?_⟩;have fin:∀(δ':Ev) (v:V) (σ':St) (H':Hp) (O':Nat->Option Ur),UR ml δ'=some os->aS K ml ⟨Z,MP ml vs,H,mu,[]⟩ O' H' σ' δ'->bI K (rz ⟨Z,MP ml vs,H,mu,[]⟩) H' (rz ⟨Z,MP ml vs,H,mu,[]⟩) v r->Q v H':=λδ' v σ' H' O' ho S' hr'=>by
   have hz:∀a,Zp Z ml vs a->rz ⟨Z,MP ml vs,H,mu,[]⟩ a:=λa h=>by
    rcases h with h|⟨i,hi,e⟩
    ·exact .inl h
    ·exact .inr ⟨i,(hmu i a).mpr ⟨hi,e⟩⟩
   refine k v H' S'.frm (λkk i a o e1 e2 e3=>?_) (hr'.mono hz hz);have hd:=HG ho kk i o e1 e3;obtain⟨a',e4,_,w⟩:=S'.ow i o hd;have hi:i∈ml:=Ew e1;have:=(S'.par.2 i hi).trans ((hmu i a).mpr ⟨hi,e2⟩);rw[this] at e4;cases e4;refine w.mono λb hb=>?_;rcases hb with hb|⟨j,hj,e5⟩
   ·exact .inl hb
   ·exact .inr ⟨j,(S'.par.2 j hj).trans ((hmu j b).mpr ⟨hj,e5⟩)⟩
  cases o with
  |rt d δ'=>
   have hF:(UR ml δ').map (λos=>(d,os))=some (r,os):=hF;cases h2:UR ml δ' with
   |none=>rw[h2] at hF;cases hF
   |some os'=>
    rw[h2] at hF;cases hF;exact λv σ' H' O' S' hr'=>fin δ' v σ' H' O' h2 S' hr'
  |nx δ'=>
   have hF:(UR ml δ').map (λos=>(cX.non,os))=some (r,os):=hF;cases h2:UR ml δ' with
   |none=>rw[h2] at hF;cases hF
   |some os'=>
    rw[h2] at hF;cases hF;exact λσ' H' O' S'=>fin δ' .non σ' H' O' h2 S' .non
  |bk δ'=>cases hF
  |ct δ'=>cases hF
theorem YZ.okV{P:Av}{w:Uy}{mg:Uw->Option Uq}{base:Va}{x qual:Uw}{st:Vd}{f:Ur}{fd:Df}{N ps:List Uw}{k:Nat}(F:YZ K x qual st f fd)(S:cG N ps (cU st))(hps:ps.length<=N.length)(ap:∀(cdv:Uq) (A:Br) (outer:List Env) (s:Ad) (H:Hp) (E:XK),ZG k (A.deeper (envOfC qual (cU st) s.heap.objs.size f cdv))->W2 (TJ CX0 P w K mg base N qual (cU st) f cdv A outer s H E).nox (aT st) (WE K ml g)):aW P w K mg base CX0 (k+1) f fd ps (spV K ml ps.length (Z5 N.length ml g)):=by refine F.ok S (λvs H Q E h=>?_) (λcdv A outer s H vs Q E hr h=>⟨_,ap cdv A outer s H E hr,Yb hps h⟩);obtain⟨Z,ds,r,os,hn,AV,_⟩:=h;rw[AV.len,hn]
inductive AV where
 |d (d:cX)|o (j:Nat)
inductive V4(K:Ai)(N:Ur->Prop)(H:Hp)(σ:St):List V->List AV->Prop
 |nil:V4 K N H σ [] []
 |d {v:V} {vs:List V} {d:cX} {as:List AV}:bI K N H N v d->V4 K N H σ vs as->V4 K N H σ (v::vs) (.d d::as)
 |o {v:V} {vs:List V} {j:Nat} {as:List AV}:σ[j]?=some (some v)->V4 K N H σ vs as->V4 K N H σ (v::vs) (.o j::as)
abbrev PP:=Ev->Option (List AV×Ev)
structure ResG(K:Ai)(ml:List Nat)(B:Bs)(O:Nat->Option Ur)(H:Hp)(σ:St)(pu:Bool)(H':Hp)(δ':Ev)(vs:List V)(as:List AV):Prop where
 sta:aS K ml B O H' σ δ'
 frm:Fr (OA O) H H'
 pur:pu=true->aZ H H'
 rep:V4 K (Nn B O) H' σ vs as
def EU(K:Ai)(ml:List Nat)(pu:Bool)(f:PP):TA:=λσ H Q=>∃B O δ as δ',aS K ml B O H σ δ/\f δ=some (as,δ')/\∀vs H',ResG K ml B O H σ pu H' δ' vs as->Q vs H'
def cA:PP:=λδ=>some ([],δ)
noncomputable def aE(f:VF)(fs:PP):PP:=λδ=>(f δ).bind λp=>(fs p.2).map λq=>(.d p.1::q.1,q.2)
noncomputable def slot(δ:Ev)(j:Nat):Option cX:=match δ[j]? with
 |some (.va d)=>some d
 |some (.ow d)=>some d
 |_=>none
noncomputable def aO(j:Nat)(fs:PP):PP:=λδ=>(slot δ j).bind λ_=>(fs δ).map λq=>(.o j::q.1,q.2)
theorem cO:PA X [] (EU K ml true cA):=ZY.imp λσ H Q q0=>by obtain⟨B,O,δ,d,δ',S,q,k⟩:=q0;cases q;exact k [] H ⟨S,Fr.refl _ _,λ_=>aZ.refl _,.nil⟩
theorem cR{fs:PP}(ha:PE X a (TV K ml pa true true fa))(hr:PA X es (EU K ml ps fs))(hs:Us (a::es) X.env=(false,eval a X.env)::Us es X.env:=by rfl):PA X (a::es) (EU K ml (pa&&ps) (aE fa fs)):=(bM ha hr hs).imp λσ H Q q0=>by
 obtain⟨B,O,δ,as,δ2,S,q,k⟩:=q0;unfold aE at q;cases h1:fa δ with
 |none=>rw[h1] at q;cases q
 |some p=>
  obtain⟨x,δ1⟩:=p;rw[h1] at q;have q:((fs δ1).map λq=>(AV.d x::q.1,q.2))=some (as,δ2):=q;cases h2:fs δ1 with
  |none=>rw[h2] at q;cases q
  |some p2=>
   rw[h2] at q;cases q;refine⟨B,O,δ,x,δ1,S,h1,λv1 H1 R1=>⟨B,O,δ1,_,_,R1.sta,h2,λvs H2 R2=>k _ H2 ⟨R2.sta,R1.frm.trans R2.frm,λz=>?_,.d (R1.rep.fr R2.frm (λa z=>.inr z) λa z=>.inr z) R2.rep⟩⟩⟩;obtain⟨z1,z2⟩:=(Ae _ _).mp z;exact(R1.pur z1).trans (R2.pur z2)
theorem MB{j:Nat}{d:cX}(h:slot δ j=some d):δ[j]?=some (.va d)∨δ[j]?=some (.ow d):=by
 unfold slot at h;split at h
 ·cases h;exact .inl (by assumption)
 ·cases h;exact .inr (by assumption)
 ·cases h
theorem aS.slot(S:aS K ml B O H σ δ){j:Nat}{d:cX}(h:slot δ j=some d):∃v,σ[j]?=some (some v):=by
 rcases MB h with h|h
 ·obtain⟨v,e,_⟩:=S.va j d h
  exact⟨v,e⟩
 ·obtain⟨a,_,e,_⟩:=S.ow j d h
  exact⟨_,e⟩
theorem a7{fs:PP}{j:Nat}(ha:PE X a (KJ j))(hr:PA X es (EU K ml ps fs))(hs:Us (a::es) X.env=(false,eval a X.env)::Us es X.env:=by rfl):PA X (a::es) (EU K ml ps (aO j fs)):=(bM ha hr hs).imp λσ H Q q0=>by
 obtain⟨B,O,δ,as,δ2,S,q,k⟩:=q0;unfold aO at q;cases h1:slot δ j with
 |none=>rw[h1] at q;cases q
 |some d=>
  rw[h1] at q;have q:((fs δ).map λq=>(AV.o j::q.1,q.2))=some (as,δ2):=q;cases h2:fs δ with
  |none=>rw[h2] at q;cases q
  |some p2=>
   rw[h2] at q;cases q;obtain⟨v,e⟩:=S.slot h1;exact⟨v,e,B,O,δ,_,_,S,h2,λvs H2 R2=>k _ H2 ⟨R2.sta,R2.frm,R2.pur,.o e R2.rep⟩⟩
theorem V4.length:∀{N:Ur->Prop} {vs:List V} {as:List AV},V4 K N H σ vs as->vs.length=as.length
 |_,_,_,.nil=>rfl
 |_,_,_,.d _ t=>congrArg (· +1) (V4.length t)
 |_,_,_,.o _ t=>congrArg (· +1) (V4.length t)
theorem V4.getD:∀{N:Ur->Prop} {vs:List V} {as:List AV} {i:Nat} {d:cX},V4 K N H σ vs as->as[i]?=some (.d d)->∃v,vs[i]?=some v/\bI K N H N v d
 |_,_,_,_,_,.nil,e=>by simp at e
 |_,_,_,0,_,.d h _,e=>by simp at e;subst e;exact⟨_,rfl,h⟩
 |_,_,_,0,_,.o h _,e=>by simp at e
 |_,_,_,i+1,_,.d _ t,e=>by obtain⟨u,h1,h2⟩:=V4.getD (i:=i) t (by simpa using e);exact⟨u,by simpa using h1,h2⟩
 |_,_,_,i+1,_,.o _ t,e=>by obtain⟨u,h1,h2⟩:=V4.getD (i:=i) t (by simpa using e);exact⟨u,by simpa using h1,h2⟩
theorem V4.getO:∀{N:Ur->Prop} {vs:List V} {as:List AV} {i j:Nat},V4 K N H σ vs as->as[i]?=some (.o j)->∃v,vs[i]?=some v/\σ[j]?=some (some v)
 |_,_,_,_,_,.nil,e=>by simp at e
 |_,_,_,0,_,.d h _,e=>by simp at e
 |_,_,_,0,_,.o h _,e=>by simp at e;subst e;exact⟨_,rfl,h⟩
 |_,_,_,i+1,_,.d _ t,e=>by obtain⟨u,h1,h2⟩:=V4.getO (i:=i) t (by simpa using e);exact⟨u,by simpa using h1,h2⟩
 |_,_,_,i+1,_,.o _ t,e=>by obtain⟨u,h1,h2⟩:=V4.getO (i:=i) t (by simpa using e);exact⟨u,by simpa using h1,h2⟩
def argD(δ:Ev):AV->Option cX
 |.d d=>some d
 |.o j=>slot δ j
noncomputable def WW(δ:Ev):List AV->Option (List cX)
 |[]=>some []
 |a::as=>(argD δ a).bind λd=>(WW δ as).map λds=>d::ds
theorem KY:∀{as:List AV} {ds:List cX},WW δ as=some ds->as.length=ds.length/\∀(i:Nat) (d:cX),ds[i]?=some d->∃a,as[i]?=some a/\argD δ a=some d
 |[],ds,h=>by cases h;exact⟨rfl,λi d e=>by simp at e⟩
 | a :: as,ds,h => by
  unfold WW at h;cases h1:argD δ a with
  |none=>rw[h1] at h;cases h
  |some d=>
   rw[h1] at h;cases h2:WW δ as with
   |none=>simp[h2] at h
   |some ds'=>
    simp only[Af,h2] at h;cases h;obtain⟨l,g⟩:=KY h2;refine⟨by simp[l],λi e he=>?_⟩;cases i with
    |zero=>cases he;exact⟨a,rfl,h1⟩
    |succ i=>
     obtain⟨b,e1,e2⟩:=g i e (by simpa using he);exact⟨b,by simpa using e1,e2⟩
noncomputable def U4:List AV->List Nat
 |[]=>[]
 |.d _::as=>U4 as
 |.o j::as=>j::U4 as
theorem QR:∀{as:List AV} {i j:Nat},as[i]?=some (.o j)->j∈U4 as
 |[],_,_,e=>by simp at e
 |.d _::as,0,j,e=>by simp at e
 |.o k::as,0,j,e=>by simp at e;subst e;exact Ax
 |.d _::as,i+1,j,e=>QR (as:=as) (i:=i) (by simpa using e)
 |.o k::as,i+1,j,e=>Ap _ (QR (as:=as) (i:=i) (by simpa using e))
theorem DE:∀{as:List AV} {j:Nat},j∈U4 as->∃i:Nat,as[i]?=some (AV.o j)
 |[],_,h=>nomatch h
 |.d _::as,j,h=>by obtain⟨i,e⟩:=DE (as:=as) h;exact⟨i+1,by simpa using e⟩
 | .o k :: as,j,h => by
  rcases Al.mp h with e|e
  ·exact⟨0,by rw[e];rfl⟩
  ·obtain⟨i,e⟩:=DE (as:=as) e
   exact⟨i+1,by simpa using e⟩
theorem JU:∀{as:List AV} {i k j:Nat},(U4 as).Nodup->as[i]?=some (.o j)->as[k]?=some (.o j)->i=k
 |[],_,_,_,_,e,_=>by simp at e
 |.d _::as,0,_,j,_,e,_=>by simp at e
 |.d _::as,_+1,0,j,_,_,e=>by simp at e
 |.d _::as,i+1,k+1,j,n,e1,e2=>congrArg (· +1) (JU (as:=as) n (by simpa using e1) (by simpa using e2))
 |.o x::as,0,0,j,_,_,_=>rfl
 |.o x::as,0,k+1,j,n,e1,e2=>by
  simp at e1;subst e1;have h:as[k]?=some (.o x):=by simpa using e2
  exact absurd (QR h) (Cv.mp n).1
 |.o x::as,i+1,0,j,n,e1,e2=>by
  simp at e2;subst e2;have h:as[i]?=some (.o x):=by simpa using e1
  exact absurd (QR h) (Cv.mp n).1
 |.o x::as,i+1,k+1,j,n,e1,e2=>congrArg (· +1) (JU (as:=as) (Cv.mp n).2 (by simpa using e1) (by simpa using e2))
noncomputable def DJ(δ:Ev)(as:List AV)(i:Nat):Bool:=match as[i]? with
 |some (.o j)=>match δ[j]? with
  |some (.ow _)=>true
  |_=>false
 |_=>false
noncomputable def WU(mF:List Nat):List AV->Nat->Bool
 |[],_=>true
 |.d _::as,i=>WU mF as (i+1)
 |.o _::as,i=>decide (i∈mF)&&WU mF as (i+1)
theorem TY{mF:List Nat}:∀{as:List AV} {k i j:Nat},WU mF as k=true->as[i]?=some (.o j)->k+i∈mF
 |[],_,_,_,_,e=>by simp at e
 |.d _::as,k,0,j,h,e=>by simp at e
 |.o _::as,k,0,j,h,e=>by simp only[WU,Ae,decide_eq_true_eq] at h;exact h.1
 |.d _::as,k,i+1,j,h,e=>by have:=TY (as:=as) (k:=k+1) (i:=i) (j:=j) h (by simpa using e);rwa[show k+(i+1)=k+1+i by lia]
 |.o _::as,k,i+1,j,h,e=>by simp only[WU,Ae] at h;have:=TY (as:=as) (k:=k+1) (i:=i) (j:=j) h.2 (by simpa using e);rwa[show k+(i+1)=k+1+i by lia]
def UM:cX->Bool
 |.lst ds=>UK ds
 |.dct _ ds=>UK ds
 |_=>false
theorem OV.kids{N N':Ur->Prop}{a:Ur}(w:OV K N H a d)(h:UM d=true):OV K N' H a d:=by
 cases w with
 |lst q r=>exact .lst q (r.hard h)
 |dct q r=>exact .dct q (r.hard h)
noncomputable def V9(as:List AV):List Nat->List cX->Ev->Ev
 |i::is,o::os,δ=>match as[i]? with
  |some (.o j)=>V9 as is os (δ.set j (.ow o))
  |_=>V9 as is os δ
 |_,_,δ=>δ
theorem RV{as:List AV}:∀{is:List Nat} {os:List cX} {δ:Ev},(V9 as is os δ).length=δ.length
 |[],_,_=>rfl
 |_::_,[],_=>rfl
 |i::is,o::os,δ=>by
  unfold V9;split
  ·rw[RV,Cd]
  ·rw[RV]
theorem N8{as:List AV}:∀{is:List Nat} {os:List cX} {δ:Ev} (j:Nat),is.length=os.length->j<δ.length->(∃(k i:Nat) (o:cX),is[k]?=some i/\os[k]?=some o/\as[i]?=some (AV.o j)/\(V9 as is os δ)[j]?=some (Sl.ow o))∨((∀i∈is,as[i]? ≠some (AV.o j))/\(V9 as is os δ)[j]?=δ[j]?)
 |[],[],δ,j,_,_=>.inr ⟨(λi h=>nomatch h),rfl⟩
 | i :: is,o :: os,δ,j,hl,hj => by
  unfold V9;split
  ·rename_i j0 e0
   rcases N8 (is:=is) (os:=os) (δ:=δ.set j0 (.ow o)) j (by simpa using hl) (by rw[Cd];exact hj) with⟨k,i',o',h1,h2,h3,h4⟩|⟨h1,h2⟩
   ·exact .inl ⟨k+1,i',o',by simpa using h1,by simpa using h2,h3,h4⟩
   ·by_cases hjj:j=j0
    ·subst hjj
     rw[Db hj] at h2;exact .inl ⟨0,i,o,rfl,rfl,e0,h2⟩
    ·rw[Bu (Dk hjj)] at h2
     refine .inr ⟨λi' hi'=>?_,h2⟩;rcases Al.mp hi' with z|z
     ·rw[z,e0]
      intro w;cases w;exact hjj rfl
     ·exact h1 i' z
  ·rename_i hn
   rcases N8 (is:=is) (os:=os) (δ:=δ) j (by simpa using hl) hj with⟨k,i',o',h1,h2,h3,h4⟩|⟨h1,h2⟩
   ·exact .inl ⟨k+1,i',o',by simpa using h1,by simpa using h2,h3,h4⟩
   ·refine .inr ⟨λi' hi' => ?_,h2⟩
    rcases Al.mp hi' with z|z
    ·rw[z]
     exact λw=>hn j w
    ·exact h1 i' z
def VE(mF:List Nat)(as:List AV)(δ:Ev):Bool:=mF.all (DJ δ as)&&decide (U4 as).Nodup
noncomputable def WF(mF:List Nat)(as:List AV)(r:cX)(os:List cX):Bool:=(WU mF as 0 || r.hard)&&(WU mF as 0 || os.all UM)&&decide (mF.length=os.length)
noncomputable def cL(n:Nat)(mF:List Nat)(F:bC)(fs:PP):VF:=λδ=>(fs δ).bind λp=>(WW p.2 p.1).bind λds=>if ds.length=n/\VE mF p.1 p.2=true then(F ds).bind λq=>if WF mF p.1 q.1 q.2=true then some (q.1,V9 p.1 mF q.2 p.2) else none else none
theorem KM{n:Nat}{mF:List Nat}{F:bC}{fs:PP}{Q:VK}(h:TV K ml (ps && mF.isEmpty) true true (cL n mF F fs) σ H Q):ED (spV K mF n F) [] E0 (EU K ml ps fs) σ H Q:=by
 obtain⟨B,O,δ,d,δ2,S,q,k⟩:=h;unfold cL at q;cases h1:fs δ with
 |none=>rw[h1] at q;cases q
 |some p=>
  obtain⟨as,δ1⟩:=p;rw[h1] at q;have q:((WW δ1 as).bind λds=>if ds.length=n/\VE mF as δ1=true then(F ds).bind λq=>if WF mF as q.1 q.2=true then some (q.1,V9 as mF q.2 δ1) else none else none)=some (d,δ2):=q;cases h2:WW δ1 as with
  |none=>rw[h2] at q;cases q
  |some ds=>
   rw[h2] at q;have q:(if ds.length=n/\VE mF as δ1=true then(F ds).bind λq=>if WF mF as q.1 q.2=true then some (q.1,V9 as mF q.2 δ1) else none else none)=some (d,δ2):=q;split at q
   ·rename_i hc
    cases h3:F ds with
    |none=>rw[h3] at q;cases q
    |some z=>
     obtain⟨r,os⟩:=z;rw[h3] at q;have q:(if WF mF as r os=true then some (r,V9 as mF os δ1) else none)=some (d,δ2):=q;split at q
     ·rename_i hb
      cases q;obtain⟨hn,hc⟩:=hc;simp only[VE,Ae,decide_eq_true_eq,Ei] at hc;simp only[WF,Ae,decide_eq_true_eq] at hb;obtain⟨hmu,hnd⟩:=hc;obtain⟨⟨ql,qy⟩,ah⟩:=hb;refine⟨B,O,δ,as,δ1,S,h1,λvs H1 R=>?_⟩;show spV K mF n F (vs++[]) H1 Q E0;rw[Cu];obtain⟨hal,hag⟩:=KY h2;have hm:∀i∈mF,∃j a x,as[i]?=some (.o j)/\δ1[j]?=some (.ow x)/\O j=some a/\vs[i]?=some (.ref a)/\OV K (Nn B O) H1 a x:=λi hi=>by
       have:=hmu i hi;unfold DJ at this;split at this
       ·rename_i j ej
        split at this
        ·rename_i x ex
         obtain⟨a,e1,e2,w⟩:=R.sta.ow j x ex;obtain⟨v,e3,e4⟩:=R.rep.getO ej;rw[e2] at e4;cases e4;exact⟨j,a,x,ej,ex,e1,e3,w⟩
        ·cases this
       ·cases this
      have hP:∀a,MP mF vs a->∃i j,i∈mF/\as[i]?=some (.o j)/\O j=some a:=λa q0=>by obtain⟨i,hi,e⟩:=q0;obtain⟨j,a',x,e1,_,e2,e3,_⟩:=hm i hi;rw[e] at e3;cases e3;exact⟨i,j,hi,e1,e2⟩
      have hPO:∀a,MP mF vs a->OA O a:=λa h=>by obtain⟨i,j,_,_,e⟩:=hP a h;exact⟨j,e⟩
      have hZp:∀a,Zp (λa=>Nn B O a/\∀j∈U4 as,O j≠some a) mF vs a->Nn B O a:=λa h=>by
       rcases h with h|h
       ·exact h.1
       ·exact .inr (hPO a h)
      refine⟨λa=>Nn B O a/\∀j∈U4 as,O j≠some a,ds,_,os,hn,⟨by rw[<-hal,R.rep.length],λi hi=>?_,λi x hi e=>?_,λi x hi e=>?_,λi j a hi hj e1 e2=>?_,λa h=>R.sta.nin h.1⟩,h3,λv H2 f2 w2 r2=>?_⟩
      ·obtain⟨j,a,x,e1,_⟩:=hm i hi
       rw[<-hal];exact(Ah.mp e1).1
      ·obtain⟨a,e1,e2⟩:=hag i x e
       cases a with
       |d y=>
        cases e2;obtain⟨v,e3,r⟩:=R.rep.getD e1;exact⟨v,e3,r.mono hZp hZp⟩
       |o j=>
        obtain⟨v,e3,e4⟩:=R.rep.getO e1;refine⟨v,e3,?_⟩;rcases MB e2 with e5|e5
        ·obtain⟨v',e6,r⟩:=R.sta.va j x e5
         rw[e4] at e6;cases e6;exact r.mono hZp hZp
        ·obtain⟨a,e7,e6,w⟩:=R.sta.ow j x e5
         rw[e4] at e6;cases e6;refine(w.mono hZp).rep λz=>?_;rcases z with z|z
         ·exact z.2 j (QR e1) e7
         ·obtain⟨i',j',hi',e8,e9⟩:=hP a z
          have:j=j':=R.sta.inj j j' a e7 e9;subst this;have:=JU hnd e1 e8;subst this;exact hi hi'
      ·obtain⟨a,e1,e2⟩:=hag i x e
       obtain⟨j,b,y,e3,e4,e5,e6,w⟩:=hm i hi;rw[e3] at e1;cases e1;have e7:slot δ1 j=some y:=by unfold slot;rw[e4]
       have e2:slot δ1 j=some x:=e2;rw[e7] at e2;cases e2;exact⟨b,e6,w.mono hZp,λz=>z.2 j (QR e3) e5⟩
      ·obtain⟨j1,b1,_,e3,_,e4,e5,_⟩:=hm i hi
       obtain⟨j2,b2,_,e6,_,e7,e8,_⟩:=hm j hj;rw[e1] at e5;cases e5;rw[e2] at e8;cases e8;have:j1=j2:=R.sta.inj j1 j2 a e4 e7;subst this;exact JU hnd e3 e6
      ·have S2:aS K ml B O H2 σ (V9 as mF os δ1):=by
        refine R.sta.call RV (λj=>?_) f2 hPO;by_cases hj:j<δ1.length
        ·rcases N8 (as:=as) (is:=mF) (os:=os) (δ:=δ1) j ah hj with⟨kk,i,o,e1,e2,e3,e4⟩|⟨e1,e2⟩
         ·obtain⟨j',a,x,e5,_,e6,e7,_⟩:=hm i (Ew e1)
          rw[e3] at e5;cases e5;have w:=w2 kk i a o e1 e7 e2;refine .inr ⟨a,o,e6,e4,?_⟩;rcases(Ih _ _).mp qy with z|z
          ·refine w.mono λb hb => ?_
           by_cases hjs:∃j'∈U4 as,O j'=some b
           ·obtain⟨j',hj',e8⟩:=hjs
            obtain⟨i',e9⟩:=DE hj';have hi':=TY z e9;rw[Ja] at hi';obtain⟨j'',a'',_,e10,_,e11,e12,_⟩:=hm i' hi';rw[e9] at e10;cases e10;rw[e8] at e11;cases e11;exact .inr ⟨i',hi',e12⟩
           ·exact .inl ⟨hb,λj' hj' e=>hjs ⟨j',hj',e⟩⟩
          ·exact w.kids (Ei.mp z o (Ew e2))
         ·refine .inl ⟨e2,λa ea hPa => ?_⟩
          obtain⟨i,j',hi,e3,e4⟩:=hP a hPa;have:j=j':=R.sta.inj j j' a ea e4;subst this;exact e1 i hi e3
        ·refine .inl ⟨?_,λa ea => ?_⟩
         ·rw[Bp (by rw[RV];lia),Bp (by lia)]
         ·obtain⟨x,ex⟩:=R.sta.dom j a ea
          exact absurd (Ah.mp ex).1 hj
       refine k v H2 ⟨S2,R.frm.trans (f2.mono hPO),λz=>?_,?_⟩
       ·obtain⟨z1,z2⟩:=(Ae _ _).mp z
        refine(R.pur z1).trans λb o e=>f2 b o e λw=>?_;obtain⟨i,hi,_⟩:=w;rw[Qu.mp z2] at hi;cases hi
       ·rcases(Ih _ _).mp ql with z|z
        ·have hN : ∀ a,Nn B O a -> Zp (λa => Nn B O a /\ ∀ j ∈ U4 as,O j ≠ some a) mF vs a := λb hb => by
          by_cases hjs:∃j'∈U4 as,O j'=some b
          ·obtain⟨j',hj',e8⟩:=hjs
           obtain⟨i',e9⟩:=DE hj';have hi':=TY z e9;rw[Ja] at hi';obtain⟨j'',a'',_,e10,_,e11,e12,_⟩:=hm i' hi';rw[e9] at e10;cases e10;rw[e8] at e11;cases e11;exact .inr ⟨i',hi',e12⟩
          ·exact .inl ⟨hb,λj' hj' e=>hjs ⟨j',hj',e⟩⟩
         exact r2.mono hN hN
        ·exact r2.hard z
     ·cases q
   ·cases q
theorem nV{x:Uw}{kk j n:Nat}{qs:List Uw}{mF:List Nat}{F:bC}{ff:Ur}{p':Pos}{fs:PP}(hK:X.K=K)(D:Def X.prog X.w K X.mg X.base x kk qs (spV K mF n F) ff)(hr:ZG j X.A)(hk:kk<=j)(hg:Gl X x)(ha:PA X (e::es) (EU K ml ps fs))(hdb:(x==("__debug__":Uw))=false:=by decide)(he:Us (e::es) X.env=(false,eval e X.env)::Us es X.env:=by rfl)(hpl:(Dv pos (Us es X.env)).any (·.1)=false:=by rfl):PE X (.Call (.Name x p') (e::es) [] pos) (TV K ml (ps&&mF.isEmpty) true true (cL n mF F fs)):=by subst hK;exact(gR D hr hk hg ha hdb he hpl).imp λ_ _ _ h=>KM h
end
section
variable{X:Cx}{K:Ai}{ml:List Nat}{e a b c:Ux}{es:List Ux}{pi pt pe pu bt bi ps bs:Bool}{f:VF}{B B':Bs}{O:Nat->Option Ur}{H H0 H1 H':Hp}{σ:St}{δ δ':Ev}{v:V}{d:cX}{p:Ur}{pos:Pos}{ix:List Nat}{nl:Nat}
def bE(ix:List Nat)(δ:Ev):Ev:=ix.map λi=>(δ[i]?).getD .no
def P8(nl:Nat):Ev:=As nl Sl.no
noncomputable def Z9(n nl:Nat)(gg:VG)(tb:VB)(fe:VF):List cX->List cX->Ev->Option (List cX×Ev)
 |[],acc,δ=>some (acc,δ)
 |d::r,acc,δ=>(gg d (δ++P8 nl)).bind λδ1=>(tb δ1).bind λp=>if p.1=true then(fe p.2).bind λq=>if acc.length<16777216 then Z9 n nl gg tb fe r (acc++[q.1]) (q.2.take n) else none else Z9 n nl gg tb fe r acc (p.2.take n)
noncomputable def ZV:List Nat->Ev->Ev->Ev
 |i::is,s::ss,δ=>match s with
  |.ow d=>ZV is ss (δ.set i (.ow d))
  |_=>ZV is ss δ
 |_,_,δ=>δ
noncomputable def ZW(ix:List Nat)(nl:Nat)(fi:VI)(gg:VG)(tb:VB)(fe:VF):VF:=λδ=>(fi δ).bind λp=>(Z9 ix.length nl gg tb fe p.1 [] (bE ix p.2)).map λq=>(.lst q.1,ZV ix q.2 p.2)
def U1:VB:=λδ=>some (true,δ)
theorem X2:∀{ix:List Nat} {ss δ:Ev},(ZV ix ss δ).length=δ.length
 |[],_,_=>rfl
 |_::_,[],_=>rfl
 |i::is,s::ss,δ=>by
  cases s<;>simp only[ZV]<;>rw[X2]<;>try rw[Cd]
theorem W3:∀{ix:List Nat} {ss δ:Ev} (i:Nat),i<δ.length->ix.length=ss.length->(∃(j:Nat) (d:cX),ix[j]?=some i/\ss[j]?=some (Sl.ow d)/\(ZV ix ss δ)[i]?=some (Sl.ow d))∨((∀(j:Nat) (d:cX),ix[j]?=some i->ss[j]? ≠some (Sl.ow d))/\(ZV ix ss δ)[i]?=δ[i]?)
 |[],ss,δ,i,hi,hl=>.inr ⟨(λj d h=>by simp at h),rfl⟩
 |k::is,[],δ,i,hi,hl=>by cases hl
 | k :: is,s :: ss,δ,i,hi,hl => by
  have hl2:is.length=ss.length:=by simpa using hl
  cases s with
  |ow d=>
   simp only[ZV];rcases W3 (ix:=is) (ss:=ss) (δ:=δ.set k (.ow d)) i (by rw[Cd];exact hi) hl2 with⟨j,d',h1,h2,h3⟩|⟨h1,h2⟩
   ·exact .inl ⟨j+1,d',by simpa using h1,by simpa using h2,h3⟩
   ·by_cases hk:i=k
    ·subst hk
     rw[Db hi] at h2;exact .inl ⟨0,d,rfl,rfl,h2⟩
    ·rw[Bu (Dk hk)] at h2
     refine .inr ⟨λj d' e=>?_,h2⟩;cases j with
     |zero=>cases e;exact absurd rfl hk
     |succ j=>simpa using h1 j d' (by simpa using e)
  |va d=>
   simp only[ZV];rcases W3 (ix:=is) (ss:=ss) (δ:=δ) i hi hl2 with⟨j,d',h1,h2,h3⟩|⟨h1,h2⟩
   ·exact .inl ⟨j+1,d',by simpa using h1,by simpa using h2,h3⟩
   ·refine .inr ⟨λj d' e => ?_,h2⟩
    cases j with
    |zero=>simp
    |succ j=>simpa using h1 j d' (by simpa using e)
  |no=>
   simp only[ZV];rcases W3 (ix:=is) (ss:=ss) (δ:=δ) i hi hl2 with⟨j,d',h1,h2,h3⟩|⟨h1,h2⟩
   ·exact .inl ⟨j+1,d',by simpa using h1,by simpa using h2,h3⟩
   ·refine .inr ⟨λj d' e => ?_,h2⟩
    cases j with
    |zero=>simp
    |succ j=>simpa using h1 j d' (by simpa using e)
def Oc(ix:List Nat)(O:Nat->Option Ur):Nat->Option Ur:=λj=>(ix[j]?).bind O
def Bc(ix:List Nat)(B:Bs)(O:Nat->Option Ur)(H0:Hp)(D:Ur)(kp:List (V×cX)):Bs:=
 ⟨λa=>(B.Z a∨a=D)∨∃i,O i=some a/\i∉ix,OA (Oc ix O),H0,Oc ix O,kp⟩
theorem NW{D:Ur}{kp:List (V×cX)}:∀a,Nn (Bc ix B O H0 D kp) (Oc ix O) a->Nn B O a∨a=D:=λa h=>by
 rcases h with((h|h)|⟨i,h,_⟩)|⟨j,h⟩
 ·exact .inl (.inl h)
 ·exact .inr h
 ·exact .inl (.inr ⟨i,h⟩)
 ·unfold Oc at h
  cases q:ix[j]? with
  |none=>rw[q] at h;cases h
  |some i=>rw[q] at h;exact .inl (.inr ⟨i,h⟩)
theorem VR{D:Ur}{kp:List (V×cX)}:∀a,Nn (B.add D) O a->Nn (Bc ix B O H0 D kp) (Oc ix O) a:=λa h=>by
 rcases h with h|⟨i,h⟩
 ·exact .inl (.inl h)
 ·by_cases hi:i∈ix
  ·obtain⟨j,hj⟩:=Jg.mp hi
   exact .inr ⟨j,by unfold Oc;rw[hj];exact h⟩
  ·exact .inl (.inr ⟨i,h,hi⟩)
theorem aS.withKp{kp:List (V×cX)}(S:aS K ml B O H σ δ)(h:∀p∈kp,bI K (Nn B O) H (Nn B O) p.1 p.2):aS K ml {B with kp:=kp} O H σ δ:=
 ⟨S.len,S.va,S.ow,S.dom,S.inj,S.old,S.zin,S.frm,S.par,S.pin,h⟩
theorem aS.writeZ{D:Ur}{o:HO}{acc:List V}(S:aS K ml B O H σ δ)(hD:B.Z D)(hl:H D=some (.lst acc))(h0:B.H0 D=none):aS K ml B O (upd H D o) σ δ:=by
 have hf:Fr (λb=>b=D) H (upd H D o):=λb u q n=>by
  by_cases hb:b=D
  ·subst hb
   rw[hl] at q;cases q;exact absurd (n rfl) λz=>z
  ·rw[b6 hb]
   exact q
 have hN:∀b,b=D->Nn B O b:=λb z=>.inl (z▸hD);have hin:∀b,(∃u,H b=some u)->∃u,upd H D o b=some u:=λb q0=>by
  obtain⟨u,q⟩:=q0;by_cases hb:b=D
  ·exact⟨o,by rw[hb];exact cF⟩
  ·exact⟨u,by rw[b6 hb];exact q⟩
 refine⟨S.len,λi d q=>?_,λi d q=>?_,S.dom,S.inj,S.old,λb h=>hin b (S.zin b h),λb u q n=>?_,S.par,λb h=>hin b (S.pin b h),λp hp=>(S.kep p hp).fr hf hN hN⟩
 ·obtain⟨v,e,r⟩:=S.va i d q
  exact⟨v,e,r.fr hf hN hN⟩
 ·obtain⟨a,e,e2,w⟩:=S.ow i d q
  exact⟨a,e,e2,w.fr hf hN λz=>(S.old i a e).1 (z▸hD)⟩
 ·have hb : b ≠ D := λz => by rw [z,h0] at q;cases q
  rw[b6 hb];exact S.frm b u q n
theorem K7{j:Nat}{s:Sl}(h:(bE ix δ++P8 nl)[j]?=some s):(∃i,ix[j]?=some i/\s=(δ[i]?).getD .no)∨s=.no:=by
 unfold bE P8 at h;by_cases hj:j<ix.length
 ·rw [Ak (by simpa using hj),Co] at h
  cases q:ix[j]? with
  |none=>rw[q] at h;cases h
  |some i=>rw[q] at h;cases h;exact .inl ⟨i,rfl,rfl⟩
 ·rw [Ch (by simpa using hj),Cj] at h
  split at h
  ·cases h;exact .inr rfl
  ·cases h
theorem GO{i j:Nat}{v:V}(hi:ix[j]?=some i)(h:σ[i]?=some (some v)):(aX ix σ++As nl none)[j]?=some (some v):=by have hj:j<ix.length:=(Ah.mp hi).1;unfold aX;rw[Ak (by simpa using hj),Co,hi];show some ((σ[i]?).join)=_;rw[h];rfl
theorem aS.inner{D:Ur}(S:aS K ml B O H0 σ δ)(hD:H0 D=none)(hnd:ix.Nodup){kps:List (V×cX)}(hk:∀p∈kps,bI K (Nn B O) H0 (Nn B O) p.1 p.2):
  aS K (Ar ix.length) (Bc ix B O H0 D kps) (Oc ix O) (upd H0 D (.lst [])) (aX ix σ++As nl none) (bE ix δ++P8 nl) where
 len:=by simp[aX,bE,P8]
 va := λj d e => by
  rcases K7 e with⟨i,hi,q⟩|q
  ·have q:δ[i]? =some (.va d):=by
    cases w:δ[i]? with
    |none=>rw[w] at q;cases q
    |some s=>rw[w] at q;rw[show s=.va d from q.symm]
   obtain⟨v,e1,r⟩:=S.va i d q;exact⟨v,GO hi e1,(r.away hD _ _ NW NW).same (cQ hD)⟩
  ·cases q
 ow := λj d e => by
  rcases K7 e with⟨i,hi,q⟩|q
  ·have q:δ[i]? =some (.ow d):=by
    cases w:δ[i]? with
    |none=>rw[w] at q;cases q
    |some s=>rw[w] at q;rw[show s=.ow d from q.symm]
   obtain⟨a,e1,e2,w⟩:=S.ow i d q;refine⟨a,by unfold Oc;rw[hi];exact e1,GO hi e2,?_⟩;cases w with
   |lst q' r=>exact .lst (cQ hD _ _ q') ((r.away hD _ _ NW).same (cQ hD))
   |dct q' r=>exact .dct (cQ hD _ _ q') ((r.away hD _ _ NW).same (cQ hD))
  ·cases q
 dom:=λj a e=>by
  unfold Oc at e;cases hi:ix[j]? with
  |none=>rw[hi] at e;cases e
  |some i=>
   rw[hi] at e;obtain⟨d,q⟩:=S.dom i a e;refine⟨d,?_⟩;have hj:j<ix.length:=(Ah.mp hi).1;unfold bE;rw[Ak (by simpa using hj),Co,hi];show some ((δ[i]?).getD .no)=_;rw[q];rfl
 inj:=λj k a e1 e2=>by
  unfold Oc at e1 e2;cases hi:ix[j]? with
  |none=>rw[hi] at e1;cases e1
  |some i=>
   cases hk:ix[k]? with
   |none=>rw[hk] at e2;cases e2
   |some i'=>
    rw[hi] at e1;rw[hk] at e2;have:i=i':=S.inj i i' a e1 e2;subst this;obtain⟨l1,q1⟩:=Ah.mp hi;obtain⟨l2,q2⟩:=Ah.mp hk;exact(Qr hnd).mp (q1.trans q2.symm)
 old:=λj a e=>by
  have e':=e;unfold Oc at e';cases hi:ix[j]? with
  |none=>rw[hi] at e';cases e'
  |some i=>
   rw[hi] at e';refine⟨λz=>?_,.inl ⟨j,e⟩⟩;rcases z with(z|z)|⟨i',z,n⟩
   ·exact(S.old i a e').1 z
   ·obtain⟨o,q⟩:=S.nin (.inr ⟨i,e'⟩)
    rw[z,hD] at q;cases q
   ·have:i=i':=S.inj i i' a e' z
    subst this;exact n (Ew hi)
 zin:=λa h=>by
  rcases h with(h|h)|⟨i,h,_⟩
  ·obtain⟨o,q⟩:=S.zin a h
   exact⟨o,cQ hD _ _ q⟩
  ·exact⟨_,by rw[h];exact cF⟩
  ·obtain⟨o,q⟩:=S.nin (.inr ⟨i,h⟩)
   exact⟨o,cQ hD _ _ q⟩
 frm:=(cQ hD).fr
 par:=⟨λj a e=>by
  have e:(ix[j]?).bind O=some a:=e;cases hi:ix[j]? with
  |none=>rw[hi] at e;cases e
  |some i=>exact Ca.mpr (Ah.mp hi).1,λj _=>rfl⟩
 pin:=λa q0=>by
  obtain⟨j,e⟩:=q0;unfold Oc at e;cases hi:ix[j]? with
  |none=>rw[hi] at e;cases e
  |some i=>
   rw[hi] at e;obtain⟨o,q⟩:=S.nin (.inr ⟨i,e⟩);exact⟨o,cQ hD _ _ q⟩
 kep:=λp hp=>((hk p hp).away hD _ _ NW NW).same (cQ hD)
theorem aS.turn{O':Nat->Option Ur}{σ':St}{n:Nat}{m:St}(S:aS K (Ar n) B O' H σ' δ)(hmu:∀j,n<=j->B.mu j=none)(hm:m.length=n)(hσ:σ'.take n=m)(hn:n<=δ.length):aS K (Ar n) B B.mu H (m++As nl none) (δ.take n++P8 nl):=by
 have hO:∀j,j<n->O' j=B.mu j:=λj hj=>S.par.2 j (Ca.mpr hj);have hle:∀j a,B.mu j=some a->O' j=some a:=λj a e=>by rw[hO j (Ca.mp (S.par.1 j a e))];exact e
 have hN:∀a,Nn B B.mu a->Nn B O' a:=λa h=>by
  rcases h with h|⟨j,h⟩
  ·exact .inl h
  ·exact .inr ⟨j,hle j a h⟩
 have hg:∀(j:Nat) (s:Sl),(δ.take n++P8 nl)[j]?=some s->(j<n/\δ[j]?=some s)∨s=.no:=λj s h=>by
  have hl:(δ.take n).length=n:=by rw[Cb];lia
  by_cases hj:j<n
  ·rw [Ak (by rw [hl];exact hj),Cf hj] at h
   exact .inl ⟨hj,h⟩
  ·unfold P8 at h
   rw[Ch (by rw[hl];lia),Cj] at h;split at h
   ·cases h;exact .inr rfl
   ·cases h
 have hs:∀(j:Nat) (v:V),j<n->σ'[j]?=some (some v)->(m++As nl none)[j]?=some (some v):=λj v hj e=>by rw[Ak (by rw[hm];exact hj),<-hσ,Cf hj];exact e
 refine⟨?_,λj d e=>?_,λj d e=>?_,λj a e=>?_,λj k a e1 e2=>S.inj j k a (hle j a e1) (hle k a e2),λj a e=>S.old j a (hle j a e),S.zin,S.frm,⟨S.par.1,λj _=>rfl⟩,S.pin,λp hp=>(S.kep p hp).mono hN hN⟩
 ·simp[hm,P8,Cb]
  lia
 ·rcases hg j _ e with⟨hj,e⟩|e
  ·obtain⟨v,e1,r⟩:=S.va j d e
   exact⟨v,hs j v hj e1,r.mono hN hN⟩
  ·cases e
 ·rcases hg j _ e with⟨hj,e⟩|e
  ·obtain⟨a,e1,e2,w⟩:=S.ow j d e
   exact⟨a,(hO j hj)▸e1,hs j _ hj e2,w.mono hN⟩
  ·cases e
 ·have hj:=Ca.mp (S.par.1 j a e)
  obtain⟨d,q⟩:=S.dom j a (hle j a e);refine⟨d,?_⟩;rw[Ak (by rw[Cb];lia),Cf hj];exact q
theorem ZJ(ix:List Nat)(σ:St):(aX ix σ).length=ix.length:=by simp[aX]
theorem Q3{σ':St}(hl:ix.length<=σ'.length)(h:∀i∈Ar ix.length,σ'[i]?=(aX ix σ++As nl none)[i]?):σ'.take ix.length=aX ix σ:=by
 refine Kz λj=>?_;by_cases hj:j<ix.length
 ·rw[Cf hj,h j (Ca.mpr hj),Ak (by rw[ZJ];exact hj)]
 ·rw[Bp (by rw[Cb];lia),Bp (by rw[ZJ];lia)]
theorem EG{fi:VI}{gg:VG}{tb:VB}{fe:VF}(hnd:ix.Nodup){Q:VK}(h:TN K ml (pi && pt && pe) (ZW ix nl fi gg tb fe) σ H Q):EE ix nl (CY K ml pi fi) (TGV K (Ar ix.length) gg) (TB K (Ar ix.length) pt tb) (TV K (Ar ix.length) pe true true fe) σ H Q:=by
 obtain⟨B,O,δ,d,δ2,S,q,k⟩:=h;unfold ZW at q;cases h1:fi δ with
 |none=>rw[h1] at q;cases q
 |some p=>
  obtain⟨ds,δ1⟩:=p;rw[h1] at q;have q:((Z9 ix.length nl gg tb fe ds [] (bE ix δ1)).map λq=>(cX.lst q.1,ZV ix q.2 δ1))=some (d,δ2):=q;cases h2:Z9 ix.length nl gg tb fe ds [] (bE ix δ1) with
  |none=>rw[h2] at q;cases q
  |some z=>
   obtain⟨res,δf⟩:=z;rw[h2] at q;cases q;refine⟨B,O,δ,ds,δ1,S,h1,λJ kps H0 S0 f0 p0 wk D hD=>?_⟩;have hDO:∀j,Oc ix O j≠some D:=λj e=>by
    unfold Oc at e;cases hi:ix[j]? with
    |none=>rw[hi] at e;cases e
    |some i=>
     rw[hi] at e;obtain⟨o,q⟩:=S0.nin (.inr ⟨i,e⟩);rw[hD] at q;cases q
   have fj:∀kp j,ix.length<=j->(Bc ix B O H0 D kp).mu j=none:=λkp j hj=>by show(ix[j]?).bind O=none;rw[Bp hj];rfl
   refine⟨λi m acc H1=>m=ds.length - i/\i<=ds.length/\∃(ai:List cX) (δc:Ev),δc.length=ix.length/\acc.length=ai.length∧
     aS K (Ar ix.length) (Bc ix B O H0 D (kps++acc.zip ai)) (Oc ix O) H1 (aX ix σ++As nl none) (δc++P8 nl)/\H1 D=some (.lst acc)/\((pt&&pe)=true->aZ H0 H1)∧
     Z9 ix.length nl gg tb fe (ds.drop i) ai δc=some (res,δf),
    ⟨ds.length,rfl,Di _,[],bE ix δ1,by simp[bE],rfl,by rw[La,Cu];exact S0.unkeep.inner hD hnd λp hp=>S0.kep p (Bk _ hp),cF,λ_=>cQ hD,h2⟩,?_⟩
   rintro i m acc H1 ⟨rfl,hi,ai,δc,hlc,bo,S1,hD1,cr,hc⟩;have w:=wk (Nn (Bc ix B O H0 D (kps++acc.zip ai)) (Oc ix O)) H1 λp hp=>S1.kep p (Bk _ hp);by_cases hlt:i<ds.length
   ·obtain ⟨go,yl⟩ := w.1 i ds[i] (by simp [hlt])
    rw[Dt hlt] at hc;simp only[Z9] at hc;cases g1:gg ds[i] (δc++P8 nl) with
    |none=>rw[g1] at hc;cases hc
    |some δ3=>
     rw[g1] at hc;simp only[Af] at hc;cases g2:tb δ3 with
     |none=>rw[g2] at hc;cases hc
     |some z=>
      obtain⟨kk,δ4⟩:=z;rw[g2] at hc;simp only[Af] at hc;refine .inr ⟨go,λag H'=>∃(ai:List cX) (δc:Ev),δc.length=ix.length/\ag.length=ai.length∧
       aS K (Ar ix.length) (Bc ix B O H0 D (kps++ag.zip ai)) (Oc ix O) H' (aX ix σ++As nl none) (δc++P8 nl)/\H' D=some (.lst ag)/\((pt&&pe)=true->aZ H0 H')∧
       Z9 ix.length nl gg tb fe (ds.drop (i+1)) ai δc=some (res,δf),λag H' w'=>⟨ds.length - (i+1),by lia,rfl,hlt,w'⟩,λx H2 hy=>?_⟩
      obtain⟨sm,rx⟩:=yl x H2 hy;refine⟨_,_,_,ds[i],δ3,S1.same sm,rx,g1,λσ3 O3 S3 m3=>?_⟩;have ln3:ix.length<=σ3.length:=by
       by_cases hz:ix.length=0
       ·lia
       ·have hj : ix.length - 1 < ix.length := by lia
        have:=m3 (ix.length - 1) (Ca.mpr hj);have hs:(aX ix σ++As nl none)[ix.length - 1]? ≠none:=by rw[Ak (by rw[ZJ];exact hj)];simp[aX,hj]
        rw[<-this] at hs;have nr:ix.length - 1<σ3.length:=Ma λz=>hs (Hf.mpr z);lia
      have hσ3:=Q3 ln3 m3;refine⟨hσ3,_,_,δ3,kk,δ4,S3,g2,λH4 R4=>?_⟩;have hD4:H4 D=some (.lst acc):=R4.frm _ _ (sm _ _ hD1) λz=>by obtain⟨j,e⟩:=z;have:=(R4.sta.old j D e).1;exact absurd (.inl (.inr rfl)) this
      have ln4:ix.length<=δ4.length:=by rw[<-R4.sta.len];exact ln3
      cases kk with
      |false=>
       rw[if_neg Cs] at hc;refine RK ⟨ai,δ4.take ix.length,by rw[Cb];lia,bo,R4.sta.turn (fj _) (ZJ ix σ) hσ3 ln4,hD4,λz=>?_,hc⟩;exact((cr z).trans sm).trans (R4.pur ((Ae _ _).mp z).1)
      |true=>
       rw[if_pos rfl] at hc;cases g3:fe δ4 with
       |none=>rw[g3] at hc;cases hc
       |some z=>
        obtain⟨dv,δ5⟩:=z;rw[g3] at hc;simp only[Af] at hc;split at hc
        ·rename_i hz
         refine RL ⟨_,_,δ4,dv,δ5,R4.sta,g3,λv H5 R5=>?_⟩;have hD5:H5 D=some (.lst acc):=R5.frm _ _ hD4 λz=>by obtain⟨j,e⟩:=z;have:=(R5.sta.old j D e).1;exact absurd (.inl (.inr rfl)) this
         have ln5:ix.length<=δ5.length:=by rw[<-R5.sta.len];exact ln3
         have S6:=R5.sta.turn (nl:=nl) (fj _) (ZJ ix σ) hσ3 ln5;have hv:bI K (Nn (Bc ix B O H0 D (kps++acc.zip ai)) (Oc ix O)) H5 (Nn (Bc ix B O H0 D (kps++acc.zip ai)) (Oc ix O)) v dv:=by
          have hN:∀a,Nn (Bc ix B O H0 D (kps++acc.zip ai)) (Oc ix O) a->av (Bc ix B O H0 D (kps++acc.zip ai)) O3 true a:=λa h=>by
           rcases h with h|⟨j,h⟩
           ·exact .inl h
           ·refine .inr ⟨j,?_⟩
            have hj:j∈Ar ix.length:=R5.sta.par.1 j a h;rw[R5.sta.par.2 j hj];exact h
          exact R5.rep.mono hN hN
         have S7:=S6.withKp (kp:=kps++(acc++[v]).zip (ai++[dv])) λp hp=>by
          rw[Mv bo,<-Ek] at hp;rcases Ck.mp hp with z|z
          ·exact S6.kep p z
          ·rw[Ay.mp (show p∈[(v,dv)] from z)]
           exact hv
         refine⟨hD5,by rw[bo,Bt];exact hz,ai++[dv],δ5.take ix.length,by rw[Cb];lia,by simp[bo],?_,cF,λz=>?_,hc⟩
         ·exact S7.writeZ (.inl (.inr rfl)) hD5 hD
         ·intro b o e
          have hb:b≠D:=λz=>by rw[z,hD] at e;cases e
          rw[b6 hb];obtain⟨z1,z2⟩:=(Ae _ _).mp z;exact(((cr z).trans sm).trans ((R4.pur z1).trans (R5.pur z2))) b o e
        ·cases hc
   ·have e : i = ds.length := by lia
    subst e;rw[Gj] at hc;cases hc;refine .inl ⟨w.2,k D H1 ?_⟩;have fP:Fr (OA (Oc ix O)) H0 H1:=S1.frm;have hPO:∀a,OA (Oc ix O) a->OA O a:=λa q0=>by
     obtain⟨j,e⟩:=q0;unfold Oc at e;cases hi:ix[j]? with
     |none=>rw[hi] at e;cases e
     |some i=>rw[hi] at e;exact⟨i,e⟩
    have SL:=S0.unkeep.laid (o:=.lst acc) hD;have fL:Fr (OA (Oc ix O)) (upd H0 D (.lst acc)) H1:=λb o e n=>by
     by_cases hb:b=D
     ·subst hb
      rw[cF] at e;cases e;exact hD1
     ·rw[b6 hb] at e
      exact fP b o e n
    refine⟨SL.call (X2) (λi=>?_) fL hPO,f0.trans (fP.mono hPO),λz=>?_,.lst hD1 (VW bo λp hp=>(S1.kep p (Au _ hp)).mono VR VR),S0.unkeep.new hD,S0.fresh hD⟩
    ·by_cases fu:i<δ1.length
     ·rcases W3 (ix:=ix) (ss:=δf) (δ:=δ1) i fu hlc.symm with⟨j,x,e1,e2,e3⟩|⟨e1,e2⟩
      ·have e4:(δf++P8 nl)[j]? =some (.ow x):=by rw[Ak (Ah.mp e2).1];exact e2
       obtain⟨a,e5,_,w⟩:=S1.ow j x e4;refine .inr ⟨a,x,?_,e3,w.mono VR⟩;unfold Oc at e5;rw[e1] at e5;exact e5
      ·refine .inl ⟨e2,λa ea ⟨j,ej⟩ => ?_⟩
       obtain⟨x,ex⟩:=S1.dom j a ej;unfold Oc at ej;cases hi:ix[j]? with
       |none=>rw[hi] at ej;cases ej
       |some i'=>
        rw[hi] at ej;have:i=i':=S0.inj i i' a ea ej;subst this;have hj:j<δf.length:=by rw[hlc];exact(Ah.mp hi).1
        rw[Ak hj] at ex;exact e1 j x hi ex
     ·refine .inl ⟨?_,λa ea => ?_⟩
      ·rw[Bp (by rw[X2];lia),Bp (by lia)]
      ·obtain⟨x,ex⟩:=S0.dom i a ea
       exact absurd (Ah.mp ex).1 fu
    ·simp only[Ae] at z
     exact(p0 z.1.1).trans (cr (by simp[z.1.2,z.2]))
theorem kF{Q:Bool->Hp->Prop}(h:TB K ml true U1 σ H Q):tYes σ H Q:=by obtain⟨B,O,δ,k,δ',S,q,w⟩:=h;cases q;exact w H (AQ.refl S)
theorem OO{Y:Cx}{t:VB}(h:PT Y c (TB K ml pt t)):PTs Y [c] (TB K ml pt t):=nU h
theorem W0{Y:Cx}:PTs Y [] (TB K ml true U1):=λaa s σ H Q I hw=>qH aa s σ H Q I (kF hw)
theorem Vq{Q:VK}{o:Bool}(h:TX K ml (if o then xO f else xV f) σ H Q):TN K ml pu f σ H Q:=by
 obtain⟨B,O,δ,s,δ',S,q,k⟩:=h;have e:∃d,f δ=some (d,δ')/\s=if o then .ow d else .va d:=by
  cases o with
  |true=>
   have q:(f δ).map (λp=>(Sl.ow p.1,p.2))=some (s,δ'):=q;cases h1:f δ with
   |none=>rw[h1] at q;cases q
   |some p=>rw[h1] at q;cases q;exact⟨p.1,rfl,rfl⟩
  |false=>
   have q:(f δ).map (λp=>(Sl.va p.1,p.2))=some (s,δ'):=q;cases h1:f δ with
   |none=>rw[h1] at q;cases q
   |some p=>rw[h1] at q;cases q;exact⟨p.1,rfl,rfl⟩
 obtain⟨d,h1,hs⟩:=e;refine⟨B,O,δ,d,δ',S,h1,λp H' R=>?_⟩;cases o with
 |true=>
  cases hs;have w:=R.own;cases w with
  |lst q1 r=>exact k _ H' _ (R.sta.keepV (UA r)) (.ol q1 r.length R.nz R.h0) R.frm
  |dct q1 r=>exact k _ H' _ (R.sta.keepV (UA r)) (.od q1 (by simpa using r.length) R.nz R.h0) R.frm
 |false=>
  cases hs;exact k _ H' _ (R.sta.unadd.keepV (ps:=[(.ref p,d)]) λz hz=>by rw[Ay.mp hz];exact(R.own.mono SU).rep R.nz) .va R.frm
theorem F8{i:Nat}{x:VX}{te:TE}(hte:∀σ H Q,TX K ml x σ H Q->te σ H Q)(hm:i∉ml){D:MM}(h:WE K ml (aG i x) D σ H):tAsg te (GX i) D σ H:=by
 obtain⟨B,O,δ,o,S,q,k⟩:=h;unfold aG at q;cases h1:x δ with
 |none=>rw[h1] at q;cases q
 |some p=>
  obtain⟨s,δ1⟩:=p;rw[h1] at q;have q:(if i<δ1.length then some (Ou.nx (δ1.set i s)) else none)=some o:=q;split at q
  ·rename_i hl
   cases q;refine hte _ _ _ ⟨B,O,δ,s,δ1,S,h1,λv H' B' S' h' f'=>?_⟩;obtain⟨O'',S''⟩:=h'.bind S' hm hl;exact k _ _ _ S''
  ·cases q
end
abbrev bZ(P:Av)(w:Uy)(K:Ai)(mg:Uw->Option Uq)(base:Va)(x:Uw)(k:Nat)(ps:List Uw)(mF:List Nat)(F:bC)(f:Ur):Prop:=Def P w K mg base x k ps (spV K mF ps.length F) f
section
variable{X:Cx}{K:Ai}{ml:List Nat}{e a b c:Ux}{es:List Ux}{pa ta ia pb tb ib pc tc ic pu bt bi ps bs:Bool}{fa fb fc f:VF}{B B':Bs}{O:Nat->Option Ur}{H H0 H1 H':Hp}{σ:St}{δ δ':Ev}{v:V}{d:cX}{p:Ur}{pos:Pos}
theorem bU{x:Uw}(hg:Gl X x)(h:∃u v,X.mg x=some u/\b5 v u/\∀N H M,bI K N H M v d)(hd:(x==("__debug__":Uw))=false:=by decide):PE X (.Name x pos) (TV K ml true true true (fC d)):=by obtain⟨u,v,h1,h2,h3⟩:=h;exact CM (iZ hg h1 h2 hd) h3
def Xz(K:Ai):R2:=λx y H Q=>∃a b xs ys,x=.ref a/\y=.ref b/\WM K H a xs/\WM K H b ys/\xs.length+ys.length<=sizeLine∧
 (xs=[]->Q (.ref b) H)/\(xs≠[]->ys=[]->Q (.ref a) H)/\(xs≠[]->ys≠[]->∀p,H p=none->Q (.ref p) (upd H p (.tup (xs++ys))))
theorem oY:W5 X (Fm .Add) (Xz X.K):=by
 intro aa s σ H x y v u Q I rx ry h;obtain⟨a,b,xs,ys,rfl,rfl,ha,hb,hz,q0,q1,q2⟩:=h;cases rx;cases ry;obtain⟨its,r1,p1,_⟩:=I.tuple ha;obtain⟨en,r2,p2,_⟩:=I.tuple hb;by_cases hx:xs=[]
 ·subst hx
  have e0:its=[]:=r1.nil_iff.mpr rfl;subst e0;obtain⟨⟨cls,dd,data,sl⟩,ho,hc,n,hd⟩:=id p1;obtain⟨⟨o7,dd2,data2,sl2⟩,ho2,hc2,n2,hd2⟩:=id p2;simp only at hc hd hc2 hd2;subst hc hd hc2 hd2;exact Mn ⟨_,ho,rfl⟩ ⟨_,ho2,rfl⟩ Lz Om Im Ib (Hm _ _)
   (tuple_addW0 a b _ en.toArray n n2 dd dd2 sl sl2 (by simp)) ⟨ho,ho2,⟨.ref b,H,I,rfl,q0 rfl⟩⟩
 ·refine HT.zFN p1 p2 (λz => hx (r1.nil_iff.mp z)) (λz => ⟨.ref a,H,I,rfl,q1 hx (r2.nil_iff.mp z)⟩) (λz => ?_) (by rw [<- r1.length,<- r2.length];exact hz)
  refine⟨.ref s.heap.objs.size,_,I.laid (t':=s.toks) (o:=.tup (xs++ys)) (λb ob q=>Ac _ q) (Am _) ?_,rfl,q2 hx (λw=>z (r2.nil_iff.mpr w)) _ (I.hok.fresh (Am _))⟩;exact⟨by rw[Cc];exact hz,_,r1.append r2,Ju _ _⟩
def Yc(K:Ai):R2:=λx y H Q=>∃l b xs zs,x=.ref l/\y=.ref b/\YA K H l xs/\YA K H b zs/\xs.length+zs.length<=sizeLine/\∀p,H p=none->Q (.ref p) (upd H p (.lst (xs++zs)))
theorem iV:W5 X (Fm .Add) (Yc X.K):=by
 intro aa s σ H x y v u Q I rx ry h;obtain⟨l,b,xs,zs,rfl,rfl,hH,hB,hz,q⟩:=h;cases rx;cases ry;obtain⟨its,r,p1,_⟩:=I.list hH;obtain⟨en,r2,p2,_⟩:=I.list hB;obtain⟨⟨cls,dd,data,sl⟩,n,ho,hc,_,hd⟩:=id p1;obtain⟨⟨o7,dd2,data2,sl2⟩,n2,ho2,hc2,_,hd2⟩:=id p2;simp only at hc hd hc2 hd2;subst hc hd hc2 hd2;have ea:its.toArray++en.toArray=(its++en).toArray:=by simp
 have hl:=r.length;have hl2:=r2.length;refine Mn ⟨_,ho,rfl⟩ ⟨_,ho2,rfl⟩ noFill_list_add seq_list_add PySem.F.slot_list_add PySem.F.entry_list_add (PySem.F.args_list_add_2 _ _) (list_addW l b its.toArray en.toArray n n2 dd dd2 sl sl2 (by rw[An,An,<-hl,<-hl2];exact hz)) ⟨ho,ho2,?_⟩;rw[ea];exact⟨.ref _,_,I.lnew (t':=s.toks) (r.append r2) (by rw[Cc];lia),rfl,q _ I.fresh⟩
def Xn(K:Ai):R2:=λx y H Q=>((FV (λi j=>.int (i+j)) x y H Q∨Xz K x y H Q)∨Yc K x y H Q)∨∃i j,x=.str i/\y=.str j/\i.length+j.length<=sizeLine/\Q (.str (i++j)) H
theorem X7(h:X.K=K):W5 X (Fm .Add) (Xn K):=by subst h;exact((zIK.or oY).or iV).or FN
noncomputable def ZL:cX->cX->Option cX
 |.int i,.int j=>some (.int (i+j))
 |.tup ds,.tup es=>if ds.length+es.length<=16777216 then some (.tup (ds++es)) else none
 |.lst ds,.lst es=>if ds.length+es.length<=16777216 then some (.lst (ds++es)) else none
 |.str x,.str y=>if x.length+y.length<=16777216 then some (.str (x++y)) else none
 |_,_=>none
theorem bI.tupE{N M:Ur->Prop}{ds:List cX}(h:bI K N H M v (.tup ds)):∃a xs,v=.ref a/\WM K H a xs/\cD K N H xs ds:=by
 cases h with
 |tup q r=>exact⟨_,_,rfl,q,r⟩
theorem bI.lstE{N M:Ur->Prop}{ds:List cX}(h:bI K N H M v (.lst ds)):∃a xs,v=.ref a/\YA K H a xs/\cD K N H xs ds:=by
 cases h with
 |lst q n r=>exact⟨_,_,rfl,YA.of q,r⟩
 |fzl q r=>exact⟨_,_,rfl,q.sq,r⟩
theorem ZH:OpC K (Xn K) ZL:=by
 intro H N M M' x y d e c Q hx hy h k;cases d with
 |int i=>
  cases e with
  |int j=>
   cases h;cases hx;cases hy;exact .inl (.inl (.inl ⟨_,_,rfl,rfl,k _ _ (aZ.refl _) λ_ _=>.int _⟩))
  |_=>cases h
 |str i=>
  cases e with
  |str j=>
   simp only[ZL] at h;split at h
   ·cases h
    cases hx;cases hy;exact .inr ⟨_,_,rfl,rfl,by rw[Bt];assumption,k _ _ (aZ.refl _) λ_ _=>.str _⟩
   ·cases h
  |_=>cases h
 |tup ds=>
  cases e with
  |tup es=>
   simp only[ZL] at h;split at h
   ·rename_i hz
    cases h;obtain⟨a,xs,rfl,q1,r1⟩:=hx.tupE;obtain⟨b,ys,rfl,q2,r2⟩:=hy.tupE;refine .inl (.inl (.inr ⟨a,b,xs,ys,rfl,rfl,q1,q2,by rw[r1.length,r2.length,Bt];exact hz,λz=>?_,λz1 z2=>?_,λz1 z2 p hp=>?_⟩))
    ·subst z
     have:ds=[]:=Gi.mp r1.length.symm;subst this;exact k _ _ (aZ.refl _) λM hM=>.tup q2 r2
    ·subst z2
     have:es=[]:=Gi.mp r2.length.symm;subst this;rw[Cu] at k;exact k _ _ (aZ.refl _) λM hM=>.tup q1 r1
    ·exact k _ _ (cQ hp) λM hM=>.tup (WM.of cF) ((r1.append r2).same (cQ hp))
   ·cases h
  |_=>cases h
 |lst ds=>
  cases e with
  |lst es=>
   simp only[ZL] at h;split at h
   ·rename_i hz
    cases h;obtain⟨a,xs,rfl,q1,r1⟩:=hx.lstE;obtain⟨b,ys,rfl,q2,r2⟩:=hy.lstE;exact .inl (.inr ⟨a,b,xs,ys,rfl,rfl,q1,q2,by rw[r1.length,r2.length,Bt];exact hz,λp hp=>k _ _ (cQ hp) λM hM=>.lst cF (λz=>by obtain⟨o,q⟩:=hM _ z;rw[hp] at q;cases q) ((r1.append r2).same (cQ hp))⟩)
   ·cases h
  |_=>cases h
 |_=>cases h
def Xs:Ai->R2:=λ_=>rI AF λi j=>.int (i*j)
theorem JV(h:X.K=K):W5 X (Fm .Mult) (Xs K):=qU
abbrev N3:=oMul
theorem OY:OpC K (Xs K) N3:=by intro H N M M' x y d e c Q hx hy h k;exact nW H N N M M' x y d e c Q hx hy h λv hv=>k v H (aZ.refl _) λM _=>hv _ _ _
noncomputable def WH:cX->Option aK
 |.int i=>some (.inl i)
 |.str x=>some (.inr x)
 |_=>none
theorem bI.key{N M:Ur->Prop}{k:aK}(h:bI K N H M v d)(e:WH d=some k):v=kV k:=by
 cases h<;>first
  |(cases e;rfl)
  |cases e
noncomputable def a6(ks:List aK)(ds:List cX)(k:aK):Option cX:=match ks,ds with
 |k'::ks,d::ds=>if k'=k then some d else a6 ks ds k
 |_,_=>none
theorem RN{N:Ur->Prop}{k:aK}:∀{kvs:List (aK×V)} {ds:List cX},cD K N H (kvs.map Eo) ds->(∃v d,TM kvs k=some v/\a6 (kvs.map Dn) ds k=some d/\bI K N H N v d)∨(TM kvs k=none/\a6 (kvs.map Dn) ds k=none)
 |[],_,.nil=>.inr ⟨rfl,rfl⟩
 | (k',v) :: kvs,_,.cons h t => by
  by_cases hk:k'=k
  ·refine .inl ⟨v,_,RY (p:=(k',v)) hk,?_,h⟩
   simp[a6,hk]
  ·rcases RN (k:=k) t with⟨v',d',h1,h2,h3⟩|⟨h1,h2⟩
   ·exact .inl ⟨v',d',(UU (p:=(k',v)) hk).trans h1,by simpa[a6,hk] using h2,h3⟩
   ·exact .inr ⟨(UU (p:=(k',v)) hk).trans h1,by simpa[a6,hk] using h2⟩
theorem jJ(hu:X.A.units+1<cLine):AK X (λx y H Q=>∃a v,x=.ref a/\QE H a y (some v)/\Q v H):=by intro value slice aa s σ H x y v u Q I rx ry h hs;obtain⟨a,w,rfl,g,q⟩:=h;cases rx;exact Tj (GS I g) PySem.F.slot_dict_getitem.lookup (A2 hu I g ry λw' s3 I3 rw'=>⟨w,H,I3,rw',q⟩) hs
def rIxA(K:Ai):R2:=λx y H Q=>(rIx K x y H Q∨∃a v,x=.ref a/\QE H a y (some v)/\Q v H)∨∃a k D v,x=.ref a/\y=.str k/\KTab K a D/\Fs k D=some v/\Q v H
theorem kIxA(h:X.K=K)(hu:X.A.units+1<cLine):AK X (rIxA K):=by subst h;exact(zJU.or (jJ hu)).or jB
noncomputable def bT:cX->cX->Option cX
 |.tup ds,.int i=>T0 ds i
 |.lst ds,.int i=>T0 ds i
 |.dct ks ds,e=>(WH e).bind (a6 ks ds)
 |.str z,.int i=>if z.length<=16777216 then(T0 z.cps.toList i).map λc=>.str ⟨#[c]⟩ else none
 |_,_=>none
theorem QK{N:Ur->Prop}{k:Uw}:∀{D:List (Uw×V)} {ds:List cX},cD K N H (D.map Eo) ds->(∃v d,Fs k D=some v/\a6 (D.map λp=>.inr p.1) ds (.inr k)=some d/\bI K N H N v d)∨(Fs k D=none/\a6 (D.map λp=>.inr p.1) ds (.inr k)=none)
 |[],_,.nil=>.inr ⟨rfl,rfl⟩
 | (k',v) :: D,_,.cons h t => by
  by_cases hk:k'=k
  ·subst hk
   exact .inl ⟨v,_,by simp[Fs],by simp[a6],h⟩
  ·have hk2 : ¬ k = k' := λz => hk z.symm
   rcases QK (k:=k) t with⟨v',d',h1,h2,h3⟩|⟨h1,h2⟩
   ·exact .inl ⟨v',d',by simpa[Fs,hk,hk2] using h1,by simpa[a6,hk] using h2,h3⟩
   ·exact .inr ⟨by simpa[Fs,hk,hk2] using h1,by simpa[a6,hk] using h2⟩
theorem G9{i:Int}:∀{D:List (Uw×V)} {ds:List cX},a6 (D.map λp=>.inr p.1) ds (.inl i)=none
 |[],_=>by simp[a6]
 |_::_,[]=>by simp[a6]
 |p::D,d::ds=>by simpa[a6] using G9 (D:=D) (ds:=ds)
theorem mY:OpI K (rIxA K) bT:=by
 intro H N N' M M' x y d e c Q hx hy h k;have seq:∀ds i,YG d=some ds->e=.int i->T0 ds i=some c->rIxA K x y H Q:=λds i h1 h2 h3=>by
  subst h2;cases hy;obtain⟨a,xs,rfl,sq,r⟩:=hx.seq h1;obtain⟨v,hv,rv⟩:=kZ r h3;rcases sq with sq|sq
  ·exact .inl (.inl (.inl ⟨a,xs,i,v,rfl,rfl,sq,hv,k v rv⟩))
  ·exact .inl (.inl (.inr (.inl ⟨a,xs,i,v,rfl,rfl,sq,hv,k v rv⟩)))
 cases d with
 |tup ds=>
  cases e with
  |int i=>exact seq ds i rfl rfl h
  |_=>cases h
 |lst ds=>
  cases e with
  |int i=>exact seq ds i rfl rfl h
  |_=>cases h
 |str z=>
  cases e with
  |int i=>
   simp only[bT] at h;split at h
   ·cases hc:T0 z.cps.toList i with
    |none=>rw[hc] at h;cases h
    |some ch=>
     rw[hc] at h;cases h;cases hx;cases hy;exact .inl (.inl (.inr (.inr ⟨z,i,ch,rfl,rfl,by rw[Bt];assumption,hc,k _ (.str _)⟩)))
   ·cases h
  |_=>cases h
 |dct ks ds=>
  simp only[bT] at h;cases hk:WH e with
  |none=>rw[hk] at h;cases h
  |some kk=>
   rw[hk] at h;have h:a6 ks ds kk=some c:=h;have ey:=hy.key hk;subst ey;cases hx with
   |dct q n r=>
    rcases RN (k:=kk) r with⟨v,d',h1,h2,h3⟩|⟨h1,h2⟩
    ·rw[h] at h2
     cases h2;exact .inl (.inr ⟨_,v,rfl,h1▸QE.k q,k v h3⟩)
    ·rw[h] at h2;cases h2
   |ktb T r=>
    cases kk with
    |inl i=>rw[G9] at h;cases h
    |inr x=>
     rcases QK (k:=x) r with⟨v,d',h1,h2,h3⟩|⟨h1,h2⟩
     ·rw[h] at h2
      cases h2;exact .inr ⟨_,x,_,v,rfl,rfl,T,h1,k v h3⟩
     ·rw[h] at h2;cases h2
 |_=>cases h
noncomputable def XN(δ:Ev)(i:Nat):Option (List aK×List cX):=match δ[i]? with
 |some (.ow (.dct ks ds))=>some (ks,ds)
 |_=>none
theorem T6{i:Nat}{ks:List aK}{ds:List cX}(h:XN δ i=some (ks,ds)):δ[i]?=some (.ow (.dct ks ds)):=by
 unfold XN at h;split at h
 ·cases h;assumption
 ·cases h
noncomputable def JO(i:Nat)(fk fx:VF):VF:=λδ=>(XN δ i).bind λ_=>(fk δ).bind λp=>(fx p.2).bind λq=>(WH p.1).bind λk=>(XN q.2 i).map λz=>((a6 z.1 z.2 k).getD q.1,q.2)
theorem eF{i:Nat}{fk fx:VF}{ao af:Pos}(hu:X.A.units+1<cLine)(ho:PE X a (KJ i))(hk:PE X b (TV K ml pa ta ia fk))(hx:PE X c (TV K ml pb true true fx))(m:M2 X a "get" ao b c af):
  PE X (.Call (.Attribute a "get" ao) [b,c] [] af) (TV K ml (pa&&pb) true true (JO i fk fx)):=(Zy hu ho hk hx m).imp λσ H Q ⟨B,O,δ,d,δ3,S,q,k⟩=>by
 unfold JO at q;cases h0:XN δ i with
 |none=>rw[h0] at q;cases q
 |some z0=>
  obtain⟨ks0,ds0⟩:=z0;rw[h0] at q;cases h1:fk δ with
  |none=>simp[h1] at q
  |some p1=>
   obtain⟨y,δ1⟩:=p1;simp only[Af,h1] at q;cases h2:fx δ1 with
   |none=>simp[h2] at q
   |some p2=>
    obtain⟨z,δ2⟩:=p2;simp only[Af,h2] at q;cases h3:WH y with
    |none=>simp[h3] at q
    |some kk=>
     simp only[Af,h3] at q;cases h4:XN δ2 i with
     |none=>simp[h4] at q
     |some zz=>
      obtain⟨ks,ds⟩:=zz;simp only[h4] at q;cases q;obtain⟨l,e1,e2,w⟩:=S.ow i _ (T6 h0);refine⟨.ref l,e2,l,rfl,?_,B,O,δ,y,δ1,S,h1,λv1 H1 R1=>⟨B,O,δ1,z,_,R1.sta,h2,λv2 H2 R2=>?_⟩⟩
      ·generalize hw:cX.dct ks0 ds0=dd at w
       cases w with
       |lst _ _=>cases hw
       |dct q _=>exact .inl ⟨_,.inl q⟩
      ·have ey:=R1.rep.key h3
       subst ey;obtain⟨l',e3,_,w2⟩:=R2.sta.ow i _ (T6 h4);rw[e1] at e3;cases e3;have fin:∀o,bI K (Nn B O) H2 (Nn B O) (o:V) ((a6 ks ds kk).getD z)->Q o H2:=λo ho=>k o H2 ⟨R2.sta,R1.frm.trans R2.frm,λz=>by obtain⟨z1,z2⟩:=(Ae _ _).mp z;exact(R1.pur z1).trans (R2.pur z2),ho⟩
       generalize hw:cX.dct ks ds=dd at w2;cases w2 with
       |lst _ _=>cases hw
       |dct q r=>
        cases hw;refine⟨_,QE.k q,fin _ ?_⟩;rcases RN (k:=kk) r with⟨v,d',g1,g2,g3⟩|⟨g1,g2⟩
        ·rw[g1,g2];exact g3
        ·rw[g1,g2];exact R2.rep
noncomputable def YF:List aK->List cX->aK->cX->List aK×List cX
 |k'::ks,d::ds,k,v=>if k'=k then(k'::ks,v::ds) else let r:=YF ks ds k v;(k'::r.1,d::r.2)
 |_,_,k,v=>([k],[v])
noncomputable def HS(i:Nat)(fk fv:VF):VS:=λδ=>(fv δ).bind λp=>(XN p.2 i).bind λ_=>(fk p.2).bind λq=>(WH q.1).bind λk=>(XN q.2 i).bind λz=>if z.1.length<16777216/\z.1.Nodup then some (.nx (q.2.set i (.ow (let r:=YF z.1 z.2 k p.1;.dct r.1 r.2)))) else none
theorem L6{N:Ur->Prop}{k:aK}{v:V}(h:bI K N H N v d):∀{kvs:List (aK×V)} {ds:List cX},(kvs.map Dn).Nodup->cD K N H (kvs.map Eo) ds->(XO kvs k v).map Dn=(YF (kvs.map Dn) ds k d).1/\cD K N H ((XO kvs k v).map Eo) (YF (kvs.map Dn) ds k d).2
 |[],_,_,.nil=>⟨rfl,.cons h .nil⟩
 | (k',u) :: kvs,_,nd,.cons hu t => by
  obtain⟨n1,n2⟩:=Cv.mp nd;by_cases hk:k'=k
  ·subst hk
   have e:XO ((k',u)::kvs) k' v=(k',v)::kvs:=by unfold XO;rw[if_pos (by simp)];simp only[Az,if_true];congr 1;refine(Jx λp hp=>?_).trans (List.map_id _);have:p.1≠k':=λz=>n1 (Dj.mpr ⟨p,hp,z⟩);simp[this]
   rw[e];exact⟨by simp[YF],by simpa[YF] using cD.cons h t⟩
  ·obtain⟨h1,h2⟩:=L6 (k:=k) h n2 t
   have e:XO ((k',u)::kvs) k v=(k',u)::XO kvs k v:=by
    unfold XO;simp only[Gx,hk,decide_false,Tl];split
    ·simp[hk]
    ·rfl
   rw[e];exact⟨by simpa[YF,hk] using h1,by simpa[YF,hk] using cD.cons hu h2⟩
theorem J9{N:Ur->Prop}{l:Ur}{o:HO}{xs:List V}{ds:List cX}{kvs:List (aK×V)}(ho:H l=some (.dK kvs))(hN:N l)(h:cD K N H xs ds):cD K N (upd H l o) xs ds:=
 h.fr (P:=λb=>b=l) (λb u q n=>by
  by_cases hb:b=l
  ·subst hb
   rw[ho] at q;cases q;exact absurd (n rfl) λz=>z
  ·rw[b6 hb]
   exact q) λa z=>z▸hN
theorem EK{i:Nat}{fk fv:VF}{d7:Pos}(hu:X.A.units+1<cLine)(ho:PE X a (KJ i))(hk:PE X b (TV K ml pa ta ia fk))(hv:PE X c (TV K ml pb true true fv))(hs:Ve c (some (.Subscript a b d7)) pos.line X.env=pure false):
  PS X (.Assign [.Subscript a b d7] c pos) (WE K ml (HS i fk fv)):=(kM hu ho hk hv hs).imp λD σ H ⟨B,O,δ,o,S,q,k⟩=>by
 unfold HS at q;cases h1:fv δ with
 |none=>rw[h1] at q;cases q
 |some p1=>
  obtain⟨z,δ1⟩:=p1;rw[h1] at q;have q:((XN δ1 i).bind λ_=>(fk δ1).bind λq=>(WH q.1).bind λk=>(XN q.2 i).bind λz_1=>if z_1.1.length<16777216/\z_1.1.Nodup then some (Ou.nx (q.2.set i (.ow (let r:=YF z_1.1 z_1.2 k z;.dct r.1 r.2)))) else none)=some o:=q;cases h0:XN δ1 i with
  |none=>rw[h0] at q;cases q
  |some z0=>
  obtain⟨ks0,ds0⟩:=z0;rw[h0] at q;cases h2:fk δ1 with
  |none=>simp[h2] at q
  |some p2=>
   obtain⟨y,δ2⟩:=p2;simp only[Af,h2] at q;cases h3:WH y with
   |none=>simp[h3] at q
   |some kk=>
    simp only[Af,h3] at q;cases h4:XN δ2 i with
    |none=>simp[h4] at q
    |some zz=>
     obtain⟨ks,ds⟩:=zz;simp only[h4,Af] at q;split at q
     ·rename_i hz
      cases q;refine⟨B,O,δ,z,δ1,S,h1,λv1 H1 R1=>?_⟩;obtain⟨l,e1,e2,_⟩:=R1.sta.ow i _ (T6 h0);refine⟨.ref l,e2,B,O,δ1,y,δ2,R1.sta,h2,λv2 H2 R2=>?_⟩;have ey:=R2.rep.key h3;subst ey;obtain⟨l',e3,_,w2⟩:=R2.sta.ow i _ (T6 h4);rw[e1] at e3;cases e3;generalize hw:cX.dct ks ds=dd at w2;cases w2 with
      |lst _ _=>cases hw
      |dct qd r=>
       cases hw;have rv:=R1.rep.fr R2.frm (λa z=>.inr z) λa z=>.inr z;obtain⟨g1,g2⟩:=L6 (k:=kk) rv hz.2 r;refine⟨l,_,rfl,DPut.k qd (by rw[Bt];simpa using hz.1),k σ _ O (R2.sta.wrote e1 (λz=>z) ?_)⟩;have w:OV K (Nn B O) (upd H2 l (.dK (XO _ kk v1))) l (.dct ((XO _ kk v1).map Dn) _):=.dct cF (J9 qd (.inr ⟨i,e1⟩) g2);rw[g1] at w;exact w
     ·cases q
end
section
variable{X:Cx}{K:Ai}{ml:List Nat}{e a b c:Ux}{es:List Ux}{pa ta ia pb tb ib pc tc ic pu bt bi ps bs:Bool}{fa fb fc f:VF}{B B':Bs}{O:Nat->Option Ur}{H H0 H1 H':Hp}{σ:St}{δ δ':Ev}{v:V}{d:cX}{p:Ur}{pos:Pos}
def jF(i j k:Nat)(ta:TA):TS:=λD σ H=>ta σ H λvs H1=>∃v w u,vs=[v,w,u]/\D.nx (((σ.set i (some v)).set j (some w)).set k (some u)) H1
theorem dU{i j k:Nat}{x y z:Uw}{a b c:Ux}{ta:TA}{px py pz pt:Pos}{kt k2 pt2}(hc:X.calm=true)(hN:X.N.Nodup)(hi:X.N[i]?=some x)(hj:X.N[j]?=some y)(hk:X.N[k]?=some z)(hij:i≠j)(hik:i≠k)(hjk:j≠k)(hx:X.env.scope.names.lookup x=some .local)(hy:X.env.scope.names.lookup y=some .local)(hz:X.env.scope.names.lookup z=some .local)(ha:PA X [a,b,c] ta)(hw:Gg [.Tuple [.Name x px,.Name y py,.Name z pz] kt pt] (.Tuple [a,b,c] k2 pt2) X.env=pure (some [x,y,z]))(hs:Gf [.Tuple [.Name x px,.Name y py,.Name z pz] kt pt] (.Tuple [a,b,c] k2 pt2) pos.line X.env=pure false:=by rfl):PS X (.Assign [.Tuple [.Name x px,.Name y py,.Name z pz] kt pt] (.Tuple [a,b,c] k2 pt2) pos) (jF i j k ta):=by
 intro aa s σ H D I h;rw[exec_Assign_arm];refine Aa (Dd ?_);rw[hs];refine Aa (Ag ?_);rw[if_neg (by decide)];refine Aa (Tuple_ (ZN (ha _ aa s σ H _ I h) λus s1 ⟨vs,H1,I1,r1,q1⟩=>?_));obtain⟨v,w,u,e1,q1⟩:=q1;subst e1;obtain⟨u1,u2,u3,rfl,rv,rw',ru⟩:∃u1 u2 u3,us=[u1,u2,u3]/\b5 v u1/\b5 w u2/\b5 u u3:=by
  cases r1 with
  |cons p q=>
   cases q with
   |cons p' q'=>
    cases q' with
    |cons p'' q''=>
     cases q'';exact⟨_,_,_,rfl,p,p',p''⟩
 refine Cm ?_ (by show 3<=sizeLine;decide);have I2:cK X aa σ H1 {s1 with heap:=s1.heap.push {cls:=.type "tuple",data:=.seq [u1,u2,u3].toArray}}:=I1.kept (t':=s1.toks) λb o e=>Ac _ e;rw[hw];refine Aa (Ag ?_);show Ut (Uv X.prog X.w) X.A (do rule "assign.swapped-stores";let items<-Jt (.ref s1.heap.objs.size) 3 none;Vi [λv=>Iy X.env z v,λv=>Iy X.env y v,λv=>Iy X.env x v] items.reverse;pure Flow.next) _ _ _;refine Aa (Gk (Aa (Pp (items:= #[u1,u2,u3]) (I.ok.hd hc) (Ju s1.heap _) λh' hx'=>?_)));have I3:=I2.kept (h':=h') (t':=s1.toks) λb o e=>hx' b o (Aw (Aj e)) e;show Ut _ _ (Vi [λv=>Iy X.env z v,λv=>Iy X.env y v,λv=>Iy X.env x v] [u3,u2,u1]>>=λ_=>pure Flow.next) _ _ _;refine Aa (Ed (Iz (Y2 I3 hN hk (.inl hz) ru (λs2 I4=>?_) (.inr hz))));refine Ed (Iz (Y2 I4 hN hj (.inl hy) rw' (λs3 I5=>?_) (.inr hy)));refine Ed (Iz (Y2 I5 hN hi (.inl hx) rv (λs4 I6=>Iq (Ag ?_)) (.inr hx)));rw[Em _ _ (Dk hij),Em _ _ (Dk hik),Em _ _ (Dk hjk)] at I6;exact⟨_,H1,I6,q1⟩
noncomputable def OE(i j k:Nat)(x y z:VX):VS:=λδ=>(x δ).bind λp=>(y p.2).bind λq=>(z q.2).bind λr=>if i<r.2.length/\j<r.2.length/\k<r.2.length then some (.nx (((r.2.set k r.1).set j q.1).set i p.1)) else none
theorem L8{i j k:Nat}{x y z:VX}{o:Ou}(h:OE i j k x y z δ=some o):∃s1 δ1 s2 δ2 s3 δ3,x δ=some (s1,δ1)/\y δ1=some (s2,δ2)/\z δ2=some (s3,δ3)/\(i<δ3.length/\j<δ3.length/\k<δ3.length)/\o=.nx (((δ3.set k s3).set j s2).set i s1):=by
 unfold OE at h;cases h1:x δ with
 |none=>rw[h1] at h;cases h
 |some p=>
  rw[h1] at h;cases h2:y p.2 with
  |none=>simp[h2] at h
  |some q=>
   simp only[Af,h2] at h;cases h3:z q.2 with
   |none=>simp[h3] at h
   |some r=>
    simp only[Af,h3] at h;split at h
    ·cases h
     exact⟨p.1,p.2,q.1,q.2,r.1,r.2,rfl,h2,h3,by assumption,rfl⟩
    ·cases h
theorem kD{i j k:Nat}{x y z:Uw}{fx fy fz:VX}{px py pz pt:Pos}{kt k2 pt2}(hc:X.calm=true)(hN:X.N.Nodup)(hi:X.N[i]?=some x)(hj:X.N[j]?=some y)(hk:X.N[k]?=some z)(hij:i≠j)(hik:i≠k)(hjk:j≠k)(hx:X.env.scope.names.lookup x=some .local)(hy:X.env.scope.names.lookup y=some .local)(hz:X.env.scope.names.lookup z=some .local)(ha:PE X a (TX K ml fx))(hb:PE X b (TX K ml fy))(hcc:PE X c (TX K ml fz))(hw:Gg [.Tuple [.Name x px,.Name y py,.Name z pz] kt pt] (.Tuple [a,b,c] k2 pt2) X.env=pure (some [x,y,z]))(hmi:i∉ml:=by decide)(hmj:j∉ml:=by decide)(hmk:k∉ml:=by decide)(hs:Gf [.Tuple [.Name x px,.Name y py,.Name z pz] kt pt] (.Tuple [a,b,c] k2 pt2) pos.line X.env=pure false:=by rfl)(he:Us (a::[b,c]) X.env=(false,eval a X.env)::Us [b,c] X.env:=by rfl)(he2:Us (b::[c]) X.env=(false,eval b X.env)::Us [c] X.env:=by rfl)(he3:Us (c::[]) X.env=(false,eval c X.env)::Us [] X.env:=by rfl):
  PS X (.Assign [.Tuple [.Name x px,.Name y py,.Name z pz] kt pt] (.Tuple [a,b,c] k2 pt2) pos) (WE K ml (OE i j k fx fy fz)):=(dU hc hN hi hj hk hij hik hjk hx hy hz (bM ha (bM hb (bM hcc ZY he3) he2) he) hw hs).imp λD σ H ⟨B,O,δ,o,S,q,k⟩=>by
 obtain⟨s1,δ1,s2,δ2,s3,δ3,h1,h2,h3,hl,rfl⟩:=L8 q;refine⟨B,O,δ,s1,δ1,S,h1,λv H1 B1 S1 w1 f1=>⟨B1,O,δ1,s2,δ2,S1,h2,λv2 H2 B2 S2 w2 f2=>⟨B2,O,δ2,s3,δ3,S2,h3,λv3 H3 B3 S3 w3 f3=>⟨v,v2,v3,rfl,?_⟩⟩⟩⟩;obtain⟨O4,S4⟩:=w3.bind S3 hmk hl.2.2;obtain⟨O5,S5⟩:=(w2.fr f3).bind S4 hmj (by rw[Cd];exact hl.2.1);obtain⟨O6,S6⟩:=((w1.fr f2).fr f3).bind S5 hmi (by rw[Cd,Cd];exact hl.1);rw[Em _ _ (Dk hij),Em _ _ (Dk hik),Em _ _ (Dk hjk)] at S6;exact k _ _ _ S6
theorem mJ{i j k:Nat}{x y z:Uw}{fx fy fz:VX}{px py pz pt:Pos}{kt k2 pt2}(hK:X.K=K)(hc:X.calm=true)(hN:X.N.Nodup)(hi:X.N[i]?=some x)(hj:X.N[j]?=some y)(hk:X.N[k]?=some z)(hij:i≠j)(hik:i≠k)(hjk:j≠k)(hx:AL X.env.scope x)(hy:AL X.env.scope y)(hz:AL X.env.scope z)(ha:PE X a (TX K ml fx))(hb:PE X b (TX K ml fy))(hcc:PE X c (TX K ml fz))(hmi:i∉ml:=by decide)(hmj:j∉ml:=by decide)(hmk:k∉ml:=by decide)(hs:Gf [.Tuple [.Name x px,.Name y py,.Name z pz] kt pt] (.Tuple [a,b,c] k2 pt2) pos.line X.env=pure false:=by rfl)(hw:Gg [.Tuple [.Name x px,.Name y py,.Name z pz] kt pt] (.Tuple [a,b,c] k2 pt2) X.env=pure none:=by rfl)(hn:(Uz [.Name x px,.Name y py,.Name z pz] X.env).length=3:=by rfl)(hst:(Uz [.Name x px,.Name y py,.Name z pz] X.env).findIdx? (·.1)=none:=by rfl)(g1:(Uz [.Name x px,.Name y py,.Name z pz] X.env).map (·.2)=Fv (.Name x px) X.env::(Uz [.Name y py,.Name z pz] X.env).map (·.2):=by rfl)(g2:(Uz [.Name y py,.Name z pz] X.env).map (·.2)=Fv (.Name y py) X.env::(Uz [.Name z pz] X.env).map (·.2):=by rfl)(g3:(Uz [.Name z pz] X.env).map (·.2)=Fv (.Name z pz) X.env::(Uz [] X.env).map (·.2):=by rfl)(fx':X.fn x=true∨X.env.scope.names.lookup x=some .local:=by first|exact .inl rfl|exact .inr rfl|assumption)(fy':X.fn y=true∨X.env.scope.names.lookup y=some .local:=by first|exact .inl rfl|exact .inr rfl|assumption)(fz':X.fn z=true∨X.env.scope.names.lookup z=some .local:=by first|exact .inl rfl|exact .inr rfl|assumption)(h1:(Uz [.Tuple [.Name x px,.Name y py,.Name z pz] kt pt] X.env).map (·.2)=[Fv (.Tuple [.Name x px,.Name y py,.Name z pz] kt pt) X.env]:=by rfl)(he:Us (a::[b,c]) X.env=(false,eval a X.env)::Us [b,c] X.env:=by rfl)(he2:Us (b::[c]) X.env=(false,eval b X.env)::Us [c] X.env:=by rfl)(he3:Us (c::[]) X.env=(false,eval c X.env)::Us [] X.env:=by rfl):PS X (.Assign [.Tuple [.Name x px,.Name y py,.Name z pz] kt pt] (.Tuple [a,b,c] k2 pt2) pos) (WE K ml (OE i j k fx fy fz)):=
 (FT (Wx (bM ha (bM hb (bM hcc ZY he3) he2) he)) (Za (K:=K) hK hc (RS (PH hN hi hx fx') (RS (PH hN hj hy fy') (RS (PH hN hk hz fz') DS g3) g2) g1) hn hst) hs hw h1).imp λD σ H q0=>by obtain⟨B,O,δ,o,S,q,k⟩:=q0;obtain⟨s1,δ1,s2,δ2,s3,δ3,h1,h2,h3,hl,rfl⟩:=L8 q;refine⟨B,O,δ,s1,δ1,S,h1,λv H1 B1 S1 w1 f1=>⟨B1,O,δ1,s2,δ2,S1,h2,λv2 H2 B2 S2 w2 f2=>⟨B2,O,δ2,s3,δ3,S2,h3,λv3 H3 B3 S3 w3 f3=>⟨(by show 3<=sizeLine;decide),λp hp=>⟨p,_,rfl,WM.of cF,rfl,v,_,rfl,v2,_,rfl,v3,_,rfl,rfl,?_⟩⟩⟩⟩⟩;have f4:Fr (OA O) H3 (upd H3 p (.tup [v,v2,v3])):=(cQ hp).fr;obtain⟨O4,S4⟩:=(w3.fr f4).bind (S3.same (cQ hp)) hmk hl.2.2;obtain⟨O5,S5⟩:=((w2.fr f3).fr f4).bind S4 hmj (by rw[Cd];exact hl.2.1);obtain⟨O6,S6⟩:=(((w1.fr f2).fr f3).fr f4).bind S5 hmi (by rw[Cd,Cd];exact hl.1);rw[Em _ _ (Dk hij),Em _ _ (Dk hik),Em _ _ (Dk hjk)] at S6;exact k _ _ _ S6
end
section
variable{prog:Av}{w:Uy}{A:Br}{E:Uq->Ad->Prop}{s:Ad}
theorem TC{it t:Ur}{i:Nat}{items:Array Uq}{x:Uq}{Q:Uq->Ad->Prop}(hit:s.heap.IsTupleIter it t i)(ht:s.heap.IsTuple t items)(hx:items[i]?=some x)(hQ:∀h',h'.IsTupleIter it t (i+1)->Ey it s.heap h'->Q x {s with heap:=h'}):Ut (Uv prog w) A (Bw (.ref it)) Q E s:=by obtain⟨oi,g1,c1,d1⟩:=id hit;obtain⟨ot,g2,_,nt,d2⟩:=ht;unfold Bw;refine Aa (Dm (name:=Bf "__next__") hit.typeIs Fj (Du Fj hit.typeIs Jy ?_ (Jo _)));show Ut _ _ (field (Ba it) 0>>=_) _ _ s;refine Aa (Dw g1 d1 (x:=.ref t) rfl ?_);show Ut _ _ (if(Ba t== .none)=true then _ else _) _ _ s;rw[if_neg (show¬(Ba t==Value.none)=true from Cs)];show Ut _ _ (field (Ba it) 1>>=_) _ _ s;refine Aa (Dw g1 d1 (x:=.int i 0) rfl ?_);show Ut _ _ (seqItems? (Ba t)>>=_) _ _ s;refine Aa (Fa g2 d2 ?_);simp only[hx,Ir];refine Aa (wpAny_setField g1 d1 (by simp) (Ag ⟨x,rfl,Ag (hQ _ ⟨_,Jh _ g1 (Obj.isFreed_of_fields (Ot d1 _)),(Obj.cls_mapFields ..).trans c1,?_⟩ (Nw ..))⟩));rw[Ot d1];simp[rawInt]
theorem RO{it t:Ur}{i:Nat}{items:Array Uq}{Q:Uq->Ad->Prop}(hh:A.handled=none)(hit:s.heap.IsTupleIter it t i)(ht:s.heap.IsTuple t items)(hx:items[i]?=none)(hE:∀h' e,Jw it s.heap h'->(∃o,h'.get? e=some o/\o.cls=.type "StopIteration")->E (.ref e) {s with heap:=h'}):Ut (Uv prog w) A (Bw (.ref it)) Q E s:=by
 obtain⟨oi,g1,c1,d1⟩:=id hit;obtain⟨ot,g2,_,nt,d2⟩:=ht;unfold Bw;refine Aa (Dm (name:=Bf "__next__") hit.typeIs Fj (Du Fj hit.typeIs Jy ?_ (Jo _)));show Ut _ _ (field (Ba it) 0>>=_) _ _ s;refine Aa (Dw g1 d1 (x:=.ref t) rfl ?_);show Ut _ _ (if(Ba t== .none)=true then _ else _) _ _ s;rw[if_neg (show¬(Ba t==Value.none)=true from Cs)];show Ut _ _ (field (Ba it) 1>>=_) _ _ s;refine Aa (Dw g1 d1 (x:=.int i 0) rfl ?_);show Ut _ _ (seqItems? (Ba t)>>=_) _ _ s;refine Aa (Fa g2 d2 ?_);simp only[hx,Ir];refine Aa (Gk (Aa (wpAny_setField g1 d1 (by simp) ?_)));show Ut _ _ (newExc (Kv "StopIteration") []>>=_) _ _ _;refine Aa ?_;unfold newExc newTuple;refine Aa (Cm ?_ (by size_fits));refine Aa (m:=firstArgMember _ _) (Hj (a:=Value.none) (by first|rfl|(unfold firstArgMember;rfl)) (Cm ?_ (by size_fits)));unfold raiseNew;refine Aa (wpAny_handled ?_);first|rw[hh]|rw[show A.in1.handled=none from hh]
 refine Aa (Ag (wpAny_throw (hE _ _ (((Nw ..).extBut.push _).push _) ⟨_,Ao _ rfl,rfl⟩)))
end
theorem A5{prog:Av}{w:Uy}{A:Br}(hh:A.handled=none)(it t:Ur)(hne:t≠it)(items:Array Uq):
  Draws prog w A it [it,t] items.size (λi v=>items[i]?=some v) (λi h=>h.IsTupleIter it t i/\h.IsTuple t items) where
 live:=λ_ _ st=>let ⟨o,ho,_⟩:=st.1;⟨o,ho⟩
 frame:=λ_ _ _ st hk=>⟨st.1.at λo e=>hk it (by simp) o e,by obtain⟨o,ho,r⟩:=st.2;exact⟨o,hk t (by simp) o ho,r⟩⟩
 item:=λi s Q E hi st hQ=>TC st.1 st.2 (x:=items[i]) (by simp[hi]) λh' a b=>hQ _ h' s.toks (by simp[hi]) ⟨a,st.2.extBut b.extBut hne⟩ b
 done:=λs Q E st hE=>RO hh st.1 st.2 (by simp) hE
section
variable{X:Cx}{aa:List (Ur×Vc)}{σ:St}{H:Hp}{s:Ad}{h':Va}
theorem cK.turnedL{t':Nat}{fp:List Ur}(I:cK X aa σ H s)(k:∀b o,b∉fp->s.heap.get? b=some o->h'.get? b=some o)(there:∀b∈fp,∃o,h'.get? b=some o)(hf:∀b∈fp,QF X aa H b):cK X aa σ H {s with heap:=h',toks:=t'}:=by
 have nit:∀b u,H b=some u->b∉fp:=λb u e z=>by rw[(hf b z).1] at e;cases e
 have hL:X.env.locals∉fp:=λz=>(hf _ z).2.1 rfl;refine I.step (g':=s.gens) (d':=s.drawn) (ch:=fp) (λb hb=>?_) (λb o _ _ hc e _=>k b o hc e) (λb o _ _ hc e _=>⟨o.slots,k b o hc e⟩) (λ_ _ _ _ n=>n)
  (λb o hc e=>⟨o,k b o hc e⟩) (λ_ _ e=>e) (λ_ _ _ e=>e) (λb ps e=>⟨#[],by rw[e];simp⟩) (λm hm=>?_) (λb u e=>?_) I.bare
 ·obtain⟨_,f1,f2,f3,f4,f5⟩:=hf b hb
  exact⟨f3,f1,f4,f5⟩
 ·obtain⟨o,es,ep,ho,r⟩:=hm
  exact⟨o,es,ep,k _ o hL ho,r⟩
 ·refine (I.hok b u e).stay (λc v hc q => k c v ?_ q) (λ_ q => q) λ_ _ q => q
  rcases hc with z|z
  ·rw[z];exact nit b u e
  ·exact nit c _ z
end
section
variable{X:Cx}{aa:List (Ur×Vc)}{σ:St}{H:Hp}{s:Ad}{h':Va}
theorem cK.turnedL'{t':Nat}{fp:List Ur}(I:cK X aa σ H s)(k:∀b o,b∉fp->s.heap.get? b=some o->h'.get? b=some o)(hf:∀b∈fp,QF X aa H b):cK X aa σ H {s with heap:=h',toks:=t'}:=by
 have nit:∀b u,H b=some u->b∉fp:=λb u e z=>by rw[(hf b z).1] at e;cases e
 have hL:X.env.locals∉fp:=λz=>(hf _ z).2.1 rfl;refine I.step (g':=s.gens) (d':=s.drawn) (ch:=fp) (λb hb=>?_) (λb o _ _ hc e _=>k b o hc e) (λb o _ _ hc e _=>⟨o.slots,k b o hc e⟩) (λ_ _ _ _ n=>n)
  (λb o hc e=>⟨o,k b o hc e⟩) (λ_ _ e=>e) (λ_ _ _ e=>e) (λb ps e=>⟨#[],by rw[e];simp⟩) (λm hm=>?_) (λb u e=>?_) I.bare
 ·obtain⟨_,f1,f2,f3,f4,f5⟩:=hf b hb
  exact⟨f3,f1,f4,f5⟩
 ·obtain⟨o,es,ep,ho,r⟩:=hm
  exact⟨o,es,ep,k _ o hL ho,r⟩
 ·refine (I.hok b u e).stay (λc v hc q => k c v ?_ q) (λ_ q => q) λ_ _ q => q
  rcases hc with z|z
  ·rw[z];exact nit b u e
  ·exact nit c _ z
end
def KW(K:Ai)(tup:Bool)(H:Hp)(a:Ur)(xs:List V):Prop:=if tup=true then WM K H a xs else YA K H a xs
def Q5(tup:Bool)(h:Va)(a:Ur)(items:Array Uq):Prop:=if tup=true then h.IsTuple a items else h.IsList a items
def U0(tup:Bool)(h:Va)(it a:Ur)(i:Nat):Prop:=if tup=true then h.IsTupleIter it a i else h.IsListIter it a i
theorem Yq{prog:Av}{w:Uy}{A:Br}(hh:A.handled=none)(tup:Bool)(it t:Ur)(hne:t≠it)(items:Array Uq):Draws prog w A it [it,t] items.size (λi v=>items[i]?=some v) (λi h=>U0 tup h it t i/\Q5 tup h t items):=by
 cases tup with
 |true=>exact A5 hh it t hne items
 |false=>exact Draws.list hh it t hne items
theorem Q5.lt{tup:Bool}{h:Va}{a:Ur}{items:Array Uq}(s:Q5 tup h a items):a<h.objs.size:=by
 cases tup with
 |true=>obtain⟨o,e,_⟩:=s;exact Aj e
 |false=>obtain⟨o,e,_⟩:=s;exact Aj e
theorem cK.srcA{X:Cx}{aa:List (Ur×Vc)}{σ:St}{H:Hp}{s:Ad}{a:Ur}{xs:List V}{tup:Bool}(I:cK X aa σ H s)(h:KW X.K tup H a xs):∃its:List Uq,bN xs its/\Q5 tup s.heap a its.toArray/\xs.length<=sizeLine:=by
 cases tup with
 |true=>
  obtain⟨its,r,p,z⟩:=I.tuple h;exact⟨its,r,p,z⟩
 |false=>
  obtain⟨its,r,p,z⟩:=I.list h;exact⟨its,r,p.isList,z⟩
theorem cK.sq_inj{X:Cx}{aa:List (Ur×Vc)}{σ:St}{H:Hp}{s:Ad}{a:Ur}{xs ys:List V}{tup:Bool}(I:cK X aa σ H s)(h:KW X.K tup H a xs)(h':KW X.K tup H a ys):xs=ys:=by
 cases tup with
 |true=>exact I.tuple_inj h h'
 |false=>exact I.list_inj h h'
theorem U0.at{tup:Bool}{h h':Va}{it a:Ur}{i:Nat}(st:U0 tup h it a i)(k:∀o,h.get? it=some o->h'.get? it=some o):U0 tup h' it a i:=by
 cases tup with
 |true=>exact Heap.IsTupleIter.at st k
 |false=>exact Heap.IsListIter.at st k
theorem U0.obj{tup:Bool}{h:Va}{it a:Ur}{i:Nat}(st:U0 tup h it a i):∃o,h.get? it=some o/\∀v,o.data≠ .cell v:=by
 cases tup with
 |true=>
  obtain⟨o,e,c,d⟩:=st;exact⟨o,e,λv z=>by rw[d] at z;cases z⟩
 |false=>
  obtain⟨o,e,c,d⟩:=st;exact⟨o,e,λv z=>by rw[d] at z;cases z⟩
def Ite(K:Ai)(tup:Bool)(a:Ur):It:=
 ⟨λi H=>∃xs x,KW K tup H a xs/\xs[i]?=some x,λi H v H'=>∃p x,(∀xs,KW K tup H a xs->xs[i]?=some x)/\H p=none/\H'=upd H p (.tup [.int i,x])/\v=.ref p,λi H=>∃xs,KW K tup H a xs/\xs.length=i⟩
theorem CH{P:Av}{w:Uy}{K:Ai}{es:List Ux}{k:Nat}{pos:Pos}(tup:Bool)(a e it:Ur)(hei:e≠it)(hae:a≠e)(hai:a≠it):
  IZ P w K (.Tuple es k pos) (Ite K tup a) [e,it] e (λi h=>(∃old,IsEnum h e it i old)/\U0 tup h it a i) where
 mem:=by simp
 obj:=λi h st b hb=>by
  obtain⟨⟨old,he⟩,hi⟩:=st;rcases Al.mp hb with z|z
  ·subst z
   exact⟨_,he,λv z=>by cases z⟩
  ·have:=Ay.mp z
   subst this;exact hi.obj
 keep:=λi h h' st kk=>by obtain⟨⟨old,he⟩,hi⟩:=st;exact⟨⟨old,kk e (by simp) _ he⟩,hi.at λo q=>kk it (by simp) o q⟩
 item:=by
  intro X hP hw hK hc i aa s σ H E I hf st hg;subst hP hw hK;obtain⟨⟨old,he⟩,hi⟩:=st;obtain⟨xs,x,hq,hx⟩:=hg;obtain⟨its,rv,src,hz⟩:=I.srcA hq;have hlt:i<its.toArray.size:=by have:=(Ah.mp hx).1;have:=rv.length;simp only[An];lia
  have hh:X.A.in1.handled=none:=I.ok.hd hc;refine wpAny_pyNext_enum_itemD (Yq hh tup it a hai its.toArray) he ⟨hi,src⟩ hlt hei (by simp[hei,Dk hae]) λu h1 tk hu ho st1 ht hsz hk=>⟨_,rfl,?_⟩;refine wpAny_letOwnedTupleGo_enum (s:={s with heap:=h1,toks:=tk+1}) ho λh2 he2 sb2=>?_;have sb2:Ey e h1 h2:=sb2;obtain⟨u',hu',ru⟩:=rv.get hx;have hu:its.toArray[i]?=some u:=hu;rw[List.getElem?_toArray,hu'] at hu;have hu:=Bx hu;subst hu;have kk:∀b o,b∉[e,it]->s.heap.get? b=some o->h2.get? b=some o:=λb o hb q=>by have h1b:b≠e:=λz=>hb (by simp[z]);have h2b:b≠it:=λz=>hb (by simp[z]);exact(sb2.2 b h1b).trans (hk b o h1b h2b q)
  have gq:h2.get? s.heap.objs.size=some {cls:=.type "tuple",data:=.seq #[.int i tk,u']}:=(sb2.2 _ (Gp (Aj he))).trans ht;have br:H s.heap.objs.size=none:=I.hok.fresh (Am _);have fo:∀b∈[e,it],b<s.heap.objs.size:=λb hb=>by
   rcases Al.mp hb with z|z
   ·rw[z];exact Aj he
   ·rw[Ay.mp z]
    obtain⟨o,q,_⟩:=hi.obj;exact Aj q
  have I0:cK X aa σ (upd H s.heap.objs.size (.tup [.int i,x])) {s with heap:=s.heap.push {cls:=.type "tuple",data:=.seq #[.int i tk,u']},toks:=tk}:=
   I.laid (λb o q=>Ac _ q) (Am _) ⟨by show 2<=sizeLine;decide,[.int i tk,u'],.cons ⟨tk,rfl⟩ (.cons ru .nil),Ju _ _⟩
  have I1:cK X aa σ (upd H s.heap.objs.size (.tup [.int i,x])) {s with heap:=h2,toks:=tk+1}:=by
   refine cK.turnedL (s:={s with heap:=s.heap.push {cls:=.type "tuple",data:=.seq #[.int i tk,u']},toks:=tk}) (h':=h2) (t':=tk+1) (fp:=[e,it]) I0 (λb o hb q=>?_) (λb hb=>?_) λb hb=>⟨by rw[b6 (Aw (fo b hb))];exact(hf b hb).1,(hf b hb).2⟩
   ·by_cases hbn:b=s.heap.objs.size
    ·subst hbn
     have q:(s.heap.push {cls:=.type "tuple",data:=.seq #[.int i tk,u']}).get? s.heap.objs.size=some o:=q;rw[Ao _ rfl] at q;cases q;exact gq
    ·exact kk b o hb ((Iw _ _ _ hbn).symm.trans q)
   ·rcases Al.mp hb with z|z
    ·rw[z];exact⟨_,he2⟩
    ·rw[Ay.mp z]
     obtain⟨o,q,_⟩:=st1.1.obj;exact⟨o,(sb2.2 it (Dk hei)).trans q⟩
  refine⟨.ref s.heap.objs.size,upd H s.heap.objs.size (.tup [.int i,x]),?_,rfl,⟨_,x,λys hy=>by rw[I.sq_inj hy hq];exact hx,br,rfl,rfl⟩,⟨⟨_,by simpa using he2⟩,st1.1.at λo q=>(sb2.2 it (Dk hei)).trans q⟩,λb hb=>?_⟩
  ·exact I1
  ·rw[b6 (Aw (fo b hb))]
   exact(hf b hb).1
 done:=by
  intro X hP hw hK hc i aa s σ H E I hf st hg;subst hP hw hK;obtain⟨⟨old,he⟩,hi⟩:=st;obtain⟨xs,hq,hx⟩:=hg;obtain⟨its,rv,src,hz⟩:=I.srcA hq;have hh:X.A.in1.handled=none:=I.ok.hd hc;have hn:its.toArray.size=i:=by rw[An,<-rv.length];exact hx
  refine wpAny_pyNext_enum_endD (Yq hh tup it a hai its.toArray) he ⟨by rw[hn];exact hi,src⟩ λh1 xb=>⟨rfl,?_⟩;obtain⟨f0,f1,f2,f3,f4,f5⟩:=hf it (by simp);exact I.turned (t':=s.toks) (λb o hb q=>xb b o hb q) f0 f1 f3 f4 f5
 self:=λ_ i _ _ _ st h=>Px st.1.choose_spec h
theorem A6(a:Ur)(items:Array Uq)(n:Nat)(dd:Option Ur)(sl:Array (Option Uq)):Meets (Dq.«enumerate.__new__» ⟨[.type "enumerate",.ref a],[]⟩) (λ_ R s=>s.heap.get? a=some {cls:=.type "tuple",dict:=dd,data:=.seq items n,slots:=sl}∧R (.ok (.ret (.ref (s.heap.push {cls:=.type "tuple_iterator",data:=.fields #[.ref a,.int 0 0]}).objs.size))) {s with heap:=(s.heap.push {cls:=.type "tuple_iterator",data:=.fields #[.ref a,.int 0 0]}).push {cls:=.type "enumerate",data:=.fields #[.none,.bool false,.ref s.heap.objs.size,rawInt 0,.none,.none]}}):=by
 refine .of_wp λprog w A R s h=>?_;obtain⟨hp,g,d,tk,os⟩:=s;obtain⟨ha,h⟩:=h;have hs:=sub_enumerate;have hT:Heap.IsTuple (Ry ⟨hp,g,d,tk,os⟩) a items:=⟨_,ha,rfl,n,rfl⟩;wp_walk using Cq ha
 refine wpAny_stack_any λst=>Ag ?_;split
 ·rename_i c _ _ _ _ _
  cases (c==Kv "enumerate")<;>(wp_walk using Cq ha,Hw hT;exact⟨_,rfl,h⟩)
 ·wp_walk using Cq ha,Hw hT
  exact⟨_,rfl,h⟩
theorem EZ{prog:Av}{w:Uy}{A:Br}{E:Uq->Ad->Prop}{s:Ad}{a:Ur}{items:Array Uq}{tup:Bool}{Q:Uq->Ad->Prop}(hs:Q5 tup s.heap a items)(h:∀h',IsEnum h' (s.heap.objs.size+1) s.heap.objs.size 0 .none->U0 tup h' s.heap.objs.size a 0->(∀b o,s.heap.get? b=some o->h'.get? b=some o)->Q (.ref (s.heap.objs.size+1)) {s with heap:=h'}):Ut (Uv prog w) A (call (.type "enumerate") [.ref a]) Q E s:=by
 cases tup with
 |false=>exact call_enumerate_list hs λh' a1 a2 _ a4=>h h' a1 a2 a4
 |true=>
  obtain⟨⟨cc,dd,dt,sl⟩,g1,hc,n,hd⟩:=hs;replace hc:cc=.type "tuple":=hc
  replace hd:dt=.seq items n:=hd
  subst hc hd;have hz:(s.heap.push {cls:=.type "tuple_iterator",data:=.fields #[.ref a,.int 0 0]}).objs.size=s.heap.objs.size+1:=Cg ..;refine callType_new F.called_enumerate (by decide) (F.typeCall_enumerate_1 _) (F.newCall_enumerate_1 _) (λobj=>F.args_object_init_2 obj _) F.entry_enumerate_new (A6 a items n dd sl) ⟨g1,?_⟩;show _/\_;rw[hz];have he:=Ao (s.heap.push {cls:=.type "tuple_iterator",data:=.fields #[.ref a,.int 0 0]}) (o:={cls:=.type "enumerate",data:=.fields #[.none,.bool false,.ref s.heap.objs.size,rawInt 0,.none,.none]}) rfl;rw[hz] at he;exact⟨⟨_,he,rfl⟩,h _ he ⟨_,Ac _ (Ao _ rfl),rfl,rfl⟩ λb o x=>Ac _ (Ac _ x)⟩
theorem JC:Be "enumerate"=some (.type "enumerate"):=by decide+kernel
theorem hZ:Be "zip"=some (.type "zip"):=by decide+kernel
section
variable{X:Cx}{K:Ai}{ml:List Nat}{l:Ux}{pu:Bool}{f:VF}{p pos f8:Pos}{es:List Ux}{tk:Nat}{δ:Ev}
def iEnu(K:Ai)(tl:TE):TI:=λσ H R=>tl σ H λx H1=>∃a tup,x=.ref a/\(∃xs,KW K tup H1 a xs)/\R (Ite K tup a) H1
theorem nJ{tl:TE}(hg:Gl X "enumerate")(hm:X.mg "enumerate"=none)(hl:PE X l tl)(he:Us (l::[]) X.env=(false,eval l X.env)::Us [] X.env:=by rfl):PI X (.Tuple es tk f8) (.Call (.Name "enumerate" p) [l] [] pos) (iEnu X.K tl):=by
 intro aa s σ H R I h;refine Es (VO I hg hm JC ?_ (by decide) (by decide));refine Cn (ZN (bM hl ZY he pos aa s σ H (λvs H1=>match vs with
  |[x]=>∃a tup,x=.ref a/\(∃xs,KW X.K tup H1 a xs)/\R (Ite X.K tup a) H1
  |_=>False) I h) λus s1 ⟨vs,H1,I1,r1,q1⟩=>?_) he (by rfl)
 match vs,r1,q1 with
 |[x],r1,q1=>
  obtain⟨a,tup,rfl,⟨xs,hq⟩,hR⟩:=q1;obtain⟨u,rfl,ru⟩:=U9 r1;cases ru;obtain⟨its,rv,src,_⟩:=I1.srcA hq;refine EZ src λh' he' hi' kp=>?_;have I2:cK X aa σ H1 {s1 with heap:=h'}:=I1.kept (t':=s1.toks) kp;have hn:∀b,s1.heap.objs.size<=b->H1 b=none:=λb hb=>I1.hok.fresh hb;refine Px he' ⟨s1.heap.objs.size+1,[s1.heap.objs.size+1,s1.heap.objs.size],_,Ite X.K tup a,H1,rfl,I2,CH tup a (s1.heap.objs.size+1) s1.heap.objs.size (Nat.succ_ne_self _) (λz=>?_) (λz=>?_),⟨⟨_,he'⟩,hi'⟩,λb hb=>?_,hR⟩
  ·have:=src.lt
   rw[z] at this;exact absurd this (Nat.not_lt_of_le (Dx _))
  ·have:=src.lt
   rw[z] at this;exact absurd this (Bq _)
  ·have hb':s1.heap.objs.size<=b:=by
    rcases Al.mp hb with z|z
    ·rw[z];exact Dx _
    ·rw[Ay.mp z];exact Am _
   exact I1.fpOk hb' (hn b hb')
theorem eD(h:X.K=K){tl:TE}(hg:Gl X "enumerate")(hm:X.mg "enumerate"=none)(hl:PE X l tl)(he:Us (l::[]) X.env=(false,eval l X.env)::Us [] X.env:=by rfl):PI X (.Tuple es tk f8) (.Call (.Name "enumerate" p) [l] [] pos) (iEnu K tl):=by subst h;exact nJ hg hm hl he
noncomputable def YC:Nat->List cX->List cX
 |_,[]=>[]
 |i,d::ds=>.tup [.int i,d]::YC (i+1) ds
noncomputable def NQ(f:VF):VI:=λδ=>(f δ).bind λp=>(YG p.1).map λds=>(YC 0 ds,p.2)
theorem NE:∀{ds:List cX} {n i:Nat} {d:cX},(YC n ds)[i]?=some d->∃x,ds[i]?=some x/\d=.tup [.int (n+i:Nat),x]
 |[],_,_,_,h=>by simp[YC] at h
 |x::ds,n,0,d,h=>by simp[YC] at h;exact⟨x,rfl,h.symm⟩
 |x::ds,n,i+1,d,h=>by
  have h:(YC (n+1) ds)[i]?=some d:=by simpa[YC] using h
  obtain⟨y,h1,h2⟩:=NE h;exact⟨y,by simpa using h1,by rw[h2,show n+1+i=n+(i+1) by lia]⟩
theorem NF:∀(ds:List cX) (n:Nat),(YC n ds).length=ds.length
 |[],_=>rfl
 |_::ds,n=>congrArg (· +1) (NF ds (n+1))
theorem MK{a:Ur}{tup:Bool}{ds:List cX}:AS K (Ite K tup a) [(.ref a,if tup=true then .tup ds else .lst ds)] (YC 0 ds):=by
 intro N H h;have r:=h _ (Ay.mpr rfl);have fin:∀xs,KW K tup H a xs->cD K N H xs ds->(∀(i:Nat) (d:cX),(YC 0 ds)[i]?=some d->(Ite K tup a).go i H/\∀x H',(Ite K tup a).yld i H x H'->aZ H H'/\bI K N H' N x d)/\(Ite K tup a).stop (YC 0 ds).length H:=λxs sq r=>by refine⟨λi d e=>?_,xs,sq,by rw[r.length,NF]⟩;obtain⟨z,e1,rfl⟩:=NE e;obtain⟨x,e2,r1⟩:=r.get e1;refine⟨⟨xs,x,sq,e2⟩,λy H' hy=>?_⟩;obtain⟨p,x',e3,hp,rfl,rfl⟩:=hy;have:=e3 xs sq;rw[e2] at this;cases this;refine⟨cQ hp,.tup (WM.of cF) (.cons ?_ (.cons (r1.same (cQ hp)) .nil))⟩;rw[Ja];exact .int _
 cases tup with
 |true=>
  have r:bI K N H N (.ref a) (.tup ds):=r;cases r with
  |tup sq r=>exact fin _ sq r
 |false=>
  have r:bI K N H N (.ref a) (.lst ds):=r;cases r with
  |lst q n r=>exact fin _ (YA.of q) r
  |fzl q r=>exact fin _ q.sq r
theorem KN(hK:X.K=K)(hg:Gl X "enumerate")(hm:X.mg "enumerate"=none)(h:PE X l (TV K ml pu true true f))(he:Us (l::[]) X.env=(false,eval l X.env)::Us [] X.env:=by rfl):
  PI X (.Tuple es tk f8) (.Call (.Name "enumerate" p) [l] [] pos) (CY K ml pu (NQ f)):=(eD (K:=K) hK hg hm h he).imp λσ H R ⟨B,O,δ,ds,δ',S,q,k⟩=>by
 unfold NQ at q;cases h1:f δ with
 |none=>rw[h1] at q;cases q
 |some p=>
  obtain⟨x,δ1⟩:=p;rw[h1] at q;refine⟨B,O,δ,x,δ1,S,h1,λv H1 R1=>?_⟩;cases x with
  |lst ds'=>
   cases q;obtain⟨a,xs,rfl,sq,r⟩:=R1.rep.lstE;exact⟨a,false,rfl,⟨xs,sq⟩,k _ [(.ref a,.lst ds')] H1 (R1.sta.keepV λp hp=>by rw[Ay.mp hp];exact R1.rep) R1.frm R1.pur (MK (tup:=false))⟩
  |tup ds'=>
   cases q;obtain⟨a,xs,rfl,sq,r⟩:=R1.rep.tupE;exact⟨a,true,rfl,⟨xs,sq⟩,k _ [(.ref a,.tup ds')] H1 (R1.sta.keepV λp hp=>by rw[Ay.mp hp];exact R1.rep) R1.frm R1.pur (MK (tup:=true))⟩
  |_=>cases q
end
section
variable{prog:Av}{w:Uy}{A:Br}{E:Uq->Ad->Prop}{s:Ad}
theorem U0.ext{tup:Bool}{h h':Va}{it a b:Ur}{i:Nat}(x:U0 tup h it a i)(hs:Jw b h h')(hne:it≠b):U0 tup h' it a i:=x.at λo e=>hs _ _ hne e
theorem Q5.ext{tup:Bool}{h h':Va}{a b:Ur}{xs:Array Uq}(x:Q5 tup h a xs)(hs:Jw b h h')(hne:a≠b):Q5 tup h' a xs:=by
 cases tup with
 |true=>obtain⟨o,e,r⟩:=x;exact⟨o,hs _ _ hne e,r⟩
 |false=>obtain⟨o,e,r⟩:=x;exact⟨o,hs _ _ hne e,r⟩
theorem SS{tup:Bool}{it a:Ur}{i:Nat}{xs:Array Uq}{x:Uq}{Q:Uq->Ad->Prop}(hi:U0 tup s.heap it a i)(hs:Q5 tup s.heap a xs)(hx:xs[i]?=some x)(hQ:∀h',U0 tup h' it a (i+1)->Ey it s.heap h'->Q x {s with heap:=h'}):Ut (Uv prog w) A (Bw (.ref it)) Q E s:=by
 cases tup with
 |true=>exact TC hi hs hx hQ
 |false=>exact wpAny_nextOf_list_item hi hs hx hQ
theorem LS{tup:Bool}{it a:Ur}{i:Nat}{xs:Array Uq}{Q:Uq->Ad->Prop}(hh:A.handled=none)(hi:U0 tup s.heap it a i)(hs:Q5 tup s.heap a xs)(hx:xs[i]?=none)(hE:∀h' e,Jw it s.heap h'->(∃o,h'.get? e=some o/\o.cls=.type "StopIteration")->E (.ref e) {s with heap:=h'}):Ut (Uv prog w) A (Bw (.ref it)) Q E s:=by
 cases tup with
 |true=>exact RO hh hi hs hx hE
 |false=>exact wpAny_nextOf_list_end hh hi hs hx hE
structure ZSt(t1 t2:Bool)(h:Va)(z p q i1 i2 a b:Ur)(k:Nat)(f0:Uq):Prop where
 zip:IsZip h z p q f0
 its:IsPair h p (.ref i1) (.ref i2)
 res:∃u v,IsPair h q u v
 one:U0 t1 h i1 a k
 two:U0 t2 h i2 b k
theorem CT{t1 t2:Bool}{z p q i1 i2 a b:Ur}{k:Nat}{xs ys:Array Uq}{x y:Uq}{Q:Uq->Ad->Prop}(D:Nc z p q i1 i2 a b)(S:ZSt t1 t2 s.heap z p q i1 i2 a b k .none)(s1:Q5 t1 s.heap a xs)(s2:Q5 t2 s.heap b ys)(hx:xs[k]?=some x)(hy:ys[k]?=some y)(hQ:∀h',ZSt t1 t2 h' z p q i1 i2 a b (k+1) (rawInt s.heap.objs.size)->IsPair h' s.heap.objs.size x y->h'.objs.size=s.heap.objs.size+1->(∀c o,c≠z->c≠q->c≠i1->c≠i2->s.heap.get? c=some o->h'.get? c=some o)->Q (.ref s.heap.objs.size) {s with heap:=h'}):Ut (Uv prog w) A (Dq.«zip.__next__» ⟨[.ref z],[]⟩) (λfin s'=>∃v,fin=.done (.ret v)/\Q v s') E s:=by
 obtain⟨gz,gi,⟨u,v,gr⟩,g1,g2⟩:=S;show Ut _ _ (field (Ba z) 2>>=_) _ _ _;refine Aa (Dw gz rfl (x:=.bool false) rfl ?_);show Ut _ _ (field (Ba z) 3>>=_) _ _ _;refine Aa (Dw gz rfl (x:=.ref p) rfl (Aa (Fa gi rfl ?_)));show Ut _ _ (Dy (Ba z)>>=_) _ _ _;refine Aa ?_
 (unfold Dy)
 refine Aa (Dw gz rfl (x:=.none) rfl (Ag ?_));simp only[if_true];refine Aa (Gk (Aa (Dw gz rfl (x:=.ref q) rfl (Aa (Fp gz (by simp) λha za ba=>Aa ?_)))));have za:IsZip ha z p q .ellipsis:=za;simp only[Rz,Qv,Nq,Jv];refine Aa (Aa (Lo ?_));show Ut _ _ (Bw (Ba i1)>>=_) _ _ _;refine Aa (SS (g1.ext ba.extBut D.i1z) (s1.ext ba.extBut D.l1z) hx λhb n1 bb=>Ag ?_);have rb:IsPair hb q u v:=bb.extBut _ _ D.TOi1 (ba.extBut _ _ D.TOz gr);refine Aa (Fa rb rfl (Aa (Jl rb λhc rc bc=>Aa (Sa (Ag ?_)))));have rc:IsPair hc q x v:=rc;refine Aa (Aa (Lo ?_));show Ut _ _ (Bw (Ba i2)>>=_) _ _ _;refine Aa (SS (((g2.ext ba.extBut D.i2z).ext bb.extBut D.i12.symm).ext bc.extBut D.TOi2.symm) (((s2.ext ba.extBut D.l2z).ext bb.extBut D.l2i1).ext bc.extBut D.l2TO) hy λhd n2 bd=>Ag ?_);have rd:IsPair hd q x v:=bd.extBut _ _ D.TOi2 rc;refine Aa (Fa rd rfl (Aa (Jl rd λhe re be=>Aa (Sa (Ag (Ag ?_))))));have re:IsPair he q x y:=re;refine Aa (Fa re rfl (Aa (wpAny_newTuple ?_)));have size:he.objs.size=s.heap.objs.size:=by rw[be.1,bd.1,bc.1,bb.1,ba.1]
 have ze:IsZip he z p q .ellipsis:=be.extBut _ _ D.TOz.symm (bd.extBut _ _ D.i2z.symm (bc.extBut _ _ D.TOz.symm (bb.extBut _ _ D.i1z.symm za)));have ke:∀c o,c≠z->c≠q->c≠i1->c≠i2->s.heap.get? c=some o->he.get? c=some o:=λc o c1 c2 c3 c4 g=>be.extBut _ _ c2 (bd.extBut _ _ c4 (bc.extBut _ _ c2 (bb.extBut _ _ c3 (ba.extBut _ _ c1 g))));have e1:U0 t1 he i1 a (k+1):=((n1.ext bc.extBut D.TOi1.symm).ext bd.extBut D.i12).ext be.extBut D.TOi1.symm;have e2:U0 t2 he i2 b (k+1):=n2.ext be.extBut D.TOi2.symm;have ie:IsPair he p (.ref i1) (.ref i2):=ke _ _ D.TIz D.TITO D.TIi1 D.TIi2 gi;have zlt:z<he.objs.size:=Aj ze;show Ut _ _ (Hg (Ba z) (.ref he.objs.size)>>=_) _ _ _;refine Aa ?_
 (unfold Hg)
 have zf:IsZip (he.push {cls:=.type "tuple",data:=.seq #[x,y]}) z p q .ellipsis:=Ac _ ze;refine Aa (Fp zf (by simp) λhg zg bg=>?_);have zg:IsZip hg z p q (rawInt he.objs.size):=zg;refine Fp zg (by simp) λhk zk bk=>?_;have zk:IsZip hk z p q (rawInt he.objs.size):=zk;have up:∀c o,c≠z->he.get? c=some o->hk.get? c=some o:=λc o c1 g=>bk.extBut _ _ c1 (bg.extBut _ _ c1 (Ac _ g));have tk:IsPair hk he.objs.size x y:=bk.extBut _ _ (Gp zlt) (bg.extBut _ _ (Gp zlt) (Ao _ rfl));have szk:hk.objs.size=he.objs.size+1:=by rw[bk.1,bg.1,Cg]
 rw[size] at zk tk szk;refine Ag ⟨_,rfl,?_⟩;show Q (.ref he.objs.size) _;rw[size];exact hQ hk ⟨zk,up _ _ D.TIz ie,⟨x,y,up _ _ D.TOz re⟩,e1.at λo g=>up _ o D.i1z g,e2.at λo g=>up _ o D.i2z g⟩ tk szk λc o c1 c2 c3 c4 g=>up c o c1 (ke c o c1 c2 c3 c4 g)
theorem rC{t1 t2:Bool}{z p q i1 i2 a b:Ur}{k:Nat}{xs ys:Array Uq}{Q:Fin->Ad->Prop}(hh:A.handled=none)(D:Nc z p q i1 i2 a b)(S:ZSt t1 t2 s.heap z p q i1 i2 a b k .none)(s1:Q5 t1 s.heap a xs)(s2:Q5 t2 s.heap b ys)(j4:xs[k]?=none∨ys[k]?=none)(hE:∀h' e,(∀c o,c≠z->c≠q->c≠i1->c≠i2->s.heap.get? c=some o->h'.get? c=some o)->(∃o,h'.get? e=some o/\o.cls=.type "StopIteration")->E (.ref e) {s with heap:=h'}):Ut (Uv prog w) A (Dq.«zip.__next__» ⟨[.ref z],[]⟩) Q E s:=by
 obtain⟨gz,gi,⟨u,v,gr⟩,g1,g2⟩:=S;show Ut _ _ (field (Ba z) 2>>=_) _ _ _;refine Aa (Dw gz rfl (x:=.bool false) rfl ?_);show Ut _ _ (field (Ba z) 3>>=_) _ _ _;refine Aa (Dw gz rfl (x:=.ref p) rfl (Aa (Fa gi rfl ?_)));show Ut _ _ (Dy (Ba z)>>=_) _ _ _;refine Aa ?_
 (unfold Dy)
 refine Aa (Dw gz rfl (x:=.none) rfl (Ag ?_));simp only[if_true];refine Aa (Gk (Aa (Dw gz rfl (x:=.ref q) rfl (Aa (Fp gz (by simp) λha za ba=>Aa ?_)))));have za:IsZip ha z p q .ellipsis:=za;simp only[Rz,Qv,Nq,Jv];refine Aa (Aa (Lo ?_));show Ut _ _ (Bw (Ba i1)>>=_) _ _ _;cases hx:xs[k]? with
 |none=>
  refine Aa (LS hh (g1.ext ba.extBut D.i1z) (s1.ext ba.extBut D.l1z) hx λhb e bb ⟨oe,ge,ce⟩=>?_);have zb:IsZip hb z p q .ellipsis:=bb _ _ D.i1z.symm za;have ne:e≠z:=λw=>by subst w;rw[zb] at ge;cases ge;simp at ce
  exact Fp zb (by simp) λhc _ bc=>hE hc e (λc o c1 _ c3 _ g=>bc.extBut _ _ c1 (bb _ _ c3 (ba.extBut _ _ c1 g))) ⟨oe,bc.extBut _ _ ne ge,ce⟩
 |some x=>
  have hy:ys[k]?=none:=j4.resolve_left λw=>by rw[hx] at w;cases w
  refine Aa (SS (g1.ext ba.extBut D.i1z) (s1.ext ba.extBut D.l1z) hx λhb n1 bb=>Ag ?_);have rb:IsPair hb q u v:=bb.extBut _ _ D.TOi1 (ba.extBut _ _ D.TOz gr);refine Aa (Fa rb rfl (Aa (Jl rb λhc rc bc=>Aa (Sa (Ag (Aa (Aa (Lo ?_))))))));show Ut _ _ (Bw (Ba i2)>>=_) _ _ _;refine Aa (LS hh (((g2.ext ba.extBut D.i2z).ext bb.extBut D.i12.symm).ext bc.extBut D.TOi2.symm) (((s2.ext ba.extBut D.l2z).ext bb.extBut D.l2i1).ext bc.extBut D.l2TO) hy λhd e bd ⟨oe,ge,ce⟩=>?_);have zd:IsZip hd z p q .ellipsis:=bd _ _ D.i2z.symm (bc.extBut _ _ D.TOz.symm (bb.extBut _ _ D.i1z.symm za));have ne:e≠z:=λw=>by subst w;rw[zd] at ge;cases ge;simp at ce
  exact Fp zd (by simp) λhf _ bf=>hE hf e (λc o c1 c2 c3 c4 g=>bf.extBut _ _ c1 (bd _ _ c4 (bc.extBut _ _ c2 (bb.extBut _ _ c3 (ba.extBut _ _ c1 g))))) ⟨oe,bf.extBut _ _ ne ge,ce⟩
theorem FF{t1 t2:Bool}{z p q i1 i2 a b:Ur}{k:Nat}{xs ys:Array Uq}{x y:Uq}{Q:Option Uq->Ad->Prop}(D:Nc z p q i1 i2 a b)(S:ZSt t1 t2 s.heap z p q i1 i2 a b k .none)(s1:Q5 t1 s.heap a xs)(s2:Q5 t2 s.heap b ys)(hx:xs[k]?=some x)(hy:ys[k]?=some y)(hQ:∀h',ZSt t1 t2 h' z p q i1 i2 a b (k+1) (rawInt s.heap.objs.size)->IsPair h' s.heap.objs.size x y->h'.objs.size=s.heap.objs.size+1->(∀c o,c≠z->c≠q->c≠i1->c≠i2->s.heap.get? c=some o->h'.get? c=some o)->Q (some (.ref s.heap.objs.size)) {s with heap:=h'}):Ut (Uv prog w) A (pyNext (.ref z)) Q E s:=by
 have ty:s.TypeIs (.ref z) "zip":=⟨_,S.zip,rfl⟩
 (unfold pyNext)
 exact Aa (Lp (Dm (name:=Bf "__next__") ty Jz (Du Jz ty Qw (CT D S s1 s2 hx hy λh' a1 a2 a3 a4=>Ag (hQ h' a1 a2 a3 a4)) (Py _))))
theorem BV{t1 t2:Bool}{z p q i1 i2 a b:Ur}{k:Nat}{xs ys:Array Uq}{Q:Option Uq->Ad->Prop}(hh:A.handled=none)(D:Nc z p q i1 i2 a b)(S:ZSt t1 t2 s.heap z p q i1 i2 a b k .none)(s1:Q5 t1 s.heap a xs)(s2:Q5 t2 s.heap b ys)(j4:xs[k]?=none∨ys[k]?=none)(hQ:∀h',(∀c o,c≠z->c≠q->c≠i1->c≠i2->s.heap.get? c=some o->h'.get? c=some o)->Q none {s with heap:=h'}):Ut (Uv prog w) A (pyNext (.ref z)) Q E s:=by
 have ty:s.TypeIs (.ref z) "zip":=⟨_,S.zip,rfl⟩
 (unfold pyNext)
 refine Aa (Lp (Dm (name:=Bf "__next__") ty Jz (Du Jz ty Qw (rC hh D S s1 s2 j4 λh' e kk ⟨o,ge,ce⟩=>?_) (Py _))));exact Aa (wpAny_isInstance (T:= "StopIteration") (b:=true) ⟨o,ge,ce⟩ isSubtype_stop (Ag (hQ _ kk)))
end
def gF(tup:Bool):String:=if tup=true then "tuple_iterator" else "list_iterator"
noncomputable abbrev zO(tup:Bool)(a:Ur):Vc:={cls:=.type (gF tup),data:=.fields #[.ref a,.int 0 0]}
theorem Xc{prog:Av}{w:Uy}{A:Br}{E:Uq->Ad->Prop}{s:Ad}{tup:Bool}{a:Ur}{xs:Array Uq}{Q:Uq->Ad->Prop}(h:Q5 tup s.heap a xs)(hQ:Q (.ref s.heap.objs.size) {s with heap:=s.heap.push (zO tup a)}):Ut (Uv prog w) A (Ru (.ref a)) Q E s:=by
 cases tup with
 |true=>exact Hw h hQ
 |false=>exact Fx h hQ
theorem Q5.push{tup:Bool}{h:Va}{a:Ur}{xs:Array Uq}(x:Q5 tup h a xs)(o:Vc):Q5 tup (h.push o) a xs:=by
 cases tup with
 |true=>obtain⟨o,e,r⟩:=x;exact⟨o,Ac _ e,r⟩
 |false=>obtain⟨o,e,r⟩:=x;exact⟨o,Ac _ e,r⟩
theorem kL(t1 t2:Bool)(a b:Ur)(xs ys:Array Uq):Meets (Dq.«zip.__new__» ⟨[.type "zip",.ref a,.ref b],[]⟩) (λ_ R s=>Q5 t1 s.heap a xs/\Q5 t2 s.heap b ys/\∀h1 h2 h3 h4 h5,h1=s.heap.push (zO t1 a)->h2=h1.push (zO t2 b)->h3=h2.push {cls:=.type "tuple",data:=.seq #[.ref s.heap.objs.size,.ref h1.objs.size]}->h4=h3.push {cls:=.type "tuple",data:=.seq #[.none,.none]}->h5=h4.push {cls:=.type "zip",data:=.fields #[.none,.bool false,.bool false,.ref h2.objs.size,.ref h3.objs.size]}->R (.ok (.ret (.ref h4.objs.size))) {s with heap:=h5}):=by
 refine .of_wp λprog w A R s h=>?_;obtain⟨hp,g,d,tk,os⟩:=s;obtain⟨g1,g2,h⟩:=h;have hs:=sub_zip;have k1:Q5 t1 (Ry ⟨hp,g,d,tk,os⟩) a xs:=g1;have k2:Q5 t2 (Ry ⟨hp.push (zO t1 a),g,d,tk,os⟩) b ys:=Q5.push g2 _;wp_walk using Xc k1,Xc k2
 exact⟨_,rfl,h _ _ _ _ _ rfl rfl rfl rfl rfl⟩
theorem A0{prog:Av}{w:Uy}{A:Br}{E:Uq->Ad->Prop}{s:Ad}{t1 t2:Bool}{a b:Ur}{xs ys:Array Uq}{Q:Uq->Ad->Prop}(g1:Q5 t1 s.heap a xs)(g2:Q5 t2 s.heap b ys)(h:∀h',ZSt t1 t2 h' (s.heap.objs.size+4) (s.heap.objs.size+2) (s.heap.objs.size+3) s.heap.objs.size (s.heap.objs.size+1) a b 0 .none->(∀c o,s.heap.get? c=some o->h'.get? c=some o)->Q (.ref (s.heap.objs.size+4)) {s with heap:=h'}):Ut (Uv prog w) A (call (.type "zip") [.ref a,.ref b]) Q E s:=by
 refine callType_new F.called_zip (by decide) (F.typeCall_zip_2 _ _) (F.newCall_zip_2 _ _) (λobj=>F.args_object_init_3 obj _ _) F.entry_zip_new (kL t1 t2 a b xs ys) ⟨g1,g2,?_⟩;rintro h1 h2 h3 h4 h5 e1 e2 e3 e4 e5;have z1:h1.objs.size=s.heap.objs.size+1:=by rw[e1,Cg]
 have z2:h2.objs.size=s.heap.objs.size+2:=by rw[e2,Cg,z1]
 have z3:h3.objs.size=s.heap.objs.size+3:=by rw[e3,Cg,z2]
 have z4:h4.objs.size=s.heap.objs.size+4:=by rw[e4,Cg,z3]
 have u4:∀c o,h4.get? c=some o->h5.get? c=some o:=λc o q=>by rw[e5];exact Ac _ q
 have u3:∀c o,h3.get? c=some o->h5.get? c=some o:=λc o q=>u4 c o (by rw[e4];exact Ac _ q);have u2:∀c o,h2.get? c=some o->h5.get? c=some o:=λc o q=>u3 c o (by rw[e3];exact Ac _ q);have u1:∀c o,h1.get? c=some o->h5.get? c=some o:=λc o q=>u2 c o (by rw[e2];exact Ac _ q);have u0:∀c o,s.heap.get? c=some o->h5.get? c=some o:=λc o q=>u1 c o (by rw[e1];exact Ac _ q);have o5:h5.get? h4.objs.size=some {cls:=.type "zip",data:=.fields #[.none,.bool false,.bool false,.ref h2.objs.size,.ref h3.objs.size]}:=by rw[e5];exact Ao _ rfl
 have o4:h5.get? h3.objs.size=some {cls:=.type "tuple",data:=.seq #[.none,.none]}:=u4 _ _ (by rw[e4];exact Ao _ rfl);have o3:h5.get? h2.objs.size=some {cls:=.type "tuple",data:=.seq #[.ref s.heap.objs.size,.ref h1.objs.size]}:=u3 _ _ (by rw[e3];exact Ao _ rfl);have o2:h5.get? h1.objs.size=some (zO t2 b):=u2 _ _ (by rw[e2];exact Ao _ rfl);have o1:h5.get? s.heap.objs.size=some (zO t1 a):=u1 _ _ (by rw[e1];exact Ao _ rfl);show _/\_;rw[z2,z3,z4] at o5;rw[z3] at o4;rw[z1,z2] at o3;rw[z1] at o2;rw[z4];refine⟨⟨_,o5,rfl⟩,h _ ⟨o5,o3,⟨_,_,o4⟩,?_,?_⟩ u0⟩
 ·cases t1 with
  |true=>exact⟨_,o1,rfl,rfl⟩
  |false=>exact⟨_,o1,rfl,rfl⟩
 ·cases t2 with
  |true=>exact⟨_,o2,rfl,rfl⟩
  |false=>exact⟨_,o2,rfl,rfl⟩
theorem oF(n a b:Nat)(ha:a<n)(hb:b<n):Nc (n+4) (n+2) (n+3) n (n+1) a b:=by
 have f:∀x y:Nat,x<y∨y<x->x≠y:=λx y h=>by lia
 exact⟨f _ _ (by lia),f _ _ (by lia),f _ _ (by lia),f _ _ (by lia),f _ _ (by lia),f _ _ (by lia),f _ _ (by lia),f _ _ (by lia),f _ _ (by lia),f _ _ (by lia),f _ _ (by lia),f _ _ (by lia),f _ _ (by lia),f _ _ (by lia),f _ _ (by lia),f _ _ (by lia),f _ _ (by lia),f _ _ (by lia)⟩
def Itz(K:Ai)(t1 t2:Bool)(a b:Ur):It:=
  ⟨λi H=>∃xs ys x y,KW K t1 H a xs/\KW K t2 H b ys/\xs[i]?=some x/\ys[i]?=some y,λi H v H'=>∃p x y,(∀xs,KW K t1 H a xs->xs[i]?=some x)/\(∀ys,KW K t2 H b ys->ys[i]?=some y)/\H p=none/\H'=upd H p (.tup [x,y])/\v=.ref p,λi H=>∃xs ys,KW K t1 H a xs/\KW K t2 H b ys/\(xs.length<=i∨ys.length<=i)⟩
theorem iI{P:Av}{w:Uy}{K:Ai}{es:List Ux}{k:Nat}{pos:Pos}(t1 t2:Bool)(z p q i1 i2 a b:Ur)(D:Nc z p q i1 i2 a b):
  IZ P w K (.Tuple es k pos) (Itz K t1 t2 a b) [z,p,q,i1,i2] z (λi h=>ZSt t1 t2 h z p q i1 i2 a b i .none) where
 mem:=by simp
 obj:=λi h st c hc=>by
  simp only[Al,Bb,or_false] at hc;rcases hc with rfl|rfl|rfl|rfl|rfl
  ·exact⟨_,st.zip,λv e=>by cases e⟩
  ·exact⟨_,st.its,λv e=>by cases e⟩
  ·obtain⟨u,v,g⟩:=st.res
   exact⟨_,g,λv e=>by cases e⟩
  ·exact st.one.obj
  ·exact st.two.obj
 keep:=λi h h' st kk=>by obtain⟨u,v,g⟩:=st.res;exact⟨kk z (by simp) _ st.zip,kk p (by simp) _ st.its,⟨u,v,kk q (by simp) _ g⟩,st.one.at λo e=>kk i1 (by simp) o e,st.two.at λo e=>kk i2 (by simp) o e⟩
 item:=by
  intro X hP hw hK hc i aa s σ H E I hf st hg;subst hP hw hK;obtain⟨xs,ys,x,y,hq1,hq2,hx,hy⟩:=hg;obtain⟨us,r1,g1,_⟩:=I.srcA hq1;obtain⟨vs,r2,g2,_⟩:=I.srcA hq2;obtain⟨u,hu,ru⟩:=r1.get hx;obtain⟨v,hv,rv⟩:=r2.get hy;refine FF D st g1 g2 (by simpa using hu) (by simpa using hv) λh1 st1 hp hsz hk=>⟨_,rfl,?_⟩;refine wpAny_letOwnedTupleGo_zip (s:={s with heap:=h1}) st1.zip λh2 z2 sb=>?_;have sb:Ey z h1 h2:=sb;have lt:∀c∈[z,p,q,i1,i2],c<s.heap.objs.size:=λc hc=>by
   simp only[Al,Bb,or_false] at hc;rcases hc with rfl|rfl|rfl|rfl|rfl
   ·exact Aj st.zip
   ·exact Aj st.its
   ·obtain⟨u,v,g⟩:=st.res
    exact Aj g
   ·obtain⟨o,e,_⟩:=st.one.obj
    exact Aj e
   ·obtain⟨o,e,_⟩:=st.two.obj
    exact Aj e
  have up:∀c o,c≠z->h1.get? c=some o->h2.get? c=some o:=λc o hcz e=>(sb.2 c hcz).trans e;have st2:ZSt t1 t2 h2 z p q i1 i2 a b (i+1) .none:=by obtain⟨u',v',g⟩:=st1.res;exact⟨z2,up _ _ D.TIz st1.its,⟨u',v',up _ _ D.TOz g⟩,st1.one.at λo e=>up _ o D.i1z e,st1.two.at λo e=>up _ o D.i2z e⟩
  have gq:h2.get? s.heap.objs.size=some {cls:=.type "tuple",data:=.seq #[u,v]}:=up _ _ (Gp (lt z (by simp))) hp;have br:H s.heap.objs.size=none:=I.hok.fresh (Am _);have I0:cK X aa σ (upd H s.heap.objs.size (.tup [x,y])) {s with heap:=s.heap.push {cls:=.type "tuple",data:=.seq #[u,v]},toks:=s.toks}:=
   I.laid (λc o e=>Ac _ e) (Am _) ⟨by show 2<=sizeLine;decide,[u,v],.cons ru (.cons rv .nil),Ju _ _⟩
  have I1:cK X aa σ (upd H s.heap.objs.size (.tup [x,y])) {s with heap:=h2,toks:=s.toks}:=by
   refine cK.turnedL (s:={s with heap:=s.heap.push {cls:=.type "tuple",data:=.seq #[u,v]},toks:=s.toks}) (h':=h2) (t':=s.toks) (fp:=[z,p,q,i1,i2]) I0 (λc o hc e=>?_) (λc hc=>?_) λc hc=>⟨by rw[b6 (Aw (lt c hc))];exact(hf c hc).1,(hf c hc).2⟩
   ·by_cases hcn:c=s.heap.objs.size
    ·subst hcn
     have e:(s.heap.push {cls:=.type "tuple",data:=.seq #[u,v]}).get? s.heap.objs.size=some o:=e;rw[Ao _ rfl] at e;cases e;exact gq
    ·have e':=(Iw _ _ _ hcn).symm.trans e
     exact up c o (λw=>hc (by simp[w])) (hk c o (λw=>hc (by simp[w])) (λw=>hc (by simp[w])) (λw=>hc (by simp[w])) (λw=>hc (by simp[w])) e')
   ·simp only[Al,Bb,or_false] at hc
    rcases hc with rfl|rfl|rfl|rfl|rfl
    ·exact⟨_,st2.zip⟩
    ·exact⟨_,st2.its⟩
    ·obtain⟨u,v,g⟩:=st2.res
     exact⟨_,g⟩
    ·obtain⟨o,e,_⟩:=st2.one.obj
     exact⟨o,e⟩
    ·obtain⟨o,e,_⟩:=st2.two.obj
     exact⟨o,e⟩
  exact⟨.ref s.heap.objs.size,_,I1,rfl,⟨_,x,y,λzs hz=>by rw[I.sq_inj hz hq1];exact hx,λzs hz=>by rw[I.sq_inj hz hq2];exact hy,br,rfl,rfl⟩,st2,λc hc=>by rw[b6 (Aw (lt c hc))];exact(hf c hc).1⟩
 done:=by
  intro X hP hw hK hc i aa s σ H E I hf st hg;subst hP hw hK;obtain⟨xs,ys,hq1,hq2,j4⟩:=hg;obtain⟨us,r1,g1,_⟩:=I.srcA hq1;obtain⟨vs,r2,g2,_⟩:=I.srcA hq2;have l1:=r1.length;have l2:=r2.length;have he:us.toArray[i]?=none∨vs.toArray[i]?=none:=by
   rcases j4 with z|z
   ·exact .inl (by simp;lia)
   ·exact .inr (by simp;lia)
  refine BV (I.ok.hd hc) D st g1 g2 he λh1 hk=>⟨rfl,?_⟩;have fq:∀c∈[z,q,i1,i2],c∈[z,p,q,i1,i2]:=λc hc=>by simp only[Al,Bb,or_false] at hc⊢;rcases hc with w|w|w|w<;>simp[w]
  have I':=cK.turnedL' (s:=s) (h':=h1) (t':=s.toks) (fp:=[z,q,i1,i2]) I (λc o hc e=>hk c o (λw=>hc (by simp[w])) (λw=>hc (by simp[w])) (λw=>hc (by simp[w])) (λw=>hc (by simp[w])) e) λc hc=>hf c (fq c hc);exact I'
 self:=λ_ i _ _ _ st h=>wpAny_pyIter_zip st.zip h
section
variable{X:Cx}{K:Ai}{ml:List Nat}{l m:Ux}{pa ta ia pb tb ib:Bool}{f g:VF}{p pos f8:Pos}{es:List Ux}{tk:Nat}{δ:Ev}
def iZp(K:Ai)(tl tm:TE):TI:=λσ H R=>tl σ H λx H1=>tm σ H1 λy H2=>∃a b t1 t2,x=.ref a/\y=.ref b/\(∃xs,KW K t1 H2 a xs)/\(∃ys,KW K t2 H2 b ys)/\R (Itz K t1 t2 a b) H2
theorem hU{tl tm:TE}(hg:Gl X "zip")(hm:X.mg "zip"=none)(hl:PE X l tl)(hr:PE X m tm)(he:Us (l::[m]) X.env=(false,eval l X.env)::Us [m] X.env:=by rfl)(he2:Us (m::[]) X.env=(false,eval m X.env)::Us [] X.env:=by rfl)(hpl:(Dv pos (Us [m] X.env)).any (·.1)=false:=by rfl):PI X (.Tuple es tk f8) (.Call (.Name "zip" p) [l,m] [] pos) (iZp X.K tl tm):=by
 intro aa s σ H R I h;refine Es (VO I hg hm hZ ?_ (by decide) (by decide));refine Cn (ZN (bM hl (bM hr ZY he2) he pos aa s σ H (λvs H1=>match vs with
  |[x,y]=>∃a b t1 t2,x=.ref a/\y=.ref b/\(∃xs,KW X.K t1 H1 a xs)/\(∃ys,KW X.K t2 H1 b ys)/\R (Itz X.K t1 t2 a b) H1
  |_=>False) I h) λus s1 ⟨vs,H1,I1,r1,q1⟩=>?_) he hpl
 match vs,r1,q1 with
 |[x,y],r1,q1=>
  obtain⟨a,b,t1,t2,rfl,rfl,⟨xs,hq1⟩,⟨ys,hq2⟩,hR⟩:=q1;obtain⟨u,v,rfl,ru,rv⟩:=IF r1;cases ru;cases rv;obtain⟨us,w1,g1,_⟩:=I1.srcA hq1;obtain⟨vs,w2,g2,_⟩:=I1.srcA hq2;refine A0 g1 g2 λh' st kp=>?_;have I2:cK X aa σ H1 {s1 with heap:=h'}:=I1.kept (t':=s1.toks) kp;have ha:=g1.lt;have hb:=g2.lt;have D:Nc (s1.heap.objs.size+4) (s1.heap.objs.size+2) (s1.heap.objs.size+3) s1.heap.objs.size (s1.heap.objs.size+1) a b:=by exact oF _ a b ha hb
  refine wpAny_pyIter_zip st.zip ⟨s1.heap.objs.size+4,[s1.heap.objs.size+4,s1.heap.objs.size+2,s1.heap.objs.size+3,s1.heap.objs.size,s1.heap.objs.size+1],_,Itz X.K t1 t2 a b,H1,rfl,I2,iI t1 t2 _ _ _ _ _ a b D,st,λc hc=>?_,hR⟩;have hc':s1.heap.objs.size<=c:=by simp only[Al,Bb,or_false] at hc;rcases hc with w|w|w|w|w<;>rw[w]<;>first|exact Nat.le_add_right _ _|exact Am _
  exact I1.fpOk hc' (I1.hok.fresh hc')
theorem pM(h:X.K=K){tl tm:TE}(hg:Gl X "zip")(hm:X.mg "zip"=none)(hl:PE X l tl)(hr:PE X m tm)(he:Us (l::[m]) X.env=(false,eval l X.env)::Us [m] X.env:=by rfl)(he2:Us (m::[]) X.env=(false,eval m X.env)::Us [] X.env:=by rfl)(hpl:(Dv pos (Us [m] X.env)).any (·.1)=false:=by rfl):PI X (.Tuple es tk f8) (.Call (.Name "zip" p) [l,m] [] pos) (iZp K tl tm):=by subst h;exact hU hg hm hl hr he he2 hpl
noncomputable def TQ:List cX->List cX->List cX
 |d::ds,e::es=>.tup [d,e]::TQ ds es
 |_,_=>[]
noncomputable def iZip(f g:VF):VI:=λδ=>(f δ).bind λp=>(g p.2).bind λq=>(YG p.1).bind λds=>(YG q.1).map λes=>(TQ ds es,q.2)
theorem IN:∀{ds es:List cX} {i:Nat} {d:cX},(TQ ds es)[i]?=some d->∃x y,ds[i]?=some x/\es[i]?=some y/\d=.tup [x,y]
 |[],_,_,_,h=>by simp[TQ] at h
 |_::_,[],_,_,h=>by simp[TQ] at h
 |x::ds,y::es,0,d,h=>by simp[TQ] at h;exact⟨x,y,rfl,rfl,h.symm⟩
 |x::ds,y::es,i+1,d,h=>by obtain⟨x',y',h1,h2,h3⟩:=IN (ds:=ds) (es:=es) (i:=i) (d:=d) (by simpa[TQ] using h);exact⟨x',y',by simpa using h1,by simpa using h2,h3⟩
theorem IP:∀{ds es:List cX},ds.length<=(TQ ds es).length∨es.length<=(TQ ds es).length
 |[],_=>.inl (Di _)
 |_::_,[]=>.inr (Di _)
 |x::ds,y::es=>by
  rcases IP (ds:=ds) (es:=es) with h|h
  ·exact .inl (Qx h)
  ·exact .inr (Qx h)
def rM:cX->Bool
 |.tup _=>true
 |_=>false
theorem bI.sqA{N M:Ur->Prop}{H:Hp}{v:V}{d:cX}{ds:List cX}(h:bI K N H M v d)(e:YG d=some ds):∃a tup xs,v=.ref a/\KW K tup H a xs/\cD K N H xs ds/\tup=rM d:=by
  cases d<;>first
    | (cases e
       obtain⟨a,xs,h1,h2,h3⟩:=h.tupE;exact⟨a,true,xs,h1,h2,h3,rfl⟩)
    | (cases e
       obtain⟨a,xs,h1,h2,h3⟩:=h.lstE;exact⟨a,false,xs,h1,h2,h3,rfl⟩)
    |cases e
theorem Xh(hK:X.K=K)(hg:Gl X "zip")(hm:X.mg "zip"=none)(h:PE X l (TV K ml pa true true f))(h':PE X m (TV K ml pb true true g))(he:Us (l::[m]) X.env=(false,eval l X.env)::Us [m] X.env:=by rfl)(he2:Us (m::[]) X.env=(false,eval m X.env)::Us [] X.env:=by rfl)
  (hpl:(Dv pos (Us [m] X.env)).any (·.1)=false:=by rfl):PI X (.Tuple es tk f8) (.Call (.Name "zip" p) [l,m] [] pos) (CY K ml (pa&&pb) (iZip f g)):=(pM (K:=K) hK hg hm h h' he he2 hpl).imp λσ H R ⟨B,O,δ,ds,δ2,S,q,k⟩=>by
 unfold iZip at q;cases h1:f δ with
 |none=>rw[h1] at q;cases q
 |some p1=>
  obtain⟨x,δ1⟩:=p1;rw[h1] at q;cases h2:g δ1 with
  |none=>simp[h2] at q
  |some p2=>
   obtain⟨y,δ3⟩:=p2;simp only[Af,h2] at q;cases h3:YG x with
   |none=>rw[h3] at q;cases q
   |some xs=>
    rw[h3] at q;have q:(YG y).map (λes=>(TQ xs es,δ3))=some (ds,δ2):=q;cases h4:YG y with
    |none=>rw[h4] at q;cases q
    |some ys=>
     rw[h4] at q;cases q;refine⟨B,O,δ,x,δ1,S,h1,λv1 H1 R1=>⟨B,O,δ1,y,_,R1.sta,h2,λv2 H2 R2=>?_⟩⟩;have r1:=R1.rep.fr R2.frm (λa z=>.inr z) λa z=>.inr z;obtain⟨a,t1,us,e1,q1,w1,et1⟩:=r1.sqA h3;obtain⟨b,t2,vs,e2,q2,w2,et2⟩:=R2.rep.sqA h4;refine⟨a,b,t1,t2,e1,e2,⟨us,q1⟩,⟨vs,q2⟩,k _ [(v1,x),(v2,y)] H2 (R2.sta.keepV λz hz=>?_) (R1.frm.trans R2.frm) (λz=>?_) ?_⟩
     ·simp only[Al,Bb,or_false] at hz
      rcases hz with rfl|rfl
      ·exact r1
      ·exact R2.rep
     ·obtain⟨z1,z2⟩:=(Ae _ _).mp z
      exact(R1.pur z1).trans (R2.pur z2)
     ·intro N H h
      obtain⟨a',t1',us',f1,f2,f3,f4⟩:=(h (v1,x) (by simp)).sqA h3;obtain⟨b',t2',vs',g1,g2,g3,g4⟩:=(h (v2,y) (by simp)).sqA h4;have f1:v1=.ref a':=f1;have g1:v2=.ref b':=g1;rw[e1] at f1;rw[e2] at g1;cases f1;cases g1;have:t1'=t1:=f4.trans et1.symm;subst this;have:t2'=t2:=g4.trans et2.symm;subst this;refine⟨λi d e=>?_,us',vs',f2,g2,?_⟩
      ·obtain⟨dx,dy,hx,hy,rfl⟩:=IN e
       obtain⟨ux,ex,rx⟩:=f3.get hx;obtain⟨uy,ey,ry⟩:=g3.get hy;refine⟨⟨us',vs',ux,uy,f2,g2,ex,ey⟩,λz H' hz=>?_⟩;obtain⟨pp,x',y',c1,c2,hp,rfl,rfl⟩:=hz;have d1:=c1 us' f2;have d2:=c2 vs' g2;rw[ex] at d1;rw[ey] at d2;cases d1;cases d2;exact⟨cQ hp,.tup (WM.of cF) (.cons (rx.same (cQ hp)) (.cons (ry.same (cQ hp)) .nil))⟩
      ·rcases IP (ds:=xs) (es:=ys) with w|w
       ·exact .inl (by rw[f3.length];exact w)
       ·exact .inr (by rw[g3.length];exact w)
end
end L2
namespace L2
open PySem PySem.Spec PyProof.Rows PySem.W
section
variable{prog:Av}{w:Uy}{A:Br}{E:Uq->Ad->Prop}{s:Ad}
theorem F6{t:Ur}{items:Array Uq}{Q:List Uq->Ad->Prop}(hh:A.handled=none)(ht:IsTup s.heap t items)(h1:1<=items.size)(hz:items.size<=16777216)(hQ:∀(x:Uq) (hb:Va) (tk:Nat),items[0]?=some x->(∀b o,s.heap.get? b=some o->hb.get? b=some o)->Q [x,.ref hb.objs.size] {s with heap:=hb.push {cls:=.type "list",data:=.seq (items.toList.drop 1).toArray},toks:=tk}):Ut (Uv prog w) A (Jt (.ref t) 2 (some 1)) Q E s:=by
 have hne:t≠s.heap.objs.size:=by obtain⟨o,e,_⟩:=ht;exact Aw (Aj e)
 (unfold Jt)
 refine Aa ?_
 (unfold notIterableAtAll)
 refine Aa (Mt ht.typeIs slot_tuple_iter.lookup (Ag ?_));simp only[Fo,if_false];refine Aa (Bo (iter_tuple ht (Aa (Bo (draw_tuple hne 1 0 _ _ ⟨_,Ao _ rfl,rfl,rfl⟩ (ht.push _) (by lia) λha ia ba=>?_)))));have ta:IsTup ha t items:=(ht.push _).extBut ba.extBut hne;have ia:ha.IsTupleIter s.heap.objs.size t 1:=ia;obtain⟨oi,gi,_⟩:=id ia;obtain⟨ot,gt,_⟩:=id ta;have hsz:ha.objs.size=s.heap.objs.size+1:=by rw[ba.1,Cg]
 have qb:((items.toList.drop 0).take 1).length=1:=by simp;lia
 rw[if_neg (show¬((items.toList.drop 0).take 1).length<1 by rw[qb];exact Bq _)];refine Aa (Bo (kun_collect (s:={s with heap:=ha}) (T:= "tuple_iterator") (.inr (.inr (.inr rfl))) (Walks.tuple (A:=A.in1) hh s.heap.objs.size t hne items) (λj u st=>st.1.typeIs) (k:=1) h1 ⟨ia,ta⟩ (Aj gi) (Aj gt) (λhb tk kb=>?_) (by rw[Bt];exact hz)));have rl:(items.toList.drop 1).length=items.size - 1:=by simp
 show Ut _ _ (if(items.toList.drop 1).length<2 - 1 - 1 then _ else _) _ _ _;rw[if_neg (Mw _)];show Ut _ _ (Tn ((items.toList.drop 1).take ((items.toList.drop 1).length - (2 - 1 - 1)))>>=λd=>pure ((items.toList.drop 0).take 1++[d]++(items.toList.drop 1).drop ((items.toList.drop 1).length - (2 - 1 - 1)))) _ _ _;have e1:(items.toList.drop 1).take ((items.toList.drop 1).length - (2 - 1 - 1))=items.toList.drop 1:=Ce (Am _);have e2:(items.toList.drop 1).drop ((items.toList.drop 1).length - (2 - 1 - 1))=[]:=Gj;rw[e1,e2];refine Aa (Cm (Ag ?_) (by show _<=sizeLine;rw[Bt];simp;lia));obtain⟨x,hx⟩:∃x,items[0]?=some x:=⟨items[0],by simp[show 0<items.size by lia]⟩;have e3:(items.toList.drop 0).take 1=[x]:=by
  rw[Np];have:items.toList[0]?=some x:=by simpa using hx
  cases hl:items.toList with
  |nil=>rw[hl] at this;cases this
  |cons y r=>rw[hl] at this;cases this;rfl
 rw[e3];have keep:∀b o,s.heap.get? b=some o->hb.get? b=some o:=λb o e=>kb b o (Aw (Aj e)) (ba.extBut b o (Aw (Aj e)) (Ac _ e));exact hQ x hb tk hx keep
end
section
variable{X:Cx}{K:Ai}{ml:List Nat}{e a b c:Ux}{es:List Ux}{pa ta ia pb tb ib pc tc ic pu bt bi ps bs:Bool}{fa fb fc f:VF}{B B':Bs}{O:Nat->Option Ur}{H H0 H1 H':Hp}{σ:St}{δ δ':Ev}{v:V}{d:cX}{p:Ur}{pos:Pos}
def iC(K:Ai)(i j:Nat):TG:=λv σ H Q=>∃a x xs,v=.ref a/\WM K H a (x::xs)/\∀p,H p=none->Q ((σ.set i (some x)).set j (some (.ref p))) (upd H p (.lst xs))
theorem rF{i j:Nat}{x y:Uw}{px py ps tp:Pos}{k:Nat}(hc:X.calm=true)(hN:X.N.Nodup)(hi:X.N[i]?=some x)(hj:X.N[j]?=some y)(hx:AL X.env.scope x)(hy:AL X.env.scope y)(fx:X.fn x=true∨X.env.scope.names.lookup x=some .local)(fy:X.fn y=true∨X.env.scope.names.lookup y=some .local)(hl:(Uz [.Name x px,.Starred (.Name y py) ps] X.env).map (·.2)=[Fv (.Name x px) X.env,Fv (.Name y py) X.env])(hn:(Uz [.Name x px,.Starred (.Name y py) ps] X.env).length=2)(hst:(Uz [.Name x px,.Starred (.Name y py) ps] X.env).findIdx? (·.1)=some 1):PG X (.Tuple [.Name x px,.Starred (.Name y py) ps] k tp) (iC X.K i j):=by
 intro aa s σ H v u Q I r hw;obtain⟨a,z,zs,e1,hq,q⟩:=hw;subst e1;cases r;obtain⟨its,rv,ht,hz⟩:=I.tuple hq;rw[assign_Tuple];refine Aa (Dd ?_)
 (unfold unpack)
 rw[hn,hst];have ah:=rv.length;rw[Bz] at ah;have hz':its.length<=16777216:=by rw[<-Bt,<-ah];exact hz
 refine Aa (Bo (F6 (I.ok.hd hc) ht (by rw[An];lia) (by rw[An];exact hz') λu hb tk hu kp=>?_));rw[hl];cases rv with
 | @cons _ w _ ws rz rzs=>
  have hu:some w=some u:=by simpa using hu
  cases hu;have I1:cK X aa σ H {s with heap:=hb,toks:=tk}:=I.kept kp;have I2:=cK.lnew (s:={s with heap:=hb,toks:=tk}) (t':=tk) I1 rzs (by rw[Bt];simp only[Bz] at hz' ah;have:=rzs.length;lia);refine Ed (Gw (Y2 I2 hN hi hx rz (λs3 I3=>?_) fx));refine Ed (Gw (Y2 I3 hN hj hy (v:=.ref hb.objs.size) rfl (λs4 I4=>Iq ⟨_,_,I4,q _ (I1.hok.fresh (Am _))⟩) fy))
noncomputable def L9(i j:Nat)(f:VF):VS:=λδ=>(f δ).bind λp=>match p.1 with
 |.tup (d::ds)=>some (.nx ((p.2.set i (.va d)).set j (.va (.lst ds))))
 |_=>none
theorem EN{i j:Nat}{x y:Uw}{px py sp tp:Pos}{k:Nat}(hK:X.K=K)(hc:X.calm=true)(hN:X.N.Nodup)(hi:X.N[i]?=some x)(hj:X.N[j]?=some y)(hij:i≠j)(hx:AL X.env.scope x)(hy:AL X.env.scope y)(he:PE X e (TV K ml pu true true f))(hmi:i∉ml:=by decide)(hmj:j∉ml:=by decide)(fx:X.fn x=true∨X.env.scope.names.lookup x=some .local:=by first|exact .inl rfl|exact .inr rfl|assumption)(fy:X.fn y=true∨X.env.scope.names.lookup y=some .local:=by first|exact .inl rfl|exact .inr rfl|assumption)(hl:(Uz [.Name x px,.Starred (.Name y py) sp] X.env).map (·.2)=[Fv (.Name x px) X.env,Fv (.Name y py) X.env]:=by rfl)(hn:(Uz [.Name x px,.Starred (.Name y py) sp] X.env).length=2:=by rfl)(hst:(Uz [.Name x px,.Starred (.Name y py) sp] X.env).findIdx? (·.1)=some 1:=by rfl)(hs:Gf [.Tuple [.Name x px,.Starred (.Name y py) sp] k tp] e pos.line X.env=pure false:=by rfl)(hw:Gg [.Tuple [.Name x px,.Starred (.Name y py) sp] k tp] e X.env=pure none:=by rfl)(h1:(Uz [.Tuple [.Name x px,.Starred (.Name y py) sp] k tp] X.env).map (·.2)=[Fv (.Tuple [.Name x px,.Starred (.Name y py) sp] k tp) X.env]:=by rfl):PS X (.Assign [.Tuple [.Name x px,.Starred (.Name y py) sp] k tp] e pos) (WE K ml (L9 i j f)):=by
 subst hK;refine(FT he (rF hc hN hi hj hx hy fx fy hl hn hst) hs hw h1).imp λD σ H ⟨B,O,δ,o,S,q,k⟩=>?_;unfold L9 at q;cases h1:f δ with
 |none=>rw[h1] at q;cases q
 |some p1=>
  obtain⟨z,δ1⟩:=p1;rw[h1] at q;refine⟨B,O,δ,z,δ1,S,h1,λv H1 R=>?_⟩;cases z with
  |tup ds=>
   cases ds with
   |nil=>cases q
   |cons d ds=>
    cases q;obtain⟨a,xs,rfl,sq,r⟩:=R.rep.tupE;cases r with
    | @cons v0 vs _ _ r1 r2=>
     refine⟨a,v0,vs,rfl,sq,λp hp=>?_⟩;have S1:=(R.sta.same (cQ (o:=.lst vs) hp)).setVa hmi (r1.same (cQ (o:=.lst vs) hp));have N1:∀c,Nn B (λj=>if j=i then none else O j) c->Nn B O c:=P7 (o:=none);refine k _ _ _ (S1.setVa hmj (.lst cF (λz=>R.sta.new hp (N1 _ z)) ((r2.same (cQ hp)).mono N1)))
  |_=>cases q
end
end L2
namespace L2
open PySem PySem.Spec PyProof.Rows
section
variable{X:Cx}{K:Ai}{ml:List Nat}{e a b c:Ux}{es:List Ux}{pa ta ia pb tb ib pc tc ic pu bt bi ps bs:Bool}{fa fb fc f:VF}{B B':Bs}{O:Nat->Option Ur}{H H0 H1 H':Hp}{σ:St}{δ δ':Ev}{v:V}{d:cX}{p:Ur}{pos:Pos}
def rInD(K:Ai)(neg:Bool):R2:=λx y H Q=>∃d e ds,Dp K H x d/\Dp K H y e/\(e=.list ds∨e=.tuple ds)/\Ep d=true/\Ep e=true/\Q (.bl (if neg then !ds.any (λz=>Jp z d) else ds.any λz=>Jp z d)) H
theorem RX{d:No}(h:Ep d=true):d.canLay0=true/\d.depth<=64:=by unfold Ep at h;simp only[Ae,decide_eq_true_eq] at h;exact h
theorem Xd(neg:Bool)(hu:X.A.units+64<cLine):W5 X (De (if neg then .NotIn else .In)) (rInD X.K neg):=by
 intro aa s σ H x y v u Q I rx ry h;obtain⟨d,e,ds,hd,he,hk,sd,se,q⟩:=h;obtain⟨as,h1⟩:=I.reads hd rx;obtain⟨bs,h2⟩:=I.reads he ry;obtain⟨c1,d1⟩:=RX sd;obtain⟨c2,d2⟩:=RX se;have fin:∀k,(k=if neg then !ds.any (λz=>Jp z d) else ds.any λz=>Jp z d)->EP X aa σ Q (.bool k) s:=λk hk=>by subst hk;exact⟨.bl _,H,I,rfl,q⟩
 rcases hk with rfl|rfl
 ·have hc : Ix ds = true := by simpa [Gm] using c2
  have j5:Ff ds<=63:=by simp only[Jf] at d2;lia
  have hm:X.A.units+1+min (Ff ds) d.depth<cLine:=by have:=Sb (Ff ds) d.depth;lia
  cases neg with
  |false=>exact SeqAt.in_list_reads h2 h1 hc c1 hm (fin _ rfl)
  |true=>exact SeqAt.notIn_list_reads h2 h1 hc c1 hm (fin _ rfl)
 ·have hc : Ix ds = true := by simpa [Gm] using c2
  have j5:Ff ds<=63:=by simp only[Jf] at d2;lia
  have hm:X.A.units+1+min (Ff ds) d.depth<cLine:=by have:=Sb (Ff ds) d.depth;lia
  cases neg with
  |false=>exact SeqAt.in_tuple_reads h2 h1 hc c1 hm (fin _ rfl)
  |true=>exact SeqAt.notIn_tuple_reads h2 h1 hc c1 hm (fin _ rfl)
theorem VN(h:X.K=K)(hu:X.A.units+64<cLine):W5 X (De .In) (rInD K false):=by subst h;exact Xd false hu
theorem PB(h:X.K=K)(hu:X.A.units+64<cLine):W5 X (De .NotIn) (rInD K true):=by subst h;exact Xd true hu
def LJ(d:cX)(ds:List cX):Bool:=(AE ds).any λz=>Jp z d.pd
noncomputable def Z8(neg:Bool)(d e:cX):Option cX:=(YG e).bind λds=>if(LW d&&LW e)=true then some (.bl (if neg then !LJ d ds else LJ d ds)) else none
theorem ZD{neg:Bool}:PY K (rInD K neg) (Z8 neg):=by
 intro H N N' M M' x y d e c Q hx hy h k;unfold Z8 at h;cases hs:YG e with
 |none=>rw[hs] at h;cases h
 |some ds=>
  rw[hs] at h;have h:(if(LW d&&LW e)=true then some (cX.bl (if neg then !LJ d ds else LJ d ds)) else none)=some c:=h;split at h
  ·rename_i hh
   cases h;simp only[LW,Ae] at hh;refine⟨d.pd,e.pd,AE ds,hx.dp hh.1.1,hy.dp hh.2.1,?_,hh.1.2,hh.2.2,k _ λ_ _ _=>.bl _⟩;cases e<;>first
    |(cases hs;exact .inr rfl)
    |(cases hs;exact .inl rfl)
    |cases hs
  ·cases h
def nF(K:Ai)(td ty:TE):TE:=λσ H Q=>td σ H λx H1=>∃a,x=.ref a/\((IsD H1 a/\ty σ H1 λy H2=>∃o,QE H2 a y o/\Q (o.getD .non) H2)∨∃D,KTab K a D/\ty σ H1 λy H2=>∃k,y=.str k/\Q ((Fs k D).getD .non) H2)
theorem nT{ao af:Pos}{td ty:TE}(hu:X.A.units+1<cLine)(ho:PE X a td)(he:PE X e ty)(m:M1 X a "get" ao e af):PE X (.Call (.Attribute a "get" ao) [e] [] af) (nF X.K td ty):=by
 intro aa s σ H Q I h;refine Ps m.base m.few m.line Ln Eb Mq (ZN (ho aa s σ H _ I h) λu s1 ⟨x,H1,I1,rx,l,ex,q1⟩=>?_);subst ex;obtain rfl:u=Ba l:=rx;rcases q1 with⟨hd,q1⟩|⟨D,T,q1⟩
 ·obtain⟨t1,t2,_⟩:=Yw I1 hd
  refine⟨t1,t2,?_⟩;rw[m.trees];refine Fh rfl (Eg (Ee (ZN (he aa s1 σ H1 _ I1 q1) λiv s2 ⟨y,H2,I2,ry,ov,g,q2⟩=>Fy ?_)));exact iS hu I2 g ry λw' s3 I3 rw'=>⟨_,H2,I3,rw',q2⟩
 ·obtain⟨qh,o,rm,ep,hk,hex,bn,_⟩:=id T
  refine⟨⟨o,I1.kIn _ _ hk,hex.1⟩,λb q=>?_,?_⟩
  ·cases q
   exact⟨o,I1.kIn _ _ hk,hex.2.1⟩
  rw[m.trees];refine Fh rfl (Eg (Ee (ZN (he aa s1 σ H1 _ I1 q1) λiv s2 ⟨y,H2,I2,ry,k,ey,q2⟩=>Fy ?_)));subst ey;obtain⟨t,rfl⟩:=ry;have hT:s2.TypeIs (.ref l) "dict":=⟨o,I2.kIn _ _ hk,hex.1⟩;refine Du Eb hT Fi ?_ (Ig _ _);show Ut _ _ (dictGet l (.str k t)>>=_) _ _ s2;refine Aa (G5 I2.kIn T (λd' v' ha hv=>Ag ⟨v',rfl,?_⟩) λhn=>?_)
  ·rw[ha] at q2
   exact⟨d',H2,I2.tok _,hv,q2⟩
  ·rw[hn] at q2
   show Ut _ _ (Nx l (.str k t)>>=_) _ _ _;unfold Nx;rw[if_neg (by rw[qh];exact Cs)];exact Aa (Ag (Ag ⟨.none,rfl,.non,H2,I2.tok _,rfl,q2⟩))
noncomputable def Xy:cX->cX->Option cX
 |.dct ks ds,.str x=>some ((a6 ks ds (.inr x)).getD .non)
 |_,_=>none
theorem jT{ao af:Pos}(hK:X.K=K)(hu:X.A.units+1<cLine)(ha:PE X a (TV K ml pa ta ia fa))(hb:PE X b (TV K ml pb tb ib fb))(m:M1 X a "get" ao b af)(hs:(pb || (ta&&ia))=true:=by rfl):PE X (.Call (.Attribute a "get" ao) [b] [] af) (TV K ml (pa&&pb) ia ia (f2 Xy fa fb)):=by
 subst hK;refine(nT hu ha hb m).imp λσ H Q ⟨B,O,δ,d,δ2,S,q,k⟩=>?_;obtain⟨x,δ1,y,h1,h2,h3⟩:=SE q;refine⟨B,O,δ,x,δ1,S,h1,λv1 H1 R1=>?_⟩;have fin:∀v2 H2 (R2:Res X.K ml B O H1 σ pb tb ib H2 δ2 v2 y) o,bI X.K (av B O ia) H2 (av B O ia) o d->Q o H2:=λv2 H2 R2 o ho=>k o H2 ⟨R2.sta,R1.frm.trans R2.frm,λz=>by obtain⟨z1,z2⟩:=(Ae _ _).mp z;exact(R1.pur z1).trans (R2.pur z2),ho.mono (λ_ z=>z) Vx⟩
 cases x with
 |dct ks ds=>
  cases y with
  |str z=>
   cases h3;generalize hx:cX.dct ks ds=dd at R1;have r1:=R1.rep;cases r1 with
   | @dct _ l kvs ds' qd n r=>
    cases hx;refine⟨l,rfl,.inl ⟨.inl ⟨_,.inl qd⟩,B,O,δ1,_,δ2,R1.sta,h2,λv2 H2 R2=>?_⟩⟩;have r2:=R2.rep;cases r2;have h4:H2 l=some (.dK kvs)/\cD X.K (av B O ia) H2 (kvs.map Eo) ds:=by
     cases pb with
     |true=>exact⟨R2.pur rfl _ _ qd,r.same (R2.pur rfl)⟩
     |false=>
      have hs:(ta&&ia)=true:=by simpa using hs
      obtain⟨z1,z2⟩:=(Ae _ _).mp hs;subst z1 z2;exact⟨R2.frm _ _ qd λw=>absurd (.inr w) n,r.fr R2.frm λa z=>.inr z⟩
    refine⟨_,QE.k (k:=.inr z) h4.1,fin _ _ R2 _ ?_⟩;rcases RN (k:=.inr z) h4.2 with⟨v,d',g1,g2,g3⟩|⟨g1,g2⟩
    ·rw[g1,g2];exact g3
    ·rw[g1,g2];exact .non
   | @ktb _ l D ds' T r=>
    cases hx;refine⟨l,rfl,.inr ⟨D,T,B,O,δ1,_,δ2,R1.sta,h2,λv2 H2 R2=>?_⟩⟩;have r2:=R2.rep;cases r2;refine⟨z,rfl,fin _ _ R2 _ ?_⟩;have r':cD X.K (av B O ia) H2 (D.map Eo) ds:=by
     cases pb with
     |true=>exact r.same (R2.pur rfl)
     |false=>
      have hs:(ta&&ia)=true:=by simpa using hs
      obtain⟨z1,z2⟩:=(Ae _ _).mp hs;subst z1 z2;exact r.fr R2.frm λa z=>.inr z
    rcases QK (k:=z) r' with⟨v,d',g1,g2,g3⟩|⟨g1,g2⟩
    ·rw[g1,g2];exact g3
    ·rw[g1,g2];exact .non
   |_=>cases hx
  |_=>cases h3
 |_=>cases h3
end
theorem kW:Be "all"=some (.builtin "all"):=by decide+kernel
theorem eN:Be "any"=some (.builtin "any"):=by decide+kernel
theorem dN:Be "dict"=some (.type "dict"):=by decide+kernel
section
variable{X:Cx}{K:Ai}{ml:List Nat}{e a b c:Ux}{es:List Ux}{pa ta ia pb tb ib pc tc ic pu bt bi ps bs:Bool}{fa fb fc f:VF}{B B':Bs}{O:Nat->Option Ur}{H H0 H1 H':Hp}{σ:St}{δ δ':Ev}{v:V}{d:cX}{p:Ur}{pos:Pos}
theorem Zm{ks:List Bool}{us:List Uq}(r:bN (ks.map V.bl) us){i:Nat}{u:Uq}(h:us[i]?=some u):∃k,ks[i]?=some k/\u=.bool k:=by
 have hl:=r.length;rw[By] at hl;have hi:i<us.length:=(Ah.mp h).1;have e:(ks.map V.bl)[i]?=some (.bl ks[i]):=by simp[hl▸hi]
 obtain⟨w,h1,h2⟩:=r.get e;rw[h] at h1;cases h1;exact⟨ks[i],by simp[hl▸hi],h2⟩
theorem B7{ks:List Bool}:(Ar ks.length).all (λi=>(ks[i]?).getD true)=ks.all id:=by
 induction ks with
 |nil=>rfl
 |cons k ks ih=>
  rw[Bz,Io,To,Ub,To,<-ih];rfl
theorem B8{ks:List Bool}:(Ar ks.length).any (λi=>(ks[i]?).getD true)=ks.any id:=by
 induction ks with
 |nil=>rfl
 |cons k ks ih=>
  rw[Bz,Io,Gx,List.any_map,Gx,<-ih];rfl
def N9(K:Ai)(g:List Bool->Bool):RC:=λxs H Q=>∃p ks,xs=[.ref p]/\YA K H p (ks.map V.bl)/\Q (.bl (g ks)) H
theorem ID{prog:Av}{w:Uy}{A:Br}{ks:List Bool}{us:List Uq}(r:bN (ks.map V.bl) us):TruthOf prog w A (λi v=>us.toArray[i]?=some v) λi=>(ks[i]?).getD true:=by intro i v s Q E hP hQ;obtain⟨k,h1,rfl⟩:=Zm r (by simpa using hP);have hQ:Q ((ks[i]?).getD true) s:=hQ;rw[h1] at hQ;exact Ea hQ
theorem AU(hc:X.calm=true):aR X (.builtin "all") (N9 X.K λks=>ks.all id):=by
 intro aa s σ H xs us Q I r h;obtain⟨l,ks,rfl,hq,q⟩:=h;obtain⟨u,rfl,rx⟩:=U9 r;cases rx;obtain⟨its,rv,pl,hz⟩:=I.list hq;have hl:=pl.isList;have hne:l≠s.heap.objs.size:=by obtain⟨o,g,_⟩:=hl;exact Aw (Aj g)
 have ah:=rv.length;rw[By] at ah;refine call_all_walk (Fx hl ⟨_,_,_,_,_,_,_,rfl,Td (show X.A.in1.handled=none from I.ok.hd hc) s.heap.objs.size l hne its.toArray,⟨⟨_,Ao _ rfl,rfl,rfl⟩,?_⟩,ID rv,λh' tk hk=>?_⟩)
 ·obtain⟨o,g,r⟩:=hl
  exact⟨o,Ac _ g,r⟩
 ·rw[An,<- ah,B7]
  exact⟨.bl _,H,I.kept (t':=tk) λb o g=>hk b o (by simp;exact Aw (Aj g)) (Ac _ g),rfl,q⟩
theorem AW(hc:X.calm=true):aR X (.builtin "any") (N9 X.K λks=>ks.any id):=by
 intro aa s σ H xs us Q I r h;obtain⟨l,ks,rfl,hq,q⟩:=h;obtain⟨u,rfl,rx⟩:=U9 r;cases rx;obtain⟨its,rv,pl,hz⟩:=I.list hq;have hl:=pl.isList;have hne:l≠s.heap.objs.size:=by obtain⟨o,g,_⟩:=hl;exact Aw (Aj g)
 have ah:=rv.length;rw[By] at ah;refine call_any_walk (Fx hl ⟨_,_,_,_,_,_,_,rfl,Td (show X.A.in1.handled=none from I.ok.hd hc) s.heap.objs.size l hne its.toArray,⟨⟨_,Ao _ rfl,rfl,rfl⟩,?_⟩,ID rv,λh' tk hk=>?_⟩)
 ·obtain⟨o,g,r⟩:=hl
  exact⟨o,Ac _ g,r⟩
 ·rw[An,<- ah,B8]
  exact⟨.bl _,H,I.kept (t':=tk) λb o g=>hk b o (by simp;exact Aw (Aj g)) (Ac _ g),rfl,q⟩
theorem kAll(h:X.K=K)(hc:X.calm=true):aR X (.builtin "all") (N9 K λks=>ks.all id):=by subst h;exact AU hc
theorem kAny(h:X.K=K)(hc:X.calm=true):aR X (.builtin "any") (N9 K λks=>ks.any id):=by subst h;exact AW hc
noncomputable def M7:List cX->Option (List Bool)
 |[]=>some []
 |.bl k::ds=>(M7 ds).map λks=>k::ks
 |_=>none
theorem C2{N:Ur->Prop}:∀{xs:List V} {ds:List cX} {ks:List Bool},cD K N H xs ds->M7 ds=some ks->xs=ks.map V.bl
 |_,_,_,.nil,h=>by cases h;rfl
 | _,_,_,@cD.cons _ _ _ v vs d ds h t,e => by
  cases d with
  |bl k=>
   cases h;have e:(M7 ds).map (λks=>k::ks)=some _:=e;cases h2:M7 ds with
   |none=>rw[h2] at e;cases e
   |some ks'=>
    rw[h2] at e;cases e;rw[C2 t h2,Az]
  |_=>cases e
noncomputable def DK(g:List Bool->Bool):cX->Option cX
 |.lst ds=>(M7 ds).map λks=>.bl (g ks)
 |_=>none
abbrev oAll:=DK λks=>ks.all id
abbrev oAny:=DK λks=>ks.any id
theorem Ye{g:List Bool->Bool}:AI K (N9 K g) (DK g):=by
 intro H N M x d c Q hx h k;cases d with
 |lst ds=>
  have h:(M7 ds).map (λks=>cX.bl (g ks))=some c:=h;cases h1:M7 ds with
  |none=>rw[h1] at h;cases h
  |some ks=>
   rw[h1] at h;cases h;obtain⟨a,xs,rfl,sq,r⟩:=hx.lstE;have:=C2 r h1;subst this;exact⟨a,ks,rfl,sq,k _ λ_ _ _=>.bl _⟩
 |_=>cases h
theorem fU:AI K (N9 K λks=>ks.all id) oAll:=Ye
theorem nZ:AI K (N9 K λks=>ks.any id) oAny:=Ye
noncomputable def XV:List cX->Option (List Int)
 |[]=>some []
 |.int i::ds=>(XV ds).map λns=>i::ns
 |_=>none
theorem RJ{N:Ur->Prop}:∀{xs:List V} {ds:List cX} {ns:List Int},cD K N H xs ds->XV ds=some ns->xs=ns.map V.int
 |_,_,_,.nil,h=>by cases h;rfl
 | _,_,_,@cD.cons _ _ _ v vs d ds h t,e => by
  cases d with
  |int k=>
   cases h;have e:(XV ds).map (λks=>k::ks)=some _:=e;cases h2:XV ds with
   |none=>rw[h2] at e;cases e
   |some ks'=>
    rw[h2] at e;cases e;rw[RJ t h2,Az]
  |_=>cases e
theorem OC{N:Ur->Prop}:∀ns:List Int,cD K N H (ns.map V.int) (ns.map cX.int)
 |[]=>.nil
 |i::ns=>.cons (.int i) (OC ns)
def OK(ns:List Int):List Int:=ns.mergeSort (λa b=>decide (a<=b))
theorem fX{ms ns:List Int}(h1:ms.Perm ns)(h2:ms.Pairwise (· <= ·)):ms=OK ns:=by have p:(OK ns).Perm ns:=List.mergeSort_perm _ _;have s:(OK ns).Pairwise (λa b=>decide (a<=b)=true):=List.pairwise_mergeSort (λa b c h1 h2=>by simp at h1 h2⊢;lia) (λa b=>by simp;lia) ns;have s':(OK ns).Pairwise (· <= ·):=s.imp λh=>of_decide_eq_true h;exact List.Perm.eq_of_pairwise (λa b _ _ h1 h2=>Int.le_antisymm h1 h2) h2 s' (h1.trans p.symm)
noncomputable def Xj:cX->Option cX
 |.lst ds=>(XV ds).bind λns=>if ns.length<64 then some (.lst ((OK ns).map cX.int)) else none
 |_=>none
def Zd(K:Ai):RC:=λxs H Q=>∃(p:Ur) (ns:List Int),xs=[.ref p]/\YA K H p (ns.map V.int)/\ns.length<64/\∀(l:Ur) (ms:List Int),H l=none->ms.Perm ns->ms.Pairwise (· <= ·)->Q (.ref l) (upd H l (.lst (ms.map V.int)))
theorem rV(h:X.K=K):aR X (.builtin "sorted") (Zd K):=kK h
theorem iB:AH K (Zd K) Xj:=by
 intro H N M x d c Q hx h k;cases d with
 |lst ds=>
  have h:((XV ds).bind λns=>if ns.length<64 then some (cX.lst ((OK ns).map cX.int)) else none)=some c:=h;cases h1:XV ds with
  |none=>rw[h1] at h;cases h
  |some ns=>
   rw[h1] at h;have h:(if ns.length<64 then some (cX.lst ((OK ns).map cX.int)) else none)=some c:=h;split at h
   ·rename_i hl
    cases h;obtain⟨a,xs,rfl,sq,r⟩:=hx.lstE;have:=RJ r h1;subst this;refine⟨a,ns,rfl,sq,hl,λl ms hl' h2 h3=>?_⟩;have:=fX h2 h3;subst this;exact k l _ _ hl' (OC _) rfl
   ·cases h
 |_=>cases h
theorem rngI{a:Int}{n:Nat}{acc:Array Uq}(h:ItemsOf (λi v=>∃t,v=.int (a+i*1) t) acc n):bN ((Ar n).map λi:Nat=>V.int (a+i)) acc.toList:=by
 obtain⟨h1,h2⟩:=h;have go:∀(m:Nat) (us:List Uq),us.length=m->∀k:Nat,(∀(i:Nat) (v:Uq),us[i]?=some v->∃t,v=.int (a+((k+i:Nat):Int)*1) t)->bN ((Ar m).map λi:Nat=>V.int (a+((k+i:Nat):Int))) us:=by
  intro m;induction m with
  |zero=>intro us hl k _;rw[Gi.mp hl];exact .nil
  |succ m ih=>
   intro us hl k hu;cases us with
   |nil=>cases hl
   |cons u us=>
    rw[Io,Az,Qo];obtain⟨t,ht⟩:=hu 0 u rfl;refine .cons ⟨t,by rw[ht];simp⟩ ?_;have:=ih us (by simpa using hl) (k+1) λi v e=>by obtain⟨t,h⟩:=hu (i+1) v (by simpa using e);exact⟨t,by rw[h,show k+(i+1)=k+1+i by lia]⟩
    have e:((λi:Nat=>V.int (a+((k+i:Nat):Int)))∘Nat.succ)=λi:Nat=>V.int (a+((k+1+i:Nat):Int)):=by funext i;simp only[Tp,Nat.succ_eq_add_one];rw[show k+(i+1)=k+1+i by lia]
    rw[e];exact this
 have:=go n acc.toList (by simpa using h1) 0 λi v e=>by have:=h2 i v (by simpa using e);simpa using this
 simpa using this
theorem GN:aR X (.type "range") (λxs H Q=>∃j,xs=[.int j]/\∀p,H p=none->Q (.ref p) (upd H p (.ext (rngP p 0 j 1)))):=by intro aa s σ H xs us Q I r h;obtain⟨j,rfl,q⟩:=h;obtain⟨u,rfl,t,rfl⟩:=U9 r;refine Qj ?_;have hn:=I.hok.fresh (Am s.heap.objs.size);refine⟨.ref s.heap.objs.size,_,I.laid (a:=s.heap.objs.size) (o:=.ext (rngP s.heap.objs.size 0 j 1)) (t':=s.toks+1+1) (λ_ _ z=>Ac _ z) (Am _) ?_,rfl,q _ hn⟩;exact⟨⟨_,_,_,Ui ..⟩,⟨_,Ao _ rfl⟩,λh1 h2 ⟨t,u,v,z⟩ k=>⟨t,u,v,k _ z⟩⟩
theorem MS(hc:X.calm=true):aR X (.type "list") (λxs H Q=>∃(p:Ur) (j:Int),xs=[.ref p]/\H p=some (.ext (rngP p 0 j 1))/\(0<=j/\j<=16777216)/\∀l,H l=none->Q (.ref l) (upd H l (.lst ((Ar j.toNat).map λi:Nat=>V.int (0+i))))):=by
 intro aa s σ H xs us Q I r h;obtain⟨p,j,rfl,hp,hj,q⟩:=h;obtain⟨u,rfl,rx⟩:=U9 r;cases rx;obtain⟨⟨t,u,v,z⟩,_⟩:=I.hok p _ hp;have hn:Gh 0 j 1=(j.toNat:Int):=by
  unfold Gh;rw[if_pos (by decide)];split
  ·rw[Int.ediv_one]
   lia
  ·lia
 have p62:(2:Int) ^ 62=4611686018427387904:=by decide
 have p24:(2:Nat) ^ 24=16777216:=by decide
 have sm:Uk 0 j 1=true:=small_one (a:=0) (b:=j) (by rw[p62];decide) (by rw[p62];decide) (by rw[p62];lia) (by rw[p62];lia);refine call_list_range (I.ok.hd hc) z sm hn (by rw[p24];lia) λh' tk acc c kp hS hI=>?_;have rv:=rngI hI;refine⟨.ref s.heap.objs.size,_,I.laid (a:=s.heap.objs.size) (o:=.lst ((Ar j.toNat).map λi:Nat=>V.int (0+i))) (t':=tk) kp (Am _) ⟨?_,acc.toList,c,rv,by simpa using hS⟩,rfl,q _ (I.hok.fresh (Am _))⟩;rw[By,Gy,Bt];lia
noncomputable def T2(f:VF):VF:=λδ=>(f δ).bind λp=>match p.1 with
 |.int j=>if 0<=j/\j<=16777216 then some (.lst (ZC 0 j.toNat),p.2) else none
 |_=>none
theorem kX{N:Ur->Prop}(lo:Int)(n:Nat):cD K N H ((Ar n).map λi:Nat=>V.int (lo+i)) (ZC lo n):=by
 unfold ZC;induction (Ar n) with
 |nil=>exact .nil
 |cons x xs ih=>exact .cons (.int _) ih
theorem CO{p1 p2 ii:Pos}(hc:X.calm=true)(hg:Gl X "list")(hm:X.mg "list"=none)(hv:Be "list"=some (.type "list"))(hg2:Gl X "range")(hm2:X.mg "range"=none)(hv2:Be "range"=some (.type "range"))(ha:PE X a (TV K ml pa ta ia fa))(he:Us (a::[]) X.env=(false,eval a X.env)::Us [] X.env:=by rfl)(he2:Us (.Call (.Name "range" p2) [a] [] ii::[]) X.env=(false,eval (.Call (.Name "range" p2) [a] [] ii) X.env)::Us [] X.env:=by rfl):PE X (.Call (.Name "list" p1) [.Call (.Name "range" p2) [a] [] ii] [] pos) (TN K ml pa (T2 fa)):=
 (V8 (MS hc) hg hm hv (bM (V8 GN hg2 hm2 hv2 (bM ha ZY he) (by decide) (by decide) he) ZY he2) (by decide) (by decide) he2).imp λσ H Q q0 => by
  obtain⟨B,O,δ,d,δ',S,q,k⟩:=q0;unfold T2 at q;cases h1:fa δ with
  |none=>rw[h1] at q;cases q
  |some p1=>
   obtain⟨x,δ1⟩:=p1;rw[h1] at q;cases x with
   |int j=>
    have q:(if 0<=j/\j<=16777216 then some (cX.lst (ZC 0 j.toNat),δ1) else none)=some (d,δ'):=q;split at q
    ·rename_i hj
     cases q;refine⟨B,O,δ,_,_,S,h1,λv1 H1 R1=>?_⟩;have r1:=R1.rep;cases r1;refine⟨j,rfl,λp hp=>⟨p,j,rfl,cF,hj,λl hl=>?_⟩⟩;have sm:aZ H1 (upd H1 p (.ext (rngP p 0 j 1))):=cQ hp;exact k l _ (mkN (R1.sta.same sm) (R1.frm.trans sm.fr) (λz=>(R1.pur z).trans sm) hl (kX 0 j.toNat))
    ·cases q
   |_=>cases q
end
section
variable{X:Cx}{K:Ai}{ml:List Nat}{e a b c:Ux}{es:List Ux}{pa ta ia pb tb ib pc tc ic pu bt bi ps bs:Bool}{fa fb fc f:VF}{B B':Bs}{O:Nat->Option Ur}{H H0 H1 H':Hp}{σ:St}{δ δ':Ev}{v:V}{d:cX}{p:Ur}{pos:Pos}
noncomputable def WI(n:Int):List Int->Option Nat
 |[]=>none
 |i::ns=>if i=n then some 0 else(WI n ns).map (· +1)
theorem L5{n:Int}:∀{ns:List Int} {j:Nat},WI n ns=some j->ns[j]?=some n/\∀m,m<j->ns[m]? ≠some n
 |[],_,h=>by cases h
 | i :: ns,j,h => by
  unfold WI at h;split at h
  ·rename_i hi
   cases h;exact⟨by rw[hi];rfl,λm hm=>absurd hm (Mw _)⟩
  ·rename_i hi
   cases h1:WI n ns with
   |none=>rw[h1] at h;cases h
   |some k=>
    rw[h1] at h;cases h;obtain⟨h2,h3⟩:=L5 h1;refine⟨by simpa using h2,λm hm=>?_⟩;cases m with
    |zero=>simpa using hi
    |succ m=>simpa using h3 m (Mg hm)
theorem IG{ns:List Int}{us:List Uq}(r:bN (ns.map V.int) us){m:Nat}{u:Uq}(h:us[m]?=some u):∃i t,ns[m]?=some i/\u=.int i t:=by
 have hl:=r.length;rw[By] at hl;have hm:m<us.length:=(Ah.mp h).1;have e:(ns.map V.int)[m]?=some (.int ns[m]):=by simp[hl▸hm]
 obtain⟨u',e1,t,e2⟩:=r.get e;rw[h] at e1;cases e1;exact⟨ns[m],t,by simp[hl▸hm],e2⟩
noncomputable def NR(n:Int):Uq->Bool
 |.int i _=>i==n
 |_=>false
theorem Yd{ns:List Int}{its:List Uq}{n:Int}{j:Nat}(r:bN (ns.map V.int) its)(h:WI n ns=some j):∃hj:j<its.toArray.size,NR n its.toArray[j]=true/\(∀m (hm:m<its.toArray.size),m<j->NR n its.toArray[m]=false):=by
 obtain⟨h1,h2⟩:=L5 h;have hl:=r.length;rw[By] at hl;have hj:j<ns.length:=(Ah.mp h1).1;have at_:∀(m:Nat) (hm:m<its.toArray.size),∃i t,ns[m]?=some i/\its.toArray[m]=.int i t:=λm hm=>by
  have hm':m<its.length:=by simpa using hm
  exact IG r (u:=its.toArray[m]) (by simp[hm'])
 refine⟨by simpa[<-hl] using hj,?_,λm hm hmj=>?_⟩
 ·obtain ⟨i,t',e1,e2⟩ := at_ j (by simpa [<- hl] using hj)
  rw[h1] at e1;cases e1;rw[e2];simp[NR]
 ·obtain⟨i,t',e1,e2⟩:=at_ m hm
  have:=h2 m hmj;rw[e1] at this;rw[e2];exact beq_eq_false_iff_ne.mpr λz=>this (by rw[z])
theorem Ws{ns:List Int}{its:List Uq}(r:bN (ns.map V.int) its){y:Uq}(hy:y∈its.toArray):∃i t,y=.int i t:=by
 obtain⟨m,hm,rfl⟩:=Array.mem_iff_getElem.mp hy;have hm':m<its.length:=by simpa using hm
 obtain⟨i,t,_,e⟩:=IG r (m:=m) (u:=its.toArray[m]) (by simp[hm']);exact⟨i,t,e⟩
def Yx(K:Ai):V->List V->Hp->VK->Prop:=λx vs H Q=>∃(l:Ur) (ns:List Int) (n:Int) (j:Nat),x=.ref l/\vs=[.int n]/\YA K H l (ns.map V.int)/\WI n ns=some j/\Q (.int j) H
theorem BR:MtM X "list.index" (Yx X.K):=by
 intro aa s σ H x vs v us Q I rx rv h;obtain⟨l,ns,n,j,rfl,rfl,hq,hj,q⟩:=h;cases rx;obtain⟨u,rfl,t,rfl⟩:=rv.one;obtain⟨its,r,⟨o,c,e,hc,hd,bn⟩,hz⟩:=I.list hq;obtain⟨cls,dd,data,sl⟩:=o;simp only at hc hd bn;subst hc hd bn;obtain⟨hjs,h1,h2⟩:=Yd r hj;have hl:=r.length;refine Gb Pz ⟨_,e,rfl⟩ Ov (Ny _ _) (Ow l its.toArray c none sl (.int n t) (NR n) j hjs (by
  have h3:its.length<=16777216:=by rw[<-hl,<-Bt];exact hz
  have h4:j<its.length:=by simpa using hjs
  lia) h1 h2) ⟨e,?_,?_⟩
 ·intro y hy
  obtain⟨i,t',rfl⟩:=Ws r hy;exact SeqAt.EqAt.int_int i t' n t
 ·exact⟨.int j,H,I.tok _,⟨_,rfl⟩,q⟩
theorem Zz(h:X.K=K):MtM X "list.index" (Yx K):=by subst h;exact BR
noncomputable def FJ:cX->cX->Option cX
 |.lst ds,.int n=>(XV ds).bind λns=>(WI n ns).map λj=>.int j
 |_,_=>none
theorem pD{ao af:Pos}(hK:X.K=K)(ha:PE X a (TV K ml pa ta ia fa))(hb:PE X b (TV K ml pb tb ib fb))(cj:Fn a "index" X.env (eval a X.env)=eval a X.env:=by rfl)(eo:((Dv af (Us (b::[]) X.env)).all (λx=> !x.1)&&(Ic af (Fe [] X.env)).all (λx=>x.1.isSome)&&decide ((b::([]:List Ux)).length+([]:List Iv).length+(if([]:List Iv).isEmpty then 0 else 1)<30))=true:=by rfl)(ci:(ao.endLine==af.line)=true:=by rfl)(hs:Us (b::[]) X.env=(false,eval b X.env)::Us [] X.env:=by rfl)(bp:(Dv af (Us [] X.env)).any (·.1)=false:=by rfl)(hl:(pb || (ta&&ia))=true:=by rfl):PE X (.Call (.Attribute a "index" ao) [b] [] af) (TV K ml (pa&&pb) true true (f2 FJ fa fb)):=
 (kBm (K := K) hK Ii Lq Lr (Zz hK) ha (bM hb ZY hs) cj eo ci hs bp).imp λσ H Q q0 => by
  obtain⟨B,O,δ,d,δ2,S,q,k⟩:=q0;obtain⟨x,δ1,y,h1,h2,h3⟩:=SE q;refine⟨B,O,δ,x,δ1,S,h1,λv1 H1 R1=>?_⟩;cases x with
  |lst ds=>
   cases y with
   |int n=>
    have h3:((XV ds).bind λns=>(WI n ns).map λj=>cX.int j)=some d:=h3;cases h4:XV ds with
    |none=>rw[h4] at h3;cases h3
    |some ns=>
     rw[h4] at h3;have h3:(WI n ns).map (λj=>cX.int j)=some d:=h3;cases h5:WI n ns with
     |none=>rw[h5] at h3;cases h3
     |some j=>
      rw[h5] at h3;cases h3;obtain⟨l,xs,rfl,sq,_⟩:=R1.rep.lstE;refine⟨.inl ⟨rfl,xs,sq⟩,B,O,δ1,_,δ2,R1.sta,h2,λv2 H2 R2=>?_⟩;have r2:=R2.rep;cases r2;obtain⟨l',xs',e1,sq',r'⟩:=(R2.live hl R1.rep).lstE;cases e1;have:=RJ r' h4;subst this;exact⟨l,ns,n,j,rfl,rfl,sq',h5,k _ H2 ⟨R2.sta,R1.frm.trans R2.frm,λz=>by obtain⟨z1,z2⟩:=(Ae _ _).mp z;exact(R1.pur z1).trans (R2.pur z2),.int _⟩⟩
   |_=>cases h3
  |_=>cases h3
def DZ:V->List V->Hp->VK->Prop:=λx vs H Q=>∃(l:Ur) (ns:List Int) (n:Int) (j:Nat),x=.ref l/\vs=[.int n]/\H l=some (.lst (ns.map V.int))/\WI n ns=some j/\Q .non (upd H l (.lst ((ns.eraseIdx j).map V.int)))
theorem LG{α β:Type}(g:α->β):∀(l:List α) (j:Nat),(l.map g).eraseIdx j=(l.eraseIdx j).map g
 |[],_=>by simp
 |_::_,0=>by simp
 |x::l,j+1=>by simp[LG g l j]
theorem BU:MtM X "list.remove" DZ:=by
 intro aa s σ H x vs v us Q I rx rv h;obtain⟨l,ns,n,j,rfl,rfl,hH,hj,q⟩:=h;cases rx;obtain⟨u,rfl,t,rfl⟩:=rv.one;obtain⟨z,its,c,r,hl,e⟩:=I.lstM hH;obtain⟨hjs,h1,h2⟩:=Yd r hj;refine Gb F.slot_list_remove ⟨_,e,rfl⟩ F.entry_list_remove (F.args_list_remove_2 _ _) (MeetsSeq.list_remove l its.toArray c (.int n t) (NR n) (λy hy=>?_) j hjs h1 h2 (by rw[An,<-hl];exact z)) ⟨e,?_⟩
 ·obtain⟨i,t',rfl⟩:=Ws r hy
  exact Ue i n t' t
 ·have hlj : j < its.length := by simpa using hjs
  refine⟨.non,_,I.lset (its':=its.eraseIdx j) hH e (by simp[Array.eraseIdxIfInBounds,hlj]) (ys:=(ns.eraseIdx j).map V.int) ?_ ?_,rfl,q⟩
  ·have:=bN.eraseIdx j r
   rwa[LG] at this
  ·rw[By]
   have h1:=List.length_eraseIdx_le ns j;rw[By] at z;lia
noncomputable def mRem:List cX->List cX->Option (List cX)
 |ds,[.int n]=>(XV ds).bind λns=>(WI n ns).map λj=>(ns.eraseIdx j).map cX.int
 |_,_=>none
theorem mC:MuV K DZ mRem:=by
 intro H N l xs vs ds es ds' Q hl hN rx re h k;cases re with
 |nil=>cases h
 | @cons v vs d es hd t=>
  cases t with
  |cons _ _=>cases d<;>cases h
  |nil=>
   cases d with
   |int n=>
    cases hd;have h:((XV ds).bind λns=>(WI n ns).map λj=>(ns.eraseIdx j).map cX.int)=some ds':=h;cases h4:XV ds with
    |none=>rw[h4] at h;cases h
    |some ns=>
     rw[h4] at h;have h:(WI n ns).map (λj=>(ns.eraseIdx j).map cX.int)=some ds':=h;cases h5:WI n ns with
     |none=>rw[h5] at h;cases h
     |some j=>
      rw[h5] at h;cases h;have:=RJ rx h4;subst this;exact⟨l,ns,n,j,rfl,rfl,hl,h5,k _ _ (OC _)⟩
   |_=>cases h
end
section
variable{X:Cx}{K:Ai}{ml:List Nat}{e:Ux}{es:List Ux}{pu bt bi bs:Bool}{f:VF}{fs:OW}
theorem cN(h:PE X e (TV K ml pu bt bi f))(hb:(bt&&bi)=true:=by rfl):PE X e (TV K ml pu true true f):=by obtain⟨h1,h2⟩:=(Ae _ _).mp hb;subst h1 h2;exact h
theorem EJ(h:PE X e (TV K ml pu bt bi f))(hb:bi=true:=by rfl):PE X e (TV K ml pu bt true f):=by subst hb;exact h
theorem cH(h:PA X es (TAV K ml pu bs fs))(hb:bs=true:=by rfl):PA X es (TAV K ml pu true fs):=by subst hb;exact h
theorem R0{st:Vd}:PS X st (WE K ml λ_=>none):=λ_ _ _ _ _ _ ⟨_,_,_,_,_,q,_⟩=>nomatch q
variable{a b c:Ux}{pa ta ia pb tb ib pc tc ic:Bool}{fa fb fc:VF}{pos:Pos}{δ:Ev}
end
section
variable{X:Cx}{K:Ai}{ml:List Nat}{e a b c:Ux}{pa ta ia pb tb ib pu:Bool}{fa fb fc f:VF}{B:Bs}{O:Nat->Option Ur}{H H':Hp}{σ:St}{δ δ':Ev}{v:V}{d:cX}{p:Ur}{pos:Pos}{ks:List (Option Ux)}{vs:List Ux}
theorem LR:∀{more acc:List (aK×V)},((acc++more).map Dn).Nodup->NV acc more=acc++more
 |[],acc,_=>by simp[NV]
 |(k,v)::more,acc,nd=>by
  have hk:∀q∈acc,q.1≠k:=λq hq z=>by rw[Ij,Az] at nd;exact(List.nodup_append.mp nd).2.2 q.1 (Nz hq) k (by simp) z
  have hn:TM acc k=none:=by unfold TM;rw[List.find?_eq_none.mpr λq hq=>by simpa using hk q hq];rfl
  show NV (XO acc k v) more=_;rw[rH v hn,LR (by simpa using nd)];simp
end
theorem UF:∀(names:List (Uw×Vh)) (n:Nat) (acc:List (Uw×Ur)),Vf n names acc=Vf n names []++acc
 |[],_,_=>rfl
 | (x,k) :: r,n,acc => by
  unfold Vf;split
  ·rw[UF r (n+1) ((x,n)::acc),UF r (n+1) [(x,n)]]
   simp
  ·exact UF r n acc
theorem JJ:∀{names:List (Uw×Vh)} {n:Nat} {x:Uw} {c:Ur},(x,c)∈Vf n names []->(x,Bv)∈names
 |[],_,_,_,h=>nomatch h
 | (y,k) :: r,n,x,c,h => by
  unfold Vf at h;split at h
  ·rename_i hk
   rw[UF] at h;rcases Ck.mp h with h|h
   ·exact Ap _ (JJ h)
   ·cases Ay.mp h
    rw[show k=Bv from beq_iff_eq.mp hk];exact Ax
  ·exact Ap _ (JJ h)
theorem JI:∀{names:List (Uw×Vh)} {n:Nat} {x:Uw},(x,Bv)∈names->∃c,(x,c)∈Vf n names []
 | (y,k) :: r,n,x,h => by
  unfold Vf;rcases Al.mp h with e|h
  ·cases e
   rw[if_pos (by decide),UF];exact⟨n,Au _ (Ay.mpr rfl)⟩
  ·split
   ·rw[UF]
    obtain⟨c,hc⟩:=JI (n:=n+1) h;exact⟨c,Bk _ hc⟩
   ·exact JI h
theorem SR:∀{l:List (Uw×Ur)} {x:Uw} {c:Ur},(x,c)∈l->∃c',l.lookup x=some c'
 | (y,d) :: r,x,c,h => by
  rw[Ci];cases hb:x==y with
  |true=>exact⟨d,rfl⟩
  |false=>
   rcases Al.mp h with e|h
   ·cases e
    simp at hb
   ·exact SR h
theorem aN:∀{l m:List (Uw×Ur)} {x:Uw} {c:Ur},(l++m).lookup x=some c->l.lookup x=some c∨(l.lookup x=none/\m.lookup x=some c)
 |[],_,_,_,h=>.inr ⟨rfl,h⟩
 |(y,d)::r,m,x,c,h=>by
  rw[Ji,Ci] at h;rw[Ci];cases hb:x==y with
  |true=>rw[hb] at h;exact .inl h
  |false=>rw[hb] at h;exact aN h
theorem WV:∀{l m:List (Uw×Ur)} {x:Uw},l.lookup x=none->(l++m).lookup x=m.lookup x
 |[],_,_,_=>rfl
 |(y,d)::r,m,x,h=>by
  rw[Ci] at h;rw[Ji,Ci];cases hb:x==y with
  |true=>rw[hb] at h;cases h
  |false=>rw[hb] at h;exact WV h
theorem P6{M:Vm}{A:Br}{E:Uq->Ad->Prop}{s:Ad}{scope:Vg}{globals:Ur}{i9:List (Uw×Ur)}{qual:Uw}{outer:Env}{Q:Env->Ad->Prop}(hQ:Q (newEnv scope s.heap.objs.size globals (Vf (s.heap.objs.size+1) scope.names i9) qual none .none (some outer) builtinsNs) {s with heap:=Lb (s.heap.push {cls:=.type "dict",data:=.dict #[]}) scope.names}):Ut M A (Ks scope globals i9 [] qual none .none (some outer)) Q E s:=by simp only[Ks,Oo,if_true];refine Aa (wpAny_alloc ?_);refine Aa (wpAny_layCells _ (λname kind cells=>by cases hkc:kind==Bv<;>simp[hkc]) _ _ _ _ ?_);rw[show({s with heap:=s.heap.push {cls:=.type "dict",data:=.dict #[]}}:Ad).heap.objs.size=s.heap.objs.size+1 from Cg ..];rw[Nq];exact Aa (Ag (Ag hQ))
theorem XW:∀{l m:List (Uw×Ur)} {x:Uw} {c:Ur},l.lookup x=some c->(l++m).lookup x=some c
 |(y,d)::r,m,x,c,h=>by
  rw[Ci] at h;rw[Ji,Ci];cases hb:x==y with
  |true=>rw[hb] at h;exact h
  |false=>rw[hb] at h;exact XW h
structure TR(X:Cx)(N':List Uw)(ix:List Nat)(scope:Vg):Prop where
 kind:scope.kind=.function
 cel:∀y∈scope.names,y.2=.cell->scope.names.lookup y.1=some .cell
 names:∀y∈scope.names,y.2=.local->scope.names.lookup y.1=some .local
 free:∀y∈scope.names,y.2=.free->X.env.kindOf y.1=some .cell∨X.env.kindOf y.1=some .free
 nd:N'.Nodup
 cap:∀j,j<ix.length->N'[j]?=(ix[j]?).bind λi=>X.N[i]?
 capf:∀x∈N'.take ix.length,scope.names.lookup x=some .free
noncomputable def bJ(X:Cx)(N':List Uw)(scope:Vg)(cl:List (Uw×Ur))(s1:Ad)(H1:Hp)(fp:List Ur):Cx:=
 {X with N:=N',s₀:=s1,H₀:=H1,env:=Rm scope cl s1.heap.objs.size X.env,outer:=X.stack,stack:=X.stack,ex:=fp,fn:=λx=>scope.names.lookup x==some Bv,pn:=[],xe:=λ_ _=>False}
theorem XB{env:Env}{x:Uw}:∀{l:List (Uw×Vh)},((l.map λ(n,k)=>if(k==Bj&&env.scope.kind== .function&&env.kindOf n==some .cell) then(n,Bv) else(n,k)).lookup x=some .cell∨(l.map λ(n,k)=>if(k==Bj&&env.scope.kind== .function&&env.kindOf n==some .cell) then(n,Bv) else(n,k)).lookup x=some .free)->(x,Bj)∈l∨(x,Bv)∈l
 |[],h=>by rcases h with z|z<;>cases z
 | (n,k) :: r,h => by
  have h:Hi x ((if(k==Bj&&env.scope.kind== .function&&env.kindOf n==some .cell)=true then(n,Bv) else(n,k))::r.map λ(n,k)=>if(k==Bj&&env.scope.kind== .function&&env.kindOf n==some .cell) then(n,Bv) else(n,k))=some .cell∨
   Hi x ((if(k==Bj&&env.scope.kind== .function&&env.kindOf n==some .cell)=true then(n,Bv) else(n,k))::r.map λ(n,k)=>if(k==Bj&&env.scope.kind== .function&&env.kindOf n==some .cell) then(n,Bv) else(n,k))=some .free:=h
  by_cases hc:(k==Bj&&env.scope.kind== .function&&env.kindOf n==some .cell)=true
  ·rw[if_pos hc] at h
   by_cases hx:x=n
   ·subst hx
    have hk:k=.free:=by simp only[Ae] at hc;exact beq_iff_eq.mp hc.1.1
    subst hk;exact .inl Ax
   ·have hb:(x==n)=false:=beq_eq_false_iff_ne.mpr hx
    simp only[Ci,hb] at h;rcases XB (env:=env) h with z|z
    ·exact .inl (Ap _ z)
    ·exact .inr (Ap _ z)
  ·rw[if_neg hc] at h
   by_cases hx:x=n
   ·subst hx
    rw[Ec] at h;rcases h with z|z
    ·cases z;exact .inr Ax
    ·cases z;exact .inl Ax
   ·have hb:(x==n)=false:=beq_eq_false_iff_ne.mpr hx
    simp only[Ci,hb] at h;rcases XB (env:=env) h with z|z
    ·exact .inl (Ap _ z)
    ·exact .inr (Ap _ z)
theorem NA{X:Cx}{aa:List (Ur×Vc)}{σ:St}{H2:Hp}{s2:Ad}{E:Uq->Ad->Prop}{tg iter elt:Ux}{ifs:List Ux}{scope:Vg}{pos:Pos}{N':List Uw}{ix:List Nat}{nl:Nat}{g:TG}{tt:TT}{te:TE}{cl:List (Uw×Ur)}{J:It}{fp:List Ur}{it:Ur}{tn:Nat->Va->Prop}{Q:V->Hp->Prop}{RR:Uq->Ur->Oj->Ad->Prop}(hc:X.calm=true)(S:TR X N' ix scope)(hnl:N'.length=ix.length+nl)(c7:∀x c,cl.lookup x=some c->X.env.cells.lookup x=some c)(j8:∀x,(x,Bj)∈scope.names->∃c,cl.lookup x=some c)(blk:∀(cl:List (Uw×Ur)) (s1:Ad) (H1:Hp) (fp:List Ur),Blk (bJ X N' scope cl s1 H1 fp) tg ifs elt g tt te)(I2:cK X aa σ H2 s2)(T:IZ X.prog X.w X.K tg J fp it tn)(st2:tn 0 s2.heap)(f2:∀b∈fp,QF X aa H2 b)(h:∀D,H2 D=none->We D ix nl J g tt te σ H2 λH'=>Q (.ref D) H')(fin:∀(D C:Ur) (s':Ad) (H':Hp),cK X aa σ H' s'->(∃m,s'.heap.Ns C m)->C≠X.env.locals->(∀x c,X.env.cells.lookup x=some c->c≠C)->(∀(σ':St) (s'':Ad) (h'':Va),cK X aa σ' H' s''->Ey C s''.heap h''->cK X aa σ' H' {s'' with heap:=h''})->Q (.ref D) H'->RR (.ref D) C (.ok .next) s'):Ut (Uv X.prog X.w) X.A (Tn []) (λacc s₃=>Ut (Uv X.prog X.w) X.A (Ks scope X.env.globals cl [] X.env.qual none .none (some X.env)) (λj9 s₄=>Fd (Uv X.prog X.w) X.A (.compStart (.ListComp elt [⟨tg,iter,ifs,0⟩] scope pos) 0 (.ref it) acc {j9 with scope:=relabel scope X.env}) (RR acc j9.locals) s₄) E s₃) E s2:=by
 refine Cm (P6 ?_);dsimp only;have I1:cK X aa σ (upd H2 s2.heap.objs.size (.lst [])) {s2 with heap:=s2.heap.push {cls:=.type "list",dict:=none,data:=.seq ([]:List Uq).toArray}}:=
  I2.lnew (t':=s2.toks) (ys:=[]) (its:=[]) .nil (Di _)
 have hDn:H2 s2.heap.objs.size=none:=I2.hok.fresh (Am _);obtain⟨W,⟨m0,w0⟩,turn⟩:=h _ hDn;generalize hs1:({s2 with heap:=s2.heap.push {cls:=.type "list",dict:=none,data:=.seq ([]:List Uq).toArray}}:Ad)=s1 at I1;have d8:s2.heap.push {cls:=.type "list",dict:=none,data:=.seq ([]:List Uq).toArray}=s1.heap:=by rw[<-hs1]
 rw[d8];have old:∀b o,s1.heap.get? b=some o->(Lb (s1.heap.push {cls:=.type "dict",data:=.dict #[]}) scope.names).get? b=some o:=λb o e=>Ka _ _ _ _ (Ac _ e);have hns₁:(Lb (s1.heap.push {cls:=.type "dict",data:=.dict #[]}) scope.names).Ns s1.heap.objs.size (λ_=>none):=(Ul s1.heap (.type "dict")).keeps λb o e=>Ka _ _ _ _ e;have okc:=cellsFrom_ok scope.names (s1.heap.push {cls:=.type "dict",data:=.dict #[]}) (s1.heap.objs.size+1) [] ⟨λ_ _ hm=>(nomatch hm),Ky⟩ (by rw[Cg];exact Am _);rw[Cg] at okc;generalize hz1:Lb (s1.heap.push {cls:=.type "dict",data:=.dict #[]}) scope.names=h₁ at old hns₁ okc;rw[UF];generalize hnc:Vf (s1.heap.objs.size+1) scope.names []=nc at okc;have ncm:∀x c,nc.lookup x=some c->(x,Bv)∈scope.names/\h₁.IsCell c none/\s1.heap.objs.size+1<=c:=λx c e=>by have hm:=Bm e;exact⟨JJ (n:=s1.heap.objs.size+1) (by rw[hnc];exact hm),okc.empty x c hm⟩
 have nch:∀x,(x,Bv)∈scope.names->∃c,nc.lookup x=some c:=λx h=>by obtain⟨c,hc⟩:=JI (n:=s1.heap.objs.size+1) h;rw[hnc] at hc;exact SR hc
 have gu:∀b∈fp,b<s2.heap.objs.size:=λb hb=>by obtain⟨o,e,_⟩:=T.obj _ _ st2 b hb;exact Aj e
 have iy:s1.heap.objs.size=s2.heap.objs.size+1:=by rw[<-d8,Cg]
 have kf:∀b o,s2.heap.get? b=some o->s1.heap.get? b=some o:=λb o e=>by rw[<-d8];exact Ac _ e
 have d9:∀x c,cl.lookup x=some c->c<s1.heap.objs.size:=λx c e=>by obtain⟨v,q⟩:=I1.cell x c (c7 x c e);exact q.lt
 have qj:∀b∈U7 X.stack,b<s1.heap.objs.size:=λb hb=>by obtain⟨_,o,ho,_⟩:=(I1.stack).mem hb;exact Aj ho
 have okY:(bJ X N' scope (nc++cl) s1 (upd H2 s2.heap.objs.size (.lst [])) fp).Ok:=by
  refine⟨I1.ok.mod,S.kind,I1.ok.glob,I1.ok.blt,Am _,λx y c e1 e2=>?_,λx hx=>?_,λx c hf e=>?_,I1.ok.hd,I1.ok.frames,.inl rfl,λb hb=>⟨?_,λx c e=>?_⟩,λb o e=>?_,Dh I1.ok.bsz I1.sz,λb o e hb=>?_,λb hb hb2=>?_,I1.stack,I1.stkFree⟩
  ·rcases aN e1 with n1|⟨_,o1⟩
   ·rcases aN e2 with n2|⟨_,o2⟩
    ·exact Ox okc.apart (Bm n1) (Bm n2)
    ·exact absurd (At (d9 y c o2) (El (ncm x c n1).2.2)) (Bq _)
   ·rcases aN e2 with n2|⟨_,o2⟩
    ·exact absurd (At (d9 x c o1) (El (ncm y c n2).2.2)) (Bq _)
    ·exact I1.ok.inj x y c (c7 x c o1) (c7 y c o2)
  ·cases q:nc.lookup x with
   |some c=>exact⟨c,XW q⟩
   |none=>
    rcases XB hx with h|h
    ·obtain⟨c,hc⟩:=j8 x h
     exact⟨c,(WV q).trans hc⟩
    ·obtain⟨c,hc⟩:=nch x h
     rw[q] at hc;cases hc
  ·have hx:(x,Bv)∈scope.names:=Bm (beq_iff_eq.mp hf)
   obtain⟨c',hc'⟩:=nch x hx;have:=XW (m:=cl) hc';have e:(nc++cl).lookup x=some c:=e;rw[this] at e;cases e;exact El (ncm x c hc').2.2
  ·exact Aw (At (gu b hb) (by show s2.heap.objs.size<=s1.heap.objs.size;rw[iy];exact Dx _))
  ·rcases aN e with n1|⟨_,o1⟩
   ·have h1:=gu b hb
    have h2:=(ncm x c n1).2.2;rw[iy] at h2;exact λz=>absurd (z▸h2) (Qy (At h1 (Dh (Dx _) (Dx _))))
   ·exact(f2 b hb).2.2.2.2.1 x c (c7 x c o1)
  ·exact I1.bs b o e
  ·have:=(f2 b hb)
   obtain⟨o',e',_⟩:=T.obj _ _ st2 b hb;have hlt:=At (Aj e) I1.ok.bsz;rcases this.2.2.2.1 with z|z
   ·exact I1.ok.noex b o e z
   ·exact absurd (At hlt z) (Bq _)
  ·rcases Al.mp (I1.stkSub b hb2) with z|z
   ·exact(f2 b hb).2.1 z
   ·exact(f2 b hb).2.2.1 z
 have fw:(aX ix σ++As nl none).length=N'.length:=by rw[Cc,Jb,hnl];simp[aX]
 have IY:cK (bJ X N' scope (nc++cl) s1 (upd H2 s2.heap.objs.size (.lst [])) fp) [] (aX ix σ++As nl none) (upd H2 s2.heap.objs.size (.lst [])) {s2 with heap:=h₁}:=by
  refine⟨okY,?_,I2.bare,Un.kept old,⟨_,hns₁,λj x v e1 e2 e3=>?_⟩,λx c e=>?_,I1.hok.fresh (Am _),λx c e=>?_,λp hp=>absurd (show p∈([]:List (Ur×Vc)) from hp) (by simp),I1.hok.kept old,fw⟩
  ·show s2.os=s1.os
   rw[<-hs1]
  ·have hj:j<ix.length:=by
    by_cases hj:j<ix.length
    ·exact hj
    ·exfalso
     have hl:(aX ix σ).length=ix.length:=by simp[aX]
     rw[Ch (by rw[hl];lia),Cj] at e2;split at e2<;>cases e2
   have hl:(aX ix σ).length=ix.length:=by simp[aX]
   rw[Ak (by rw[hl];exact hj)] at e2;have hci:=S.cap j hj;obtain⟨i,hi⟩:∃i,ix[j]?=some i:=⟨ix[j],by simp[hj]⟩;rw[hi] at hci;have hNi:X.N[i]?=some x:=by have:N'[j]?=X.N[i]? :=hci;rw[<-this];exact e1
   have hσ:σ[i]?=some (some v):=by
    unfold aX at e2;rw[Co,hi] at e2;have e2':(σ[i]?).join=some v:=by simpa using e2
    cases q:σ[i]? with
    |none=>rw[q] at e2';cases e2'
    |some o=>rw[q] at e2';rw[show o=some v from e2']
   have hfl:scope.names.lookup x=some .free:=S.capf x (by rw[Jg];exact⟨j,by rw[Cf hj];exact e1⟩)
   have br:(x,Bj)∈scope.names:=Bm hfl;have hpk:X.env.kindOf x=some .cell∨X.env.kindOf x=some .free:=by exact S.free (x,.free) br rfl
   have ki:Vis X.env.scope x:=by
    rcases hpk with z|z
    ·exact .inr (.inl z)
    ·exact .inr (.inr z)
   obtain⟨m,hn,kl⟩:=I1.loc;obtain⟨u,ru,l⟩:=kl i x v hNi hσ ki;refine⟨u,ru,?_⟩;rcases l with⟨hk,_⟩|⟨hk,c,ec,z⟩
   ·rcases hpk with q|q<;>rw[hk] at q<;>cases q
   ·obtain⟨c',hc'⟩:=j8 x br
    have:c'=c:=by have:=c7 x c' hc';rw[ec] at this;exact(Bx this).symm
    subst this;have kj:nc.lookup x=none:=by
     cases q:nc.lookup x with
     |none=>rfl
     |some d=>
      have:=S.cel (x,.cell) (ncm x d q).1 rfl;rw[hfl] at this;cases this
    refine .inr ⟨VV hfl,c',(WV kj).trans hc',?_⟩
    ·obtain⟨o,ho,hd⟩:=z
     exact⟨o,old _ _ ho,hd⟩
  ·rcases aN e with n1|⟨_,o1⟩
   ·exact⟨none,(ncm x c n1).2.1⟩
   ·obtain⟨v,o,ho,hd⟩:=I1.cell x c (c7 x c o1)
    exact⟨v,o,old _ _ ho,hd⟩
  ·rcases aN e with n1|⟨_,o1⟩
   ·exact I1.hok.fresh (El (ncm x c n1).2.2)
   ·exact I1.freeC x c (c7 x c o1)
 have back:∀{pY:List (Ur×Vc)} {σ':St} {H':Hp} {s':Ad},cK (bJ X N' scope (nc++cl) s1 (upd H2 s2.heap.objs.size (.lst [])) fp) pY σ' H' s'->cK X aa σ H' s':=λ{pY σ' H' s'} J'=>
  I1.call' J'.os J'.base J'.hok J'.bare λb hb=>⟨(f2 b hb).2.2.2.1,(f2 b hb).2.1,(f2 b hb).2.2.2.2.1,(f2 b hb).2.2.2.2.2⟩
 have stat:∀{H':Hp} {pY:List (Ur×Vc)},(∀b∈fp,H' b=none)->pY=[]->∀b∈fp,QF (bJ X N' scope (nc++cl) s1 (upd H2 s2.heap.objs.size (.lst [])) fp) pY H' b:=λ{H' pY} hn hp b hb=>by subst hp;refine⟨hn b hb,(okY.exf b hb).1,okY.exfs b hb,.inl hb,(okY.exf b hb).2,λp hp=>absurd (show p∈([]:List (Ur×Vc)) from hp) (by simp)⟩
 have st1:tn 0 h₁:=T.keep 0 s2.heap h₁ st2 λb hb o e=>old b o (kf b o e);have fr1:∀b∈fp,(upd H2 s2.heap.objs.size (.lst [])) b=none:=λb hb=>by rw[b6 (Aw (gu b hb))];exact(f2 b hb).1
 have loop:∀s₃:Ad,s₃={s2 with heap:=h₁}->
   Fd (Uv X.prog X.w) X.A (.compLoop (.ListComp elt [⟨tg,iter,ifs,0⟩] scope pos) 0 (.ref it) (.ref s2.heap.objs.size) (Rm scope (nc++cl) s1.heap.objs.size X.env)) (RR (.ref s2.heap.objs.size) s1.heap.objs.size) s₃:=by
  rintro s₃ rfl;refine A1 (λn s'=>∃i σ' H' acc,cK (bJ X N' scope (nc++cl) s1 (upd H2 s2.heap.objs.size (.lst [])) fp) [] σ' H' s'/\σ'.take ix.length=aX ix σ/\tn i s'.heap/\(∀b∈fp,H' b=none)/\W i n acc H') ?_ m0
   ⟨0,_,_,[],IY,by rw[Cz (by simp[aX])];exact Ce (by simp[aX]),st1,fr1,w0⟩
  rintro n s' ⟨i,σ',H',acc,J',hσ,st',fr',w'⟩;have Jc:cK (bJ X N' scope (nc++cl) s1 (upd H2 s2.heap.objs.size (.lst [])) fp) [] (aX ix σ++As nl none) H' s':=by
   refine J'.weak (by rw[fw];exact J'.len.symm) λj v e=>?_;have hl:(aX ix σ).length=ix.length:=by simp[aX]
   by_cases hj:j<ix.length
   ·rw [Ak (by rw [hl];exact hj),<- hσ,Cf hj] at e
    exact e
   ·rw [Ch (by rw [hl];lia),Cj] at e
    split at e<;>cases e
  rcases turn i n acc H' w' with⟨stop,q⟩|⟨go,N,hN,step⟩
  ·refine Aq (T.done (bJ X N' scope (nc ++ cl) s1 (upd H2 s2.heap.objs.size (.lst [])) fp) rfl rfl rfl hc i [] s' _ H' (λ_ _ => False) Jc (stat fr' rfl) st' stop) (λr s4 ⟨hr,I4⟩ => ?_) λ_ _ z => z
   subst hr;have IX:=back I4;obtain⟨m,hm,_⟩:=I4.loc;exact fin _ _ s4 H' IX ⟨m,hm⟩ (Gp I1.lt) (λx c e z=>by obtain⟨v,q⟩:=I1.cell x c e;have:=q.lt;rw[z] at this;exact Bq _ this) (λσ'' s'' h'' I'' sb=>cK.offNew I1 I'' I4.free λb o hb e=>(sb.2 b hb).trans e) q
  ·refine Aq (T.item (bJ X N' scope (nc ++ cl) s1 (upd H2 s2.heap.objs.size (.lst [])) fp) rfl rfl rfl hc i [] s' _ H' (λ_ _ => False) Jc (stat fr' rfl) st' go) (λr s4 ⟨u,hr,h4⟩ => ?_) λ_ _ z => z
   subst hr;refine Aq h4 (λ_ s5 ⟨x,H5,I5,r5,y5,st5,fr5⟩=>?_) λ_ _ z=>z;have I5':=I5.pinned (stat fr5 rfl) (T.obj _ _ st5);obtain⟨btg,bts,bel⟩:=blk (nc++cl) s1 (upd H2 s2.heap.objs.size (.lst [])) fp;refine Aq (btg _ s5 _ H5 x u _ I5' r5 (step x H5 y5)) (λ_ s6 ⟨σ6,H6,I6,hσ6,q6⟩=>?_) λ_ _ z=>z;have again:∀{H7:Hp} {s7:Ad} {ag:List V},cK (bJ X N' scope (nc++cl) s1 (upd H2 s2.heap.objs.size (.lst [])) fp) ([]++SW fp s5.heap) σ6 H7 s7->N ag H7->
     ∃m,m<n/\∃i σ' H' acc,cK (bJ X N' scope (nc++cl) s1 (upd H2 s2.heap.objs.size (.lst [])) fp) [] σ' H' s7/\σ'.take ix.length=aX ix σ/\tn i s7.heap/\(∀b∈fp,H' b=none)/\W i m acc H':=λ{H7 s7 ag} I7 n7=>by
    obtain⟨m',hm,w7⟩:=hN ag H7 n7;refine⟨m',hm,i+1,σ6,H7,ag,I7.unpinned,hσ6,T.keep _ _ _ st5 λb hb o e=>(I7.pin (b,o) (Au _ (Au _ (ZA hb e)))).1,λb hb=>?_,w7⟩;obtain⟨o,e,d⟩:=T.obj _ _ st5 b hb;exact(I7.pin (b,o) (Au _ (Au _ (ZA hb e)))).2.1
   refine Aq (bts _ s6 σ6 H6 _ I6 q6) (λokb s7 ⟨H7,I7,q7⟩=>?_) λ_ _ z=>z;cases okb with
   |false=>exact again I7 q7
   |true=>
    refine Aq (bel _ s7 σ6 H7 _ I7 q7) (λv s8 ⟨y,H8,I8,r8,hD8,hz8,n8⟩=>?_) λ_ _ z=>z;refine Aq (aP (X:=bJ X N' scope (nc++cl) s1 (upd H2 s2.heap.objs.size (.lst [])) fp) _ s8 σ6 H8 (.ref s2.heap.objs.size) [y] (.ref s2.heap.objs.size) [v] (λ_ H9=>N (acc++[y]) H9) I8 rfl (.cons r8 .nil)
     ⟨s2.heap.objs.size,acc,y,rfl,rfl,hD8,hz8,n8⟩) (λ_ s9 ⟨_,H9,I9,_,n9⟩=>again I9 n9) λ_ _ z=>z
 have he:({newEnv scope s1.heap.objs.size X.env.globals (nc++cl) X.env.qual none .none (some X.env) builtinsNs with scope:=relabel scope X.env}:Env)=Rm scope (nc++cl) s1.heap.objs.size X.env:=rfl;exact Mh (loop _ rfl) (T.self _ 0 _ _ _ st1 (loop _ rfl))
theorem jE{X:Cx}{tg iter elt:Ux}{ifs:List Ux}{scope:Vg}{pos:Pos}{N':List Uw}{ix:List Nat}{nl:Nat}{wi:TI}{g:TG}{tt:TT}{te:TE}(hc:X.calm=true)(S:TR X N' ix scope)(hnl:N'.length=ix.length+nl)(hi:PI X tg iter wi)(blk:∀(cl:List (Uw×Ur)) (s1:Ad) (H1:Hp) (fp:List Ur),Blk (bJ X N' scope cl s1 H1 fp) tg ifs elt g tt te)(hs:∀x,Vb iter X.env x=pure x:=by intro _;rfl):PE X (.ListComp elt [⟨tg,iter,ifs,0⟩] scope pos) (EE ix nl wi g tt te):=by intro aa s σ H Q I h;rw[eval_ListComp];obtain⟨cl,e1,e2,e3⟩:=JL (env:=X.env) (scope:=scope) λy hy hf=>I.ok.has y.1 (S.free y hy hf);refine Hn (use:=none) (cl:=cl) rfl hs e1 S.kind S.names (Aq (hi aa s σ H _ I h) (λxv s₁ h₁=>Aq h₁ (λitv s₂ h₂=>?_) λ_ _ e=>e) λ_ _ e=>e);obtain⟨it,fp,tn,J,H2,e,I2,T,st2,f2,q⟩:=h₂;subst e;refine NA (Q:=Q) (RR:=λacc C=>compPost (Uv X.prog X.w) X.A X.xe none (EP X aa σ Q) acc C) hc S hnl e2 e3 blk I2 T st2 f2 q ?_;intro D C s' H' I' hm hC1 hC2 hb hq;obtain⟨m,hm⟩:=hm;exact⟨m,hm,λh'' sb=>⟨.ref D,H',hb σ s' h'' I' sb,rfl,hq⟩⟩
section
variable{X:Cx}{K:Ai}{ml:List Nat}{pi pt pe pu:Bool}{pos:Pos}{ix:List Nat}{nl:Nat}{f:VF}
noncomputable def QJ(N N':List Uw)(ix:List Nat)(names:List (Uw×Vh))(k:Uw->Option Vh):Bool:=
 names.all (λy=>y.2 != .cell || names.lookup y.1==some .cell)&&(names.all (λy=>y.2 != .local || names.lookup y.1==some .local)&&(names.all (λy=>y.2 != .free || (k y.1==some .cell || k y.1==some .free)) &&
  (decide N'.Nodup&&((Ar ix.length).all (λj=>N'[j]? ==(ix[j]?).bind λi=>N[i]?)&&(N'.take ix.length).all λx=>names.lookup x==some .free))))
theorem X4{N':List Uw}{scope:Vg}(hk:scope.kind=.function)(h:QJ X.N N' ix scope.names X.env.kindOf=true):TR X N' ix scope:=by unfold QJ at h;simp only[Ae,Ei,Ih,bne_iff_ne,beq_iff_eq,decide_eq_true_eq,Ca] at h;obtain⟨h1,h2,h3,h4,h5,h6⟩:=h;exact⟨hk,λy hy e=>(h1 y hy).resolve_left λz=>z e,λy hy e=>(h2 y hy).resolve_left λz=>z e,λy hy e=>(h3 y hy).resolve_left λz=>z e,h4,h5,h6⟩
abbrev BlkC(X:Cx)(K:Ai)(N':List Uw)(ix:List Nat)(scope:Vg)(tg:Ux)(ifs:List Ux)(elt:Ux)(gg:VG)(pt:Bool)(tb:VB)(pe:Bool)(fe:VF):Prop:=N'.Nodup->∀(cl:List (Uw×Ur)) (s1:Ad) (H1:Hp) (fp:List Ur),Blk (bJ X N' scope cl s1 H1 fp) tg ifs elt (TGV K (Ar ix.length) gg) (TB K (Ar ix.length) pt tb) (TV K (Ar ix.length) pe true true fe)
theorem ZM{tg iter elt:Ux}{ifs:List Ux}{scope:Vg}{fi:VI}{gg:VG}{tb:VB}{fe:VF}(N':List Uw)(ix:List Nat)(nl:Nat)(hi:PI X tg iter (CY K ml pi fi))(blk:BlkC X K N' ix scope tg ifs elt gg pt tb pe fe)(hc:X.calm=true:=by rfl)(hk:scope.kind=.function:=by rfl)(hok:QJ X.N N' ix scope.names X.env.kindOf=true:=by rfl)(hnl:N'.length=ix.length+nl:=by rfl)(hnd:ix.Nodup:=by decide)(hs:∀x,Vb iter X.env x=pure x:=by intro _;rfl):PE X (.ListComp elt [⟨tg,iter,ifs,0⟩] scope pos) (TN K ml (pi&&pt&&pe) (ZW ix nl fi gg tb fe)):=
 (jE hc (X4 hk hok) hnl hi (blk (X4 hk hok).nd) hs).imp λ_ _ _ h=>EG hnd h
theorem HK{i:Nat}{y:Uw}{py cb:Pos}{tg iter elt:Ux}{ifs:List Ux}{scope:Vg}{N':List Uw}{wi:TI}{g:TG}{tt:TT}{te:TE}(hN:X.N.Nodup)(hi':X.N[i]?=some y)(hy:X.env.scope.names.lookup y=some .local)(hc:X.calm=true)(S:TR X N' ix scope)(hnl:N'.length=ix.length+nl)(hi:PI X tg iter wi)(blk:∀(cl:List (Uw×Ur)) (s1:Ad) (H1:Hp) (fp:List Ur),Blk (bJ X N' scope cl s1 H1 fp) tg ifs elt g tt te)(hsw:Ve (.ListComp elt [⟨tg,iter,ifs,0⟩] scope pos) (some (.Name y py)) cb.line X.env=pure true:=by rfl)(hs:∀x,Vb iter X.env x=pure x:=by intro _;rfl):PS X (.Assign [.Name y py] (.ListComp elt [⟨tg,iter,ifs,0⟩] scope pos) cb) (tAsg (EE ix nl wi g tt te) (GX i)):=by
 intro aa s σ H D I h;rw[Mx _ _ _ _ hsw];refine Aa (Dd (Aa ?_));show Ut _ X.A (do let _<-comprehension (.ListComp elt [⟨tg,iter,ifs,0⟩] scope pos) scope X.env _ (Tn []) false (eval iter X.env) (some (Fv (.Name y py) X.env))) _ _ s;obtain⟨cl,e1,e2,e3⟩:=JL (env:=X.env) (scope:=scope) λy hy hf=>I.ok.has y.1 (S.free y hy hf);refine Aa (Aq (Hn (use:=some (Fv (.Name y py) X.env)) (cl:=cl) (Q:=λ_ s'=>SP X aa D .next s') rfl hs e1 S.kind S.names
  (Aq (hi aa s σ H _ I h) (λxv s₁ h₁=>Aq h₁ (λitv s₂ h₂=>?_) λ_ _ e=>e) λ_ _ e=>e)) (λ_ s' hq=>Ag (Ag hq)) λ_ _ e=>e)
 obtain⟨it,fp,tn,J,H2,e,I2,T,st2,f2,q⟩:=h₂;subst e;refine NA (Q:=λv H'=>D.nx (σ.set i (some v)) H') (RR:=λacc C=>compPost (Uv X.prog X.w) X.A X.xe (some (Fv (.Name y py) X.env)) (λ_ s'=>SP X aa D .next s') acc C) hc S hnl e2 e3 blk I2 T st2 f2 q ?_;intro Dl C s' H' I' hm hC1 hC2 hb hq;obtain⟨m,hm⟩:=hm;show Ut _ X.A (Fv (.Name y py) X.env (.ref Dl)) _ _ _;refine Gw (Q1 I' hN hi' (.inl hy) (v:=.ref Dl) rfl (λs'' I'' ⟨a,hsb,ha⟩=>?_) (.inr hy));have hCa:C≠a:=by
  rcases ha with z|z
  ·rw[z];exact hC1
  ·exact Dk (hC2 y a z)
 exact⟨m,hm.sameBut hsb hCa,λh'' sb=>⟨_,H',hb _ s'' h'' I'' sb,hq⟩⟩
theorem Zx{i:Nat}{y:Uw}{py cb:Pos}{tg iter elt:Ux}{ifs:List Ux}{scope:Vg}{fi:VI}{gg:VG}{tb:VB}{fe:VF}(o:Bool)(hN:X.N.Nodup)(N':List Uw)(ix:List Nat)(nl:Nat)(hi:PI X tg iter (CY K ml pi fi))(blk:BlkC X K N' ix scope tg ifs elt gg pt tb pe fe)(hi':X.N[i]?=some y:=by rfl)(hy:X.env.scope.names.lookup y=some .local:=by rfl)(hc:X.calm=true:=by rfl)(hk:scope.kind=.function:=by rfl)(hok:QJ X.N N' ix scope.names X.env.kindOf=true:=by rfl)(hnl:N'.length=ix.length+nl:=by rfl)(hnd:ix.Nodup:=by decide)(hm:i∉ml:=by decide)(hsw:Ve (.ListComp elt [⟨tg,iter,ifs,0⟩] scope pos) (some (.Name y py)) cb.line X.env=pure true:=by rfl)(hs:∀x,Vb iter X.env x=pure x:=by intro _;rfl):PS X (.Assign [.Name y py] (.ListComp elt [⟨tg,iter,ifs,0⟩] scope pos) cb) (WE K ml (aG i (if o then xO (ZW ix nl fi gg tb fe) else xV (ZW ix nl fi gg tb fe)))):=
 (HK hN hi' hy hc (X4 hk hok) hnl hi (blk (X4 hk hok).nd) hsw hs).imp λD σ H h=>F8 (λσ H Q z=>EG hnd (Vq (pu:=pi&&pt&&pe) z)) hm h
end
section
variable{X:Cx}{K:Ai}{ml:List Nat}{e a b c:Ux}{es:List Ux}{pi pt pe pu bt bi ps bs:Bool}{f:VF}{B B':Bs}{O:Nat->Option Ur}{H H0 H1 H':Hp}{σ:St}{δ δ':Ev}{v:V}{d:cX}{p:Ur}{pos:Pos}{ix:List Nat}{nl:Nat}
def dH(K:Ai)(N:Ur->Prop)(J:It)(H:Hp)(ds:List cX):Prop:=∃xs:List V,cD K N H xs ds/\∀H2,aZ H H2->(∀(i:Nat) (x:V),xs[i]?=some x->J.go i H2/\∀y H3,J.yld i H2 y H3->H3=H2/\y=x)/\J.stop xs.length H2
def TIVp(K:Ai)(ml:List Nat)(f:VI):TI:=λσ H R=>∃B O δ ds δ',aS K ml B O H σ δ/\f δ=some (ds,δ')/\∀J H',aS K ml B O H' σ δ'->aZ H H'->dH K (Nn B O) J H' ds->R J H'
theorem dE{fi:VI}{gg:VG}{tb:VB}{fe:VF}(hnd:ix.Nodup){Q:VK}(h:TN K ml true (ZW ix nl fi gg tb fe) σ H Q):EE ix nl (TIVp K ml fi) (TGV K (Ar ix.length) gg) (TB K (Ar ix.length) true tb) (TV K (Ar ix.length) true true true fe) σ H Q:=by
 obtain⟨B,O,δ,d,δ2,S,q,k⟩:=h;unfold ZW at q;cases h1:fi δ with
 |none=>rw[h1] at q;cases q
 |some p=>
  obtain⟨ds,δ1⟩:=p;rw[h1] at q;have q:((Z9 ix.length nl gg tb fe ds [] (bE ix δ1)).map λq=>(cX.lst q.1,ZV ix q.2 δ1))=some (d,δ2):=q;cases h2:Z9 ix.length nl gg tb fe ds [] (bE ix δ1) with
  |none=>rw[h2] at q;cases q
  |some z=>
   obtain⟨res,δf⟩:=z;rw[h2] at q;cases q;refine⟨B,O,δ,ds,δ1,S,h1,λJ H0 S0 p0 wk D hD=>?_⟩;obtain⟨els,rel,wk⟩:=wk;have hDO:∀j,Oc ix O j≠some D:=λj e=>by
    unfold Oc at e;cases hi:ix[j]? with
    |none=>rw[hi] at e;cases e
    |some i=>
     rw[hi] at e;obtain⟨o,q⟩:=S0.nin (.inr ⟨i,e⟩);rw[hD] at q;cases q
   have fj:∀kp j,ix.length<=j->(Bc ix B O H0 D kp).mu j=none:=λkp j hj=>by show(ix[j]?).bind O=none;rw[Bp hj];rfl
   refine⟨λi m acc H1=>m=ds.length - i/\i<=ds.length/\∃(ai:List cX) (δc:Ev),δc.length=ix.length/\acc.length=ai.length∧
     aS K (Ar ix.length) (Bc ix B O H0 D (acc.zip ai)) (Oc ix O) H1 (aX ix σ++As nl none) (δc++P8 nl)/\H1 D=some (.lst acc)/\aZ H0 H1∧
     Z9 ix.length nl gg tb fe (ds.drop i) ai δc=some (res,δf),
    ⟨ds.length,rfl,Di _,[],bE ix δ1,by simp[bE],rfl,by rw[La];exact S0.inner hD hnd λp hp=>(nomatch hp),cF,cQ hD,h2⟩,?_⟩
   rintro i m acc H1 ⟨rfl,hi,ai,δc,hlc,bo,S1,hD1,cr,hc⟩;have w:=wk H1 cr;have oh:cD K (Nn (Bc ix B O H0 D (acc.zip ai)) (Oc ix O)) H1 els ds:=(rel.away hD _ _ NW).same cr;by_cases hlt:i<ds.length
   ·obtain ⟨ex,ex1,ex2⟩ := oh.get (i := i) (d := ds[i]) (by simp [hlt])
    obtain⟨go,yl⟩:=w.1 i ex ex1;rw[Dt hlt] at hc;simp only[Z9] at hc;cases g1:gg ds[i] (δc++P8 nl) with
    |none=>rw[g1] at hc;cases hc
    |some δ3=>
     rw[g1] at hc;simp only[Af] at hc;cases g2:tb δ3 with
     |none=>rw[g2] at hc;cases hc
     |some z=>
      obtain⟨kk,δ4⟩:=z;rw[g2] at hc;simp only[Af] at hc;refine .inr ⟨go,λag H'=>∃(ai:List cX) (δc:Ev),δc.length=ix.length/\ag.length=ai.length∧
       aS K (Ar ix.length) (Bc ix B O H0 D (ag.zip ai)) (Oc ix O) H' (aX ix σ++As nl none) (δc++P8 nl)/\H' D=some (.lst ag)/\aZ H0 H'∧
       Z9 ix.length nl gg tb fe (ds.drop (i+1)) ai δc=some (res,δf),λag H' w'=>⟨ds.length - (i+1),by lia,rfl,hlt,w'⟩,λx H2 hy=>?_⟩
      obtain⟨rfl,rfl⟩:=yl x H2 hy;have rx:=ex2;have sm:=aZ.refl H2;refine⟨_,_,_,ds[i],δ3,S1.same sm,rx,g1,λσ3 O3 S3 m3=>?_⟩;have ln3:ix.length<=σ3.length:=by
       by_cases hz:ix.length=0
       ·lia
       ·have hj : ix.length - 1 < ix.length := by lia
        have:=m3 (ix.length - 1) (Ca.mpr hj);have hs:(aX ix σ++As nl none)[ix.length - 1]? ≠none:=by rw[Ak (by rw[ZJ];exact hj)];simp[aX,hj]
        rw[<-this] at hs;have nr:ix.length - 1<σ3.length:=Ma λz=>hs (Hf.mpr z);lia
      have hσ3:=Q3 ln3 m3;refine⟨hσ3,_,_,δ3,kk,δ4,S3,g2,λH4 R4=>?_⟩;have hD4:H4 D=some (.lst acc):=R4.frm _ _ (sm _ _ hD1) λz=>by obtain⟨j,e⟩:=z;have:=(R4.sta.old j D e).1;exact absurd (.inl (.inr rfl)) this
      have ln4:ix.length<=δ4.length:=by rw[<-R4.sta.len];exact ln3
      cases kk with
      |false=>
       rw[if_neg Cs] at hc;refine RK ⟨ai,δ4.take ix.length,by rw[Cb];lia,bo,R4.sta.turn (fj _) (ZJ ix σ) hσ3 ln4,hD4,?_,hc⟩;exact(cr.trans sm).trans (R4.pur rfl)
      |true=>
       rw[if_pos rfl] at hc;cases g3:fe δ4 with
       |none=>rw[g3] at hc;cases hc
       |some z=>
        obtain⟨dv,δ5⟩:=z;rw[g3] at hc;simp only[Af] at hc;split at hc
        ·rename_i hz
         refine RL ⟨_,_,δ4,dv,δ5,R4.sta,g3,λv H5 R5=>?_⟩;have hD5:H5 D=some (.lst acc):=R5.frm _ _ hD4 λz=>by obtain⟨j,e⟩:=z;have:=(R5.sta.old j D e).1;exact absurd (.inl (.inr rfl)) this
         have ln5:ix.length<=δ5.length:=by rw[<-R5.sta.len];exact ln3
         have S6:=R5.sta.turn (nl:=nl) (fj _) (ZJ ix σ) hσ3 ln5;have hv:bI K (Nn (Bc ix B O H0 D (acc.zip ai)) (Oc ix O)) H5 (Nn (Bc ix B O H0 D (acc.zip ai)) (Oc ix O)) v dv:=by
          have hN:∀a,Nn (Bc ix B O H0 D (acc.zip ai)) (Oc ix O) a->av (Bc ix B O H0 D (acc.zip ai)) O3 true a:=λa h=>by
           rcases h with h|⟨j,h⟩
           ·exact .inl h
           ·refine .inr ⟨j,?_⟩
            have hj:j∈Ar ix.length:=R5.sta.par.1 j a h;rw[R5.sta.par.2 j hj];exact h
          exact R5.rep.mono hN hN
         have S7:=S6.withKp (kp:=(acc++[v]).zip (ai++[dv])) λp hp=>by
          rw[Mv bo] at hp;rcases Ck.mp hp with z|z
          ·exact S6.kep p z
          ·rw[Ay.mp (show p∈[(v,dv)] from z)]
           exact hv
         refine⟨hD5,by rw[bo,Bt];exact hz,ai++[dv],δ5.take ix.length,by rw[Cb];lia,by simp[bo],?_,cF,?_,hc⟩
         ·exact S7.writeZ (.inl (.inr rfl)) hD5 hD
         ·intro b o e
          have hb:b≠D:=λz=>by rw[z,hD] at e;cases e
          rw[b6 hb];exact((cr.trans sm).trans ((R4.pur rfl).trans (R5.pur rfl))) b o e
        ·cases hc
   ·have e : i = ds.length := by lia
    subst e;rw[Gj] at hc;cases hc;refine .inl ⟨by rw[<-rel.length];exact w.2,k D H1 ?_⟩;have fP:Fr (OA (Oc ix O)) H0 H1:=S1.frm;have hPO:∀a,OA (Oc ix O) a->OA O a:=λa q0=>by
     obtain⟨j,e⟩:=q0;unfold Oc at e;cases hi:ix[j]? with
     |none=>rw[hi] at e;cases e
     |some i=>rw[hi] at e;exact⟨i,e⟩
    have SL:=S0.laid (o:=.lst acc) hD;have fL:Fr (OA (Oc ix O)) (upd H0 D (.lst acc)) H1:=λb o e n=>by
     by_cases hb:b=D
     ·subst hb
      rw[cF] at e;cases e;exact hD1
     ·rw[b6 hb] at e
      exact fP b o e n
    refine⟨SL.call (X2) (λi=>?_) fL hPO,(p0.fr (P:=OA O)).trans (fP.mono hPO),λz=>?_,.lst hD1 (VW bo λp hp=>(S1.kep p hp).mono VR VR),S0.new hD,S0.fresh hD⟩
    ·by_cases fu:i<δ1.length
     ·rcases W3 (ix:=ix) (ss:=δf) (δ:=δ1) i fu hlc.symm with⟨j,x,e1,e2,e3⟩|⟨e1,e2⟩
      ·have e4:(δf++P8 nl)[j]? =some (.ow x):=by rw[Ak (Ah.mp e2).1];exact e2
       obtain⟨a,e5,_,w⟩:=S1.ow j x e4;refine .inr ⟨a,x,?_,e3,w.mono VR⟩;unfold Oc at e5;rw[e1] at e5;exact e5
      ·refine .inl ⟨e2,λa ea ⟨j,ej⟩ => ?_⟩
       obtain⟨x,ex⟩:=S1.dom j a ej;unfold Oc at ej;cases hi:ix[j]? with
       |none=>rw[hi] at ej;cases ej
       |some i'=>
        rw[hi] at ej;have:i=i':=S0.inj i i' a ea ej;subst this;have hj:j<δf.length:=by rw[hlc];exact(Ah.mp hi).1
        rw[Ak hj] at ex;exact e1 j x hi ex
     ·refine .inl ⟨?_,λa ea => ?_⟩
      ·rw[Bp (by rw[X2];lia),Bp (by lia)]
      ·obtain⟨x,ex⟩:=S0.dom i a ea
       exact absurd (Ah.mp ex).1 fu
    ·exact p0.trans cr
theorem aZ.sqT{a:Ur}{xs:List V}(s:aZ H H')(h:WM K H a xs):WM K H' a xs:=Fr.tup (P:=λ_=>False) s.fr h
theorem jL{tg:Ux}(hK:X.K=K)(h:PE X e (TV K ml true bt bi f))(hb:bi=true:=by rfl):PI X tg e (TIVp K ml (U3 f)):=by
 subst hb;refine((Wv (K:=K) hK h).or (Wk (K:=K) hK h)).imp λσ H R ⟨B,O,δ,ds,δ',S,q,k⟩=>?_;unfold U3 at q;cases h1:f δ with
 |none=>rw[h1] at q;cases q
 |some p=>
  obtain⟨x,δ1⟩:=p;rw[h1] at q;cases x with
  |lst ds'=>
   cases q;refine .inl ⟨B,O,δ,_,δ1,S,h1,λv H1 R1=>?_⟩;obtain⟨a,xs,rfl,sq,r⟩:=R1.rep.lstE;refine⟨a,rfl,⟨xs,sq⟩,k _ H1 R1.sta (R1.pur rfl) ⟨xs,r,λH2 sm=>⟨λi x ex=>⟨⟨xs,x,sm.seq sq,ex⟩,λy H3 hy=>?_⟩,xs,sm.seq sq,Am _⟩⟩⟩;obtain⟨e2,e3⟩:=hy;have:=e3 xs (sm.seq sq);rw[ex] at this;cases this;exact⟨e2,rfl⟩
  |tup ds'=>
   cases q;refine .inr ⟨B,O,δ,_,δ1,S,h1,λv H1 R1=>?_⟩;obtain⟨a,xs,rfl,sq,r⟩:=R1.rep.tupE;refine⟨a,rfl,⟨xs,sq⟩,k _ H1 R1.sta (R1.pur rfl) ⟨xs,r,λH2 sm=>⟨λi x ex=>⟨⟨xs,x,sm.sqT sq,ex⟩,λy H3 hy=>?_⟩,xs,sm.sqT sq,Am _⟩⟩⟩;obtain⟨e2,e3⟩:=hy;have:=e3 xs (sm.sqT sq);rw[ex] at this;cases this;exact⟨e2,rfl⟩
  |_=>cases q
theorem Zr{i:Nat}{y:Uw}{py cb:Pos}{tg iter elt:Ux}{ifs:List Ux}{scope:Vg}{fi:VI}{gg:VG}{tb:VB}{fe:VF}(o:Bool)(hN:X.N.Nodup)(N':List Uw)(ix:List Nat)(nl:Nat)(hi:PI X tg iter (TIVp K ml fi))(blk:BlkC X K N' ix scope tg ifs elt gg pt tb pe fe)(hi':X.N[i]?=some y:=by rfl)(hy:X.env.scope.names.lookup y=some .local:=by rfl)(hc:X.calm=true:=by rfl)(hk:scope.kind=.function:=by rfl)(hok:QJ X.N N' ix scope.names X.env.kindOf=true:=by rfl)(hnl:N'.length=ix.length+nl:=by rfl)(hnd:ix.Nodup:=by decide)(hp:(pt&&pe)=true:=by rfl)(hm:i∉ml:=by decide)(hsw:Ve (.ListComp elt [⟨tg,iter,ifs,0⟩] scope pos) (some (.Name y py)) cb.line X.env=pure true:=by rfl)(hs:∀x,Vb iter X.env x=pure x:=by intro _;rfl):PS X (.Assign [.Name y py] (.ListComp elt [⟨tg,iter,ifs,0⟩] scope pos) cb) (WE K ml (aG i (if o then xO (ZW ix nl fi gg tb fe) else xV (ZW ix nl fi gg tb fe)))):=by obtain⟨h1,h2⟩:=(Ae _ _).mp hp;subst h1 h2;exact(HK hN hi' hy hc (X4 hk hok) hnl hi (blk (X4 hk hok).nd) hsw hs).imp λD σ H h=>F8 (λσ H Q z=>dE hnd (Vq (pu:=true) z)) hm h
end
section
variable{X:Cx}{K:Ai}{ml:List Nat}{e a b c:Ux}{es:List Ux}{pa ta ia pb tb ib pc tc ic pu bt bi ps bs:Bool}{fa fb fc f:VF}{B B':Bs}{O:Nat->Option Ur}{H H1 H':Hp}{σ:St}{δ δ':Ev}{v:V}{d:cX}{p:Ur}{pos:Pos}
noncomputable def OL:List (Uw×bC)->Uw->Option bC
 |[],_=>none
 |(y,F)::r,x=>if y=x then some F else OL r x
def CZ(X:Cx)(K:Ai)(mF:List Nat)(n:Nat)(tb:List (Uw×bC)):Prop:=∀x F a,OL tb x=some F->Er K Uu x=some (some (.ref a))->FnAt X a (spV K mF n F)
theorem lH{mF:List Nat}{n:Nat}:CZ X K mF n []:=λ_ _ _ h=>nomatch h
theorem IC{x:Uw}{kk j n:Nat}{qs:List Uw}{mF:List Nat}{F:bC}{ff:Ur}{tb:List (Uw×bC)}(hK:X.K=K)(hm:∀x a,Er K Uu x=some (some (.ref a))->X.mg x=some (.ref a))(hr:ZG j X.A)
  (D:Def X.prog X.w K X.mg X.base x kk qs (spV K mF n F) ff) (hk:kk<=j) (t:CZ X K mF n tb):CZ X K mF n ((x,F)::tb):=λy G a h1 h2=>by
 unfold OL at h1;split at h1
 ·rename_i hxy
  subst hxy;cases h1;have e:=(hm x a h2).symm.trans D.at_;cases e;subst hK;exact D.fnAt hr hk
 ·exact t y G a h1 h2
end
section
variable{X:Cx}{K:Ai}{ml:List Nat}{e a b c:Ux}{es:List Ux}{pa ta ia pb tb ib pc tc ic pu bt bi ps bs:Bool}{fa fb fc f:VF}{pos p':Pos}{d:cX}{x:Uw}
theorem vv(i:Nat)(hN:X.N[i]?=some x:=by rfl)(hv:Vis X.env.scope x:=by first|exact Gd rfl|exact Et (Gd rfl)|exact Et (Et rfl))(hd:(x==("__debug__":Uw))=false:=by decide)(hcd:(x==("__classdict__":Uw))=false:=by decide):PE X (.Name x pos) (TV K ml true true true (fV i)):=rK (FP hN hv hd hcd)
theorem vo(i:Nat)(hN:X.N[i]?=some x:=by rfl)(hv:Vis X.env.scope x:=by first|exact Gd rfl|exact Et (Gd rfl)|exact Et (Et rfl))(hd:(x==("__debug__":Uw))=false:=by decide)(hcd:(x==("__classdict__":Uw))=false:=by decide):PE X (.Name x pos) (TV K ml true false true (fO i)):=fZ (FP hN hv hd hcd)
theorem ZI(hu:X.A.units+1<cLine)(ha:PE X a (TV K ml pa ta ia fa))(hb:PE X b (TV K ml pb tb ib fb))(hK:X.K=K:=by rfl)(hx:IU b:=by exact λ_ _=>rfl)(hs:(pb || (ta&&ia))=true:=by rfl):PE X (.Subscript a b pos) (TV K ml (pa&&pb) ia ia (f2 bT fa fb)):=
 mO (kIxA hK hu) mY ha hb hx hs
theorem veq(hu:X.A.units+64<cLine)(ha:PE X a (TV K ml pa ta ia fa))(hb:PE X b (TV K ml pb tb ib fb))(hK:X.K=K:=by rfl)(hs:(pb || (ta&&ia))=true:=by rfl):PE X (.Compare a [.Eq] [b] pos) (TV K ml (pa&&pb) true true (f2 WZ fa fb)):=
 YK (kEqD hK hu) s_eq ha hb (Z4 _) hs
theorem V2(hu:X.A.units+64<cLine)(ha:PE X a (TV K ml pa ta ia fa))(hb:PE X b (TV K ml pb tb ib fb))(hK:X.K=K:=by rfl)(hs:(pb || (ta&&ia))=true:=by rfl):PT X (.Compare a [.Eq] [b] pos) (TB K ml (pa&&pb) (fB (f2 WZ fa fb))):=
 bA (kEqD hK hu) s_eq ha hb (Z4 _) hs
theorem bP{kk j n:Nat}{qs:List Uw}{mF:List Nat}{F:bC}{ff:Ur}{fs:PP}(D:Def X.prog X.w K X.mg X.base x kk qs (spV K mF n F) ff)(hr:ZG j X.A)(ha:PA X (e::es) (EU K ml ps fs))(hK:X.K=K:=by rfl)(hk:kk<=j:=by decide)(hg:Gl X x:=by rfl)(hdb:(x==("__debug__":Uw))=false:=by decide)(he:Us (e::es) X.env=(false,eval e X.env)::Us es X.env:=by rfl)(hpl:(Dv pos (Us es X.env)).any (·.1)=false:=by rfl):PE X (.Call (.Name x p') (e::es) [] pos) (TV K ml (ps&&mF.isEmpty) true true (cL n mF F fs)):=nV hK D hr hk hg ha hdb he hpl
theorem XD(hm:X.mg "len"=none)(ha:PE X a (TV K ml pa ta ia fa))(hK:X.K=K:=by rfl)(hg:Gl X "len":=by rfl)(he:Us (a::[]) X.env=(false,eval a X.env)::Us [] X.env:=by rfl):PE X (.Call (.Name "len" p') [a] [] pos) (TV K ml pa true true (f1 Y3 fa)):=
 Vw (pU hK) fY hg hm qP ha (by decide) (by decide) he
theorem vty{n:String}(hm:X.mg x=none)(hv:Be x=some (.type n))(hg:Gl X x:=by rfl)(hn:x≠ "__name__":=by decide)(hd:(x==("__debug__":Uw))=false:=by decide):PE X (.Name x pos) (TV K ml true true true (fC (.ty n))):=
 CM (lD (v:=.ty n) hg hm hv rfl hn hd) λ_ _ _=>.ty _
theorem GC(hm:X.mg "isinstance"=none)(ha:PE X a (TV K ml pa ta ia fa))(hb:PE X b (TV K ml pb tb ib fb))(hK:X.K=K:=by rfl)(hg:Gl X "isinstance":=by rfl)(he:Us (a::[b]) X.env=(false,eval a X.env)::Us [b] X.env:=by rfl)(he2:Us (b::[]) X.env=(false,eval b X.env)::Us [] X.env:=by rfl)(hpl:(Dv pos (Us [b] X.env)).any (·.1)=false:=by rfl)(hs:(pb || (ta&&ia))=true:=by rfl):PE X (.Call (.Name "isinstance" p') [a,b] [] pos) (TV K ml (pa&&pb) true true (f2 SV fa fb)):=YH (kIsi hK) Zs hg hm b7 ha hb (by decide) (by decide) he he2 hpl hs
end
def A4(K:Ai)(x:Uw)(st:Vd)(f:Ur):Prop:=∃(oc:Uq) (od:Option Ur) (kV doc pm:Uq) (an:Option Ur) (cdv ct:Uq) (osl:Array (Option Uq)),Er K Uu x=some (some (.ref f))∧
 K.lookup f=some ⟨oc,od,.func (Ly x x (YW st) (aT st) (cU st) .none kV doc pm an cdv ct),osl⟩/\Ol K cdv x=true/\Hz K (.ref f)=true
theorem a4{K:Ai}{x:Uw}{st:Vd}{f:Ur}{oc:Uq}{od:Option Ur}{kV doc pm:Uq}{an:Option Ur}{cdv ct:Uq}{osl:Array (Option Uq)}(a:Er K Uu x=some (some (.ref f)))(b:K.lookup f=some ⟨oc,od,.func (Ly x x (YW st) (aT st) (cU st) .none kV doc pm an cdv ct),osl⟩)(c:Ol K cdv x=true)(d:Hz K (.ref f)=true):A4 K x st f:=⟨oc,od,kV,doc,pm,an,cdv,ct,osl,a,b,c,d⟩
theorem A4.ns{K:Ai}{x:Uw}{st:Vd}{f:Ur}(p:A4 K x st f):Er K Uu x=some (some (.ref f)):=by obtain⟨_,_,_,_,_,_,_,_,_,a,_⟩:=p;exact a
theorem ZB{P:Av}{w:Uy}{K:Ai}{mg:Uw->Option Uq}{base h:Va}{x:Uw}{st:Vd}{f:Ur}{ps:List Uw}{sp:Sp}{k:Nat}(X:K.In h)(G:h.Ns Uu mg)(p:A4 K x st f)(ok:∀{fd:Df},YZ K x x st f fd->aW P w K mg base CX0 k f fd ps sp)(hb:∀{kV doc pm:Uq} {an:Option Ur} {cdv ct:Uq} (us:List Uq),us.length=ps.length->Rj (Ly x x (YW st) (aT st) (cU st) .none kV doc pm an cdv ct) ⟨us,[]⟩=pure (ps.zip us)):Def P w K mg base x k ps sp f:=by obtain⟨oc,od,kV,doc,pm,an,cdv,ct,osl,a,b,c,d⟩:=p;have U:=JQ (st:=st) b c d;exact⟨Ds X G a,⟨_,ok U,U.binds λ_ _ _ _ _ _=>hb⟩,d⟩
theorem UZ(P:Av)(w:Uy)(K:Ai)(mg:Uw->Option Uq)(base:Va){x qual:Uw}{st:Vd}{f:Ur}{fd:Df}(N ps:List Uw)(k:Nat)(g:VS)(ml:List Nat)(F:YZ K x qual st f fd)(S:cG N ps (cU st))(ap:∀(cdv:Uq) (A:Br) (outer:List Env) (s:Ad) (H:Hp) (E:XK) (hr:ZG k (A.deeper (envOfC qual (cU st) s.heap.objs.size f cdv))) (_:(A.deeper (envOfC qual (cU st) s.heap.objs.size f cdv)).units+64<cLine) (_:(A.deeper (envOfC qual (cU st) s.heap.objs.size f cdv)).units+1<cLine),W2 (TJ CX0 P w K mg base N qual (cU st) f cdv A outer s H E).nox (aT st) (WE K ml g))(hps:ps.length<=N.length:=by decide):aW P w K mg base CX0 (k+1) f fd ps (spV K ml ps.length (Z5 N.length ml g)):=
 YZ.okV F S hps λcdv A outer s H E hr=>ap cdv A outer s H E hr hr.units (Yv hr)
theorem ZK{N P:List Uw}{sc:Vg}(a:sc.kind=.function:=by rfl)(b:sc.isCoroutine=false:=by rfl)(c:sc.isGenerator=false:=by rfl)(d:N.Nodup:=by decide+kernel)(e:N.take P.length=P:=by rfl)(f:∀x∈P,sc.names.lookup x=some .local∨sc.names.lookup x=some .cell:=by decide+kernel)(g:∀y∈sc.names,y.2≠Bj:=by decide+kernel):cG N P sc:=⟨a,b,c,d,e,f,g⟩
def KD{α:Type}:Vk α->Prop
 |.pure _=>True
 |.raise _=>True
 |.unsupported _=>True
 |.finish _=>True
 |.rule _ k=>KD (k ())
 |.at _ k=>KD (k ())
 |.load _ _ k=>∀o,KD (k o)
 |.update _ _ f k=>(∀o,(f o).dict=o.dict)/\KD (k ())
 |.alloc _ k=>∀a,KD (k a)
 |.loadIfAlive _ k=>∀o,KD (k o)
 |.point _ k=>KD (k ())
 |.stack k=>∀l,KD (k l)
 |.fresh k=>∀l,KD (k l)
 |.ask k=>∀l,KD (k l)
 |.handled _ k=>∀l,KD (k l)
 |_=>False
def Dc(e:Ur)(d:Option Ur)(h:Va):Prop:=∃o,h.objs[e]?=some o/\o.dict=d
theorem Dc.of{e:Ur}{h:Va}{o:Vc}(q:h.get? e=some o):Dc e o.dict h:=⟨o,(Oy.mp q).1,rfl⟩
theorem Dc.at{e:Ur}{d:Option Ur}{h:Va}{o:Vc}(D:Dc e d h)(q:h.get? e=some o):o.dict=d:=by obtain⟨o',e1,e2⟩:=D;rw[(Oy.mp q).1] at e1;cases e1;exact e2
theorem Dc.upd{e a:Ur}{d:Option Ur}{h:Va}{f:Vc->Vc}(D:Dc e d h)(hf:∀o,(f o).dict=o.dict):Dc e d (h.update a f):=by
 obtain⟨o,e1,e2⟩:=D;cases h;simp only[Dc,Heap.update,Array.getElem?_modify];by_cases hb:a=e
 ·subst hb
  exact⟨f o,by rw[if_pos rfl,e1];rfl,(hf o).trans e2⟩
 ·exact⟨o,by rw[if_neg hb];exact e1,e2⟩
theorem Dc.push{e:Ur}{d:Option Ur}{h:Va}(o:Vc)(D:Dc e d h):Dc e d (h.push o):=by obtain⟨o1,e1,e2⟩:=D;cases h;refine⟨o1,?_,e2⟩;simp only[Heap.push,Array.getElem?_push];rw[if_neg (Aw (Array.getElem?_eq_some_iff.mp e1).1)];exact e1
theorem gM{α:Type}{M:Vm}{Γ:PySem.Ctx}{e:Ur}{d:Option Ur}{E:Uq->Pos->Ad->Prop}:∀(t:Vk α) (Q:α->Pos->Ad->Prop) (p:Pos) (s:Ad),KD t->Dc e d s.heap->Sem.wp M Γ t Q E p s->Sem.wp M Γ t (λa p s'=>Q a p s'/\Dc e d s'.heap) E p s:=by
 intro t;induction t with
 |pure a=>intro Q p s _ D h;simp only[Sem.wp_pure] at h⊢;exact⟨h,D⟩
 |raise v=>intro Q p s _ D h;simp only[Sem.wp_raise] at h⊢;exact h
 |unsupported w=>intro Q p s _ D h;simp only[Sem.wp_unsupported] at h
 |finish w=>intro Q p s _ D h;simp only[Sem.wp_finish] at h
 |rule g k ih=>intro Q p s K D h;simp only[Sem.wp_rule] at h⊢;exact ih () Q p s K D h
 | «at» q k ih=>intro Q p s K D h;simp only[Sem.wp_at] at h⊢;exact ih () Q q s K D h
 |load a b k ih=>intro Q p s K D h;rw[Sem.wp_load] at h⊢;obtain⟨o,e1,h⟩:=h;exact⟨o,e1,ih o Q p s (K o) D h⟩
 |update a b f k ih=>intro Q p s K D h;rw[Sem.wp_update] at h⊢;exact⟨h.1,ih () Q p _ K.2 (D.upd K.1) h.2⟩
 |alloc o k ih=>intro Q p s K D h;simp only[Sem.wp_alloc] at h⊢;exact ih _ Q p _ (K _) (D.push o) h
 |loadIfAlive a k ih=>intro Q p s K D h;simp only[Sem.wp_loadIfAlive] at h⊢;exact ih _ Q p s (K _) D h
 |point l k ih=>intro Q p s K D h;simp only[Sem.wp_point] at h⊢;exact ih () Q p s K D h
 |stack k ih=>intro Q p s K D h;rw[Sem.wp] at h⊢;exact ih _ Q p s (K _) D h
 |fresh k ih=>intro Q p s K D h;simp only[Sem.wp_fresh] at h⊢;exact ih _ Q p _ (K _) D h
 |ask k ih=>intro Q p s K D h;simp only[Sem.wp_ask] at h⊢;exact ih _ Q p s (K _) D h
 |handled o k ih=>intro Q p s K D h;simp only[Sem.wp_handled] at h⊢;exact ih _ Q p s (K _) D h
 |_=>intro Q p s K;exact K.elim
theorem QH{α:Type}{M:Vm}{A:Br}{e:Ur}{d:Option Ur}{E:Uq->Ad->Prop}{t:Vk α}{Q:α->Ad->Prop}{s:Ad}(K:KD t)(D:Dc e d s.heap)(h:Ut M A t (λa s'=>Dc e d s'.heap->Q a s') E s):Ut M A t Q E s:=λΓ p hΓ=>
 Sem.wp_mono M Γ t (λa p s' z=>z.1 z.2) (λ_ _ _ z=>z) p s (gM t _ p s K D (h Γ p hΓ))
theorem KD.bind{α β:Type}{f:α->Vk β}:∀{m:Vk α},KD m->(∀a,KD (f a))->KD (m>>=f):=by
 intro m;show KD m->_->KD (Sem.bind m f);induction m with
 |pure a=>intro _ h;exact h a
 |raise v=>intro _ h;exact trivial
 |unsupported w=>intro _ h;exact trivial
 |finish w=>intro _ h;exact trivial
 |rule g k ih=>intro K h;exact ih () K h
 | «at» q k ih=>intro K h;exact ih () K h
 |load a b k ih=>intro K h o;exact ih o (K o) h
 |update a b f k ih=>intro K h;exact⟨K.1,ih () K.2 h⟩
 |alloc o k ih=>intro K h a;exact ih a (K a) h
 |loadIfAlive a k ih=>intro K h o;exact ih o (K o) h
 |point l k ih=>intro K h;exact ih () K h
 |stack k ih=>intro K h l;exact ih l (K l) h
 |fresh k ih=>intro K h l;exact ih l (K l) h
 |ask k ih=>intro K h l;exact ih l (K l) h
 |handled o k ih=>intro K h l;exact ih l (K l) h
 |_=>intro K;exact K.elim
theorem pP(f:Array Uq->Array Uq)(o:Vc):(Tq f o).dict=o.dict:=by unfold Tq;split<;>rfl
theorem KD.field(v:Uq)(i:Nat):KD (field v i):=by unfold PySem.field fieldsOf;repeat (first|exact trivial|exact λ_=>trivial|with_reducible refine KD.bind ?_ ?_|intro _|split)
theorem KD.setField(v:Uq)(i:Nat)(x:Uq):KD (setField v i x):=by unfold Su updateField;repeat (first|exact trivial|exact⟨pP _,trivial⟩|exact λ_=>trivial|with_reducible refine KD.bind ?_ ?_|intro _|split)
theorem KD.flight(e:Uq)(f:Option Ur):KD (setFlight e f):=by unfold setFlight;repeat (first|exact trivial|exact KD.field _ _|exact KD.setField _ _ _|with_reducible refine KD.bind ?_ ?_|intro _|split)
theorem KD.ready:∀l:List Env,KD (readyFrames l)
 |[]=>trivial
 |env::outer=>by have ih:=KD.ready outer;unfold readyFrames behindIsImport keptBack;repeat (first|exact trivial|exact ih|exact KD.field _ _|exact⟨λ_=>rfl,trivial⟩|exact λ_=>trivial|with_reducible refine KD.bind ?_ ?_|intro _|split)
theorem KD.frameOf(env:Env):KD (Oz env):=by have h1:=KD.ready;unfold Oz frameObject frameEnvs;repeat (first|exact trivial|exact h1 _|exact λ_=>trivial|with_reducible refine KD.bind ?_ ?_|intro _|split)
theorem KD.place(f:Ur)(b:Bool):KD (Qp f b):=by unfold Qp;repeat (first|exact trivial|exact λ_=>trivial|with_reducible refine KD.bind ?_ ?_|intro _|split)
theorem KD.entry(a b c d e:Uq)(l:List Uq):KD (Oa a b c d e l):=by show KD (if _ then unsupported _>>=λ_=>Te _ _ _ else Te _ _ _);have h:∀x:Data,KD (Te (.type "traceback") x none):=λx=>λ_=>trivial;repeat (first|exact trivial|exact h _|split)
theorem KD.note(e:Uq)(env:Env):KD (Mr e env):=by have h2:∀head f,KD (Oz env>>=λa=>Qp f (head != .none)>>=λpl=>Oa head a .none (rawInt f) .none pl>>=λb=>Su e 1 b):=λ_ _=>KD.bind (KD.frameOf _) λ_=>KD.bind (KD.place _ _) λ_=>KD.bind (KD.entry _ _ _ _ _ _) λ_=>KD.setField _ _ _;unfold Mr;repeat (first|exact trivial|exact h2 _ _|exact KD.field _ _|exact KD.setField _ _ _|exact λ_=>h2 _ _|with_reducible refine KD.bind ?_ ?_|intro _|split)
theorem KD.leave(e:Uq)(env:Env):KD (leaving env e):=KD.bind (KD.note e env) λ_=>KD.flight e none
end L2
namespace L2
open PySem PySem.Spec PyProof.Rows PySem.W PySem.Builtin PySem.Builtin.ObjectAttr
noncomputable abbrev vbs:List Uq:=[.type "ValueError",.type "Exception",.type "BaseException",.type "object"]
structure XA(K:Ai)(C:Ur):Prop where
 mro:W.mroIn K C (.type "object")=some true
 cls:Ri K (.ref C) "__class__"=some (some (.builtin "object.__class__"))
 get:W.specialIn K (.builtin "object.__class__") "__get__"=some (some (.builtin "getset_descriptor.__get__"))
 tak:W.takesIn K (.builtin "object.__class__")=some true
 ga:Ri K (.ref C) "__getattribute__"=some (some (.builtin "BaseException.__getattribute__"))
 no:Ri K (.ref C) "__getattr__"=some none
 sub:Qa K (.ref C) (.type "BaseException")=some true
structure XG(K:Vj)(C Cp:Ur)(nm:Uw):Prop where
 mro:∃cd,clsIn K C=some cd/\cd.mro=.ref C:: .ref Cp::vbs/\cd.hasDict=true
 non:findIn K (.ref C) nm=some none
 set:findIn K (.ref C) "__setattr__"=some (some (.builtin "object.__setattr__"))
noncomputable def xgOk(K:Vj)(C Cp:Ur):Bool:=match clsIn K C with
 |some cd=>cd.mro== .ref C:: .ref Cp::vbs&&cd.hasDict
 |none=>false
theorem XG.of{K:Vj}{C Cp:Ur}{nm:Uw}(h:xgOk K C Cp=true)(a:findIn K (.ref C) nm=some none)(b:findIn K (.ref C) "__setattr__"=some (some (.builtin "object.__setattr__"))):XG K C Cp nm:=by
 unfold xgOk at h;split at h
 ·rename_i cd hc
  simp only[Ae,beq_iff_eq] at h;exact⟨⟨cd,hc,h.1,h.2⟩,a,b⟩
 ·cases h
section
variable{prog:Av}{w:Uy}{A:Br}{E:Uq->Ad->Prop}{s:Ad}{K:Vj}{x C Cp:Ur}{nm:Uw}{vs:Array Uq}{sl:Array (Option Uq)}{v:Uq}
theorem mQ{Q:Unit->Ad->Prop}(X:K.In s.heap)(hx:s.heap.get? x=some ⟨.ref C,none,.fields vs,sl⟩)(F:XG K C Cp nm)(h:∀h' D tk,(∀b o,b≠x->s.heap.get? b=some o->h'.get? b=some o)->s.heap.objs.size<=D->D≠x->h'.get? x=some ⟨.ref C,some D,.fields vs,sl⟩->h'.Ns1 D (λy=>if y=nm then some v else none)->Q () {s with heap:=h',toks:=tk}):Ut (Uv prog w) A (setAttr (.ref x) nm v) Q E s:=by
 obtain⟨hh,g,d,t,os⟩:=s;obtain⟨cd,hc,hm,hd⟩:=F.mro;have SF:=PySem.F.store_ValueError;have SO:=PySem.F.store_object;have L0:Looks (Uv prog w) hh (Nl (.ref x)) (.ref C):=(Nd hx).andThen .now;have L1:=Ho (M:=Uv prog w) X F.set;have L2:=Ho (M:=Uv prog w) X F.non;have L3:Looks (Uv prog w) hh (mroOf (.ref C)) cd.mro:=(looks_clsIn X hc).andThen .now;have L4:=looks_clsIn (M:=Uv prog w) X hc;have sub:Looks (Uv prog w) hh (Lc (.ref x) (.type "object")) true:=L0.andThen (looks_mroIn X (by unfold mroIn;rw[hc,Af,hm];rfl));unfold setAttr;refine Aa (Qq (Aa (Aa (Aa (L0.at (L1.at (Bo (Aa ?_))))))));rw[SO.slot.bind];refine Ag (Aa (Hl ?_));refine Ft SO.slot.plain SO.entry (@check_slot (Uv prog w) _ _ _ "object.__setattr__" "object" "__setattr__" (.ref x) [.str nm t,v] [] _ SO.kind SO.split sub (SO.args (.ref x) (.str nm t) v) ?_);show Ut (Uv prog w) A.in1 (Dq.«object.__setattr__» ⟨[.ref x,.str nm t,v],[]⟩) _ _ ⟨hh,g,d,t+1,os⟩;rw[osa_eq,refuse_eq];refine Aa (Aa (L0.at (Aa (L3.at ?_))));rw[hm,refuseLoop_ref,refuseLoop_ref,SF.passes];refine Ag (Aa (L0.at (Aa (L2.at (Aa (Ag ?_))))));show Ut (Uv prog w) A.in1 (storeInOwnDict (.ref x) (.ref C) (.str nm t) nm v false) _ _ _;refine Aa (Ag (Aa ?_));show Ut (Uv prog w) A.in1 (instanceDict x true) _ _ _;unfold instanceDict;refine Aa (Nr hx ?_);dsimp only;refine Aa (L4.at ?_);rw[hd];have hxs:x≠hh.objs.size:=Aw (Aj hx);have hx1:=Ac {cls:=.type "dict",data:=.dict #[]} hx;show Ut (Uv prog w) A.in1 (alloc {cls:=.type "dict",data:=.dict #[]}>>=_) _ _ _;refine Aa (wpAny_alloc (Aa (wpAny_update hx1 ?_)));show Ut (Uv prog w) A.in1 (pure (some hh.objs.size)) _ _ _;refine Ag ?_;show Ut _ _ (storeInDict hh.objs.size (.str nm t) nm v) _ _ _;have hgd:((hh.push {cls:=.type "dict",data:=.dict #[]}).update x λo=>{o with dict:=some hh.objs.size}).get? hh.objs.size=some {cls:=.type "dict",data:=.dict #[]}:=
  (Go _ _ hxs).trans (Heap.get?_push_at rfl rfl)
 have hgx:((hh.push {cls:=.type "dict",data:=.dict #[]}).update x λo=>{o with dict:=some hh.objs.size}).get? x=some ⟨.ref C,some hh.objs.size,.fields vs,sl⟩:=Jh _ hx1 rfl;have hnd:((hh.push {cls:=.type "dict",data:=.dict #[]}).update x λo=>{o with dict:=some hh.objs.size}).Ns hh.objs.size (λ_=>none):=⟨_,#[],_,hgd,rfl,λe he=>absurd he (by simp),λ_=>rfl⟩;unfold storeInDict newKeyGuard;refine Aa (Ag (Aa (wpAny_nsSet1 (Heap.Ns1.of_empty hnd) λh' hn' hs=>?_)));obtain⟨oD,esD,epD,hoD,hdD,hcD⟩:=hn'.count (Within.cons nm v Within.nil);refine Aa (wpAny_lookBehind hoD (by rw[hdD];exact pastItsLine_dict (Dh hcD (by show 1<=_;rw[Bt];lia))) ?_);exact Ag (Ag (Ag (h h' hh.objs.size _ (λb o hb q=>(hs.2 b (Aw (Aj q))).trans ((Go _ _ (Dk hb)).trans (Ac _ q))) (Am _) hxs.symm ((hs.2 x hxs).trans hgx) hn')))
theorem Zl{ox:Vc}{D:Ur}{mA:Uw->Option Uq}{Q:Uq->Ad->Prop}{ko:Bool}(X:K.In s.heap)(hx:s.heap.get? x=some ox)(hcl:ox.cls=.ref C)(hf:ox.data=.fields vs)(hdi:ox.dict=some D)(hD:s.heap.Ns1 D mA)(hv:mA nm=some v)(hh:handedIn v=true)(F:XG K C Cp nm)(G:XA K C)(h:Q v {s with toks:=s.toks+1}):Ut (Uv prog w) A (getAttr (.ref x) nm ko) Q E s:=by
 obtain⟨hp,g,d,t,os⟩:=s;obtain⟨cd,hc,hm,hd⟩:=F.mro;obtain⟨oD,e1,e5⟩:=LQ hD;have I:InstAt hp x ox C (some oD):=⟨hx,hcl,by unfold notCls;rw[hf],by rw[hdi];exact e1⟩;have L0:Looks (Uv prog w) hp (Nl (.ref x)) (.ref C):=hcl▸(Nd hx).andThen .now;have L1:=Ho (M:=Uv prog w) X G.ga;have L2:=Ho (M:=Uv prog w) X G.no;have L3:=looks_subIn (M:=Uv prog w) X G.sub;have LF:Looks (Uv prog w) hp (find (.ref x) (.ref C) nm) (.value v):=looks_find X I (by unfold findObj;rw[hc,Af,F.non,Af];dsimp only;rw[Af,Af];dsimp only;unfold W.ownOf;rw[hd,if_pos rfl];show(lookIn nm oD).bind _=_;rw[e5,hv];rfl)
 have fb:=PySem.F.excAttr_ValueError.ga.bind (.ref x);have hk:builtinKind "BaseException.__getattribute__"=some .slot:=by decide+kernel
 have hs:splitId "BaseException.__getattribute__"=some ("BaseException","__getattribute__"):=by decide+kernel
 have ha:=Ng (.ref x) (.str nm t);unfold getAttr getAttrBy;refine Aa (Qq (Bo (Aa (L0.at (Aa (L1.at ?_))))));show Ut _ _ (Kb _ _ _ _ _ _) _ _ _;unfold Kb hookBefore callGetattribute boundAndCalled;repeat (any_goals (first|assumption|with_reducible refine Looks.at L0 ?_|with_reducible refine Looks.at L2 ?_|wp_step))
 rw[show(ko&&onTheHeap (Pa "BaseException.__getattribute__"))=false by cases ko<;>rfl,fb,if_neg (by decide)];refine Aa (Ag (Hl (Ft PySem.F.excAttr_ValueError.ga.plain My (Aq (Q:=λ_ s'=>s'=⟨hp,g,d,t+1,os⟩) ?_ (λ_ s' z=>?_) λ_ _ z=>z))))
 ·show Ut _ _ (Jj "BaseException.__getattribute__" ⟨[.ref x,.str nm t],[]⟩) _ _ _
  simp only[Jj,hk,hs];unfold Lc;repeat (any_goals (first|rfl|assumption|with_reducible refine PySem.W.Looks.at L0 ?_|with_reducible refine PySem.W.Looks.at L3 ?_|wp_step))
 ·subst z
  show Ut _ _ (Dq.«object.__getattribute__» ⟨[.ref x,.str nm t],[]⟩) _ _ _;unfold Dq.«object.__getattribute__»;repeat (any_goals (first|assumption|with_reducible refine Looks.at L0 ?_|with_reducible refine Looks.at LF ?_|wp_step))
  exact handed_on hh h
end
structure XH(K:Vj)(Cp:Ur):Prop where
 met:specialIn K (.ref Cp) "__getattribute__"=some (some (.builtin "type.__getattribute__"))
 rd:readsIn K Cp (.type "type")=true
 ini:findCls K (.ref Cp) (.type "type") "__init__"=some (.val (.builtin "ValueError.__init__"))
section
variable{prog:Av}{w:Uy}{A:Br}{E:Uq->Ad->Prop}{s:Ad}{K:Vj}{x C Cp N:Ur}{nm q:Uw}{v:Uq}{bs bm:List Uq}{hdct:Bool}{sn:List Uw}{sub:List Uq}{ab:Bool}{col:Option Bool}{dd:Option Ur}{k0 k1 k2 k3 k5:Option Uq}{cn:Uw}
noncomputable abbrev PR(C t:Ur)(d:Option Ur):Vc:={cls:=.ref C,dict:=d,data:=.fields #[.ref t,.none,.none,.none,.bool false,.none]}
theorem nH{t0:Ur}{u:Uq}{Q:Uq->Ad->Prop}(hC:s.heap.get? C=some (Gs cn q C N bs bm hdct sn sub ab col dd k0 k1 k2 k3 k5 "ValueError.__new__"))(T:Ob s.heap vbs bm)(hx:s.heap.get? x=some (PR C t0 none))(h:∀h' t1,(∀b o,b≠x->s.heap.get? b=some o->h'.get? b=some o)->s.heap.objs.size<=h'.objs.size->s.heap.get? t1=none->h'.get? x=some (PR C t1 none)->Q .none {s with heap:=h'}):Ut (Uv prog w) A (call (.builtin "ValueError.__init__") [.ref x,u]) Q E s:=by
 obtain⟨hh,g,d,t,os⟩:=s;have F:=Hc;refine Hl (Ft F.init.plain F.initEntry (wpAny_check_init_subT F T hC hx rfl ?_));wp_walk;have hxs:x≠hh.objs.size:=Aw (Aj hx);refine h _ hh.objs.size (λb o hb q=>?_) ?_ (Jk (Am _)) ?_
 ·rw[Go _ _ (Dk hb)]
  exact Ac _ q
 ·rw[Qz,Cg];exact Dx _
 ·exact Jh _ (Ac _ hx) rfl
variable{env:Env}{m mg:Uw->Option Uq}{txt:Uw}{j:Nat}{p1 p2 p3 p4 p5 p6 p7 p8 p9 p10:Pos}
theorem lK{t0:Ur}{u:Uq}{pl:Vk Bool}{Q:Flow->Ad->Prop}(hk:env.scope.kind=.function)(hs:env.kindOf "self"=some .local)(hn:env.kindOf nm=some .local)(hg:env.kindOf "PackError"=some .globalImplicit)(L:s.heap.Ns env.locals m)(m1:m "self"=some (.ref x))(m2:m nm=some u)(G:s.heap.Ns env.globals mg)(g1:mg "PackError"=some (.ref Cp))(hne:env.locals≠x)(hng:env.globals≠x)(X:K.In s.heap)(XI:∀h':Va,(∀b o,b≠x->s.heap.get? b=some o->h'.get? b=some o)->K.In h')(hC:s.heap.get? C=some (Gs cn q C N bs bm hdct sn sub ab col dd k0 k1 k2 k3 k5 "ValueError.__new__"))(hCx:C≠x)(T:Ob s.heap vbs bm)(hx:s.heap.get? x=some (PR C t0 none))(F:XG K C Cp nm)(W:XH K Cp)(he:eval (.Call (.Attribute (.Name "PackError" p1) "__init__" p2) [.Name "self" p3,.Constant (.str txt) j p4] [] p5) env=(do
   let ov<-eval (.Name "PackError" p1) env
   Ml p2.atName
   let (f,first)<-Ti [ov] (getMethod ov "__init__" pl)
   Pb p5 f first (Dv p5 (Us [.Name "self" p3,.Constant (.str txt) j p4] env)) (Ic p5 (Fe [] env))))
  (hw1:Ve (.Call (.Attribute (.Name "PackError" p1) "__init__" p2) [.Name "self" p3,.Constant (.str txt) j p4] [] p5) none p6.line env=pure false) (hw2:Ve (.Name nm p9) (some (.Attribute (.Name "self" p7) nm p8)) p10.line env=pure false)
  (hdb:(nm==("__debug__":Uw))=false)
  (h:∀h' t1 D tk,(∀b o,b≠x->s.heap.get? b=some o->h'.get? b=some o)->s.heap.get? t1=none->s.heap.objs.size<=D->h'.get? x=some (PR C t1 (some D))->h'.Ns1 D (λy=>if y=nm then some u else none)->D≠x->Q .next {s with heap:=h',toks:=tk}):
  Ut (Uv prog w) A (execs [.Expr (.Call (.Attribute (.Name "PackError" p1) "__init__" p2) [.Name "self" p3,.Constant (.str txt) j p4] [] p5) p6,.Assign [.Attribute (.Name "self" p7) nm p8] (.Name nm p9) p10] env) Q E s:=by
 refine Lw (wpAny_Expr_any ?_ (by simp[Rs,hk]) hw1);refine methodCall_KW (pl:=pl) (Ha hk hg (Lj G g1 ?_)) he;refine method_cls X W.met (cls_value X W.rd W.ini (by decide+kernel) ?_);refine Fh rfl (Eg (x:=eval (.Name "self" p3) env) (rest:=[(false,eval (.Constant (.str txt) j p4) env)]) ?_);refine Ee (Kw (Hd hk hs L m1 ?_));refine Ee (Oh (Fy ?_));refine nH hC T hx λh1 t1 k1 z1 n1 x1=>?_;refine Lw (plainObj_wpAny_Assign_Attribute ?_ hw2);have L1:h1.Ns env.locals m:=by obtain⟨o,es,ep,e,r⟩:=L;exact⟨o,es,ep,k1 _ _ hne e,r⟩
 refine Kw (Hd hk hn L1 m2 ?_) hdb;refine Kw (Hd hk hs L1 m1 ?_);refine mQ (XI h1 k1) x1 F λh2 D tk k2 nD neD x2 nsD=>Hv (h h2 t1 D tk (λb o hb q=>k2 b o hb (k1 b o hb q)) n1 (Dh z1 nD) x2 nsD neD)
structure KS(K:Vj)(qual:Uw)(st:Vd)(nm txt:Uw)(f:Ur)(fd:Df):Prop where
 fn:YZ K "__init__" qual st f fd
 sc:cG ["self",nm] ["self",nm] (cU st)
 bd:U5 K fd ["self",nm] []
 s1:(cU st).names.lookup ("self":Uw)=some .local
 s2:(cU st).names.lookup nm=some .local
 s3:(cU st).names.lookup ("PackError":Uw)=some .globalImplicit
 ne:(nm==("self":Uw))=false
 db:(nm==("__debug__":Uw))=false
 tx:∃(p1 p2 p3 p4 p5 p6 p7 p8 p9 p10:Pos) (j:Nat) (pl:Ur->Uq->Vk Bool),aT st=[.Expr (.Call (.Attribute (.Name "PackError" p1) "__init__" p2) [.Name "self" p3,.Constant (.str txt) j p4] [] p5) p6,.Assign [.Attribute (.Name "self" p7) nm p8] (.Name nm p9) p10]∧
  (∀L cd,eval (.Call (.Attribute (.Name "PackError" p1) "__init__" p2) [.Name "self" p3,.Constant (.str txt) j p4] [] p5) (envOfC qual (cU st) L f cd)=(do
   let ov<-eval (.Name "PackError" p1) (envOfC qual (cU st) L f cd)
   Ml p2.atName
   let (f1,first)<-Ti [ov] (getMethod ov "__init__" (pl L cd))
   Pb p5 f1 first (Dv p5 (Us [.Name "self" p3,.Constant (.str txt) j p4] (envOfC qual (cU st) L f cd))) (Ic p5 (Fe [] (envOfC qual (cU st) L f cd)))))∧
  (∀L cd,Ve (.Call (.Attribute (.Name "PackError" p1) "__init__" p2) [.Name "self" p3,.Constant (.str txt) j p4] [] p5) none p6.line (envOfC qual (cU st) L f cd)=pure false)/\∀L cd,Ve (.Name nm p9) (some (.Attribute (.Name "self" p7) nm p8)) p10.line (envOfC qual (cU st) L f cd)=pure false
theorem eV{qual:Uw}{st:Vd}{fI:Ur}{fd:Df}{t0:Ur}{u:Uq}{R:Oj->Ad->Prop}(j5:A.depth<Ez)(I:KS K qual st nm txt fI fd)(X:K.In s.heap)(Xx:K.lookup x=none)(lim:s.heap.NoLimit)(G:s.heap.Ns Uu mg)(g1:mg "PackError"=some (.ref Cp))(hC:s.heap.get? C=some (Gs cn q C N bs bm hdct sn sub ab col dd k0 k1 k2 k3 k5 "ValueError.__new__"))(T:Ob s.heap vbs bm)(hx:s.heap.get? x=some (PR C t0 none))(F:XG K C Cp nm)(W:XH K Cp)(h:∀h' t1 D tk,(∀b o,b≠x->s.heap.get? b=some o->h'.get? b=some o)->s.heap.get? t1=none->s.heap.objs.size<=D->h'.get? x=some (PR C t1 (some D))->h'.Ns1 D (λy=>if y=nm then some u else none)->D≠x->R (.ok (.ret .none)) {s with heap:=h',toks:=tk}):Fd (Uv prog w) A (.call (.ref fI) ⟨[.ref x,u],[]⟩) R s:=by
 obtain⟨oc,od,kV,doc,pm,an,cdv,ct,osl,rfl,lk,hcd⟩:=I.fn.ex;have g0:∀y∈(["self",nm]:List Uw).zip [Ba x,u],(cU st).names.lookup y.1=some .local∨((cU st).names.lookup y.1=some .cell/\((Vf (s.heap.objs.size+1) (cU st).names []).lookup y.1).isSome=true):=λ⟨n,v⟩ hy=>by
  rcases I.sc.par n (Ia hy).1 with q|q
  ·exact .inl q
  ·exact .inr ⟨q,PySem.W.cellsFrom_some _ _ _ (.inl q)⟩
 have hb:=I.bd s [.ref x,u] X rfl;refine Jd j5 (X _ _ lk) rfl I.sc.co I.sc.gen rfl (PySem.W.codeRec_of X hcd) (hb _ _ _ _ ?_);refine Hb I.sc.kind g0 λenv he s1 xc=>?_;subst he;refine⟨lim.keeps xc.toInCall.keep,Qk ?_⟩;obtain⟨p1,p2,p3,p4,p5,p6,p7,p8,p9,p10,j,pl,ap,h1,h2,h3⟩:=I.tx;have kp:=xc.toInCall.keep;obtain⟨hh,tk0,e1⟩:=xc.toInCall.same;subst e1;show Ut _ _ (execs (aT st) (envOfC qual (cU st) s.heap.objs.size fI cdv)) _ _ _;rw[ap];have q1:(envOfC qual (cU st) s.heap.objs.size fI cdv).kindOf "self"=some .local:=I.s1;have q2:(envOfC qual (cU st) s.heap.objs.size fI cdv).kindOf nm=some .local:=I.s2;refine lK (m:=bindL (envOfC qual (cU st) s.heap.objs.size fI cdv).kindOf ((["self",nm]:List Uw).zip [Ba x,u]) λ_=>none) (mg:=mg) (x:=x) (u:=u) (Cp:=Cp) (K:=K) I.sc.kind I.s1 I.s2 I.s3 xc.toInCall.ns ?_ ?_ (G.keeps kp) g1 ?_ ?_ (X.keeps kp) ?_ (kp _ _ hC) ?_ (T.keeps kp) (kp _ _ hx) F W (h1 _ _) (h2 _ _) (h3 _ _) I.db ?_
 ·simp only[Pc,Pd,bindL,q1,q2,if_pos]
  rw[if_neg (λz=>by have:=I.ne;rw[<-z] at this;simp at this)]
 ·simp only[Pc,Pd,bindL,q1,q2,if_pos]
 ·exact λz=>absurd (Aj hx) (by rw[show x=s.heap.objs.size from z.symm];exact Bq _)
 ·intro z
  obtain⟨o,es,ep,e1,e2,_⟩:=G;rw[show Uu=x from z,hx] at e1;cases e1;cases e2
 ·intro h' k b o e
  exact k b o (λz=>by rw[z,Xx] at e;cases e) (X.keeps kp b o e)
 ·intro z
  rw[z,hx] at hC;cases hC
 ·intro h' t1 D tk c1 c2 c3 c4 c5 c6
  have out:∀b,hh.get? b=none->s.heap.get? b=none:=λb z=>by
   cases e:s.heap.get? b with
   |none=>rfl
   |some o=>
    have:=kp b o e;rw[show hh.get? b=none from z] at this;cases this
  have big:s.heap.objs.size<=hh.objs.size:=by obtain⟨o,es,ep,e,_⟩:=xc.toInCall.ns;exact Mk (Op xc.toInCall.fresh (Aj e))
  exact h h' t1 D tk (λb o hb q=>c1 b o hb (kp b o q)) (out _ c2) (Dh big c3) c4 c5 c6
end
structure CV(h h':Va)(e C:Ur)(nm:Uw)(u:Uq):Prop where
 keeps:∀b o,h.get? b=some o->h'.get? b=some o
 new:h.get? e=none
 there:∃t D,h'.get? e=some (PR C t (some D))/\h.get? t=none/\h.objs.size<=D/\D≠e/\h'.Ns1 D (λy=>if y=nm then some u else none)
section
variable{prog:Av}{w:Uy}{A:Br}{E:Uq->Ad->Prop}{s:Ad}{K:Vj}{C Cp N:Ur}{nm q:Uw}{v:Uq}{bs bm:List Uq}{hdct:Bool}{sn:List Uw}{sub:List Uq}{ab:Bool}{col:Option Bool}{dd:Option Ur}{k0 k1 k2 k3 k5:Option Uq}{cn qual txt:Uw}
 {mN mg:Uw->Option Uq} {fI:Ur} {st:Vd} {fd:Df} {u:Uq}
theorem BB{Q:Fin->Ad->Prop}(dep:A.depth+1<Ez)(hK:K.In s.heap)(lim:s.heap.NoLimit)(G:s.heap.Ns Uu mg)(g1:mg "PackError"=some (.ref Cp))(oC:s.heap.get? C=some (Gs cn q C N bs bm hdct sn sub ab col dd k0 k1 k2 k3 k5 "ValueError.__new__"))(nN:s.heap.Ns N mN)(iN:mN "__init__"=some (.ref fI))(fT:typeIn K (.ref fI)=some (.type "function"))(tl:Ob s.heap vbs bm)(I:KS K qual st nm txt fI fd)(P:XG K C Cp nm)(W:XH K Cp)(h:∀h' e tk,CV s.heap h' e C nm u->Q (.done (.ret (.ref e))) {s with heap:=h',toks:=tk}):Ut (Uv prog w) A (Dq.«type.__call__» ⟨[.ref C,u],[]⟩) Q E s:=by
 obtain⟨hh,g,d,t,os⟩:=s;have B:=Hc;repeat (first|with_reducible refine Gz oC ?_|with_reducible refine wpAny_madeBy_exc oC ?_|wp_step)
 refine codeAny_call_builtin_code (Kn _ B.quiet) (wpAny_check_new_subT B tl oC (codeAny_exc_new_subT B tl oC ?_ (by show 1<=sizeLine;decide)));have kp:∀b o,hh.get? b=some o->((hh.push {cls:=.type "tuple",data:=.seq [u].toArray}).push (PR C hh.objs.size none)).get? b=some o:=λb o e=>Ac _ (Ac _ e);have gx:((hh.push {cls:=.type "tuple",data:=.seq [u].toArray}).push (PR C hh.objs.size none)).get? (hh.objs.size+1)=some (PR C hh.objs.size none):=by heap_get
 have cC:(Ba C::bm).contains (.ref C)=true:=by simp
 have oC1:=kp _ _ oC;show Ut _ _ _ _ _ _;unfold Lc;repeat (first|with_reducible refine Gz gx ?_|(with_reducible refine Od oC1 ?_;rw[cC])|wp_step)
 show Ut _ _ (typeLookup (.ref C) _) _ _ _;refine wpAny_typeLookup_tail oC1 (nN.keeps kp) (tl.keeps kp) B.mroIs B.init.lookup ?_;rw[iN];refine Bo (Aa ((bind_fn (hK.keeps kp) _ fT).here (Aa (Hl ?_))));have i7:∀b,hh.objs.size<=b->hh.get? b=none:=λb z=>Jk z;have Xx:K.lookup (hh.objs.size+1)=none:=by
  cases e:K.lookup (hh.objs.size+1) with
  |none=>rfl
  |some o=>
   have:=hK _ _ e;rw[show(⟨hh,g,d,t,os⟩:Ad).heap.get? (hh.objs.size+1)=none from i7 _ (Dx _)] at this;cases this
 have back:∀b,((hh.push {cls:=.type "tuple",data:=.seq [u].toArray}).push (PR C hh.objs.size none)).get? b=none->hh.get? b=none:=λb z=>by
  cases e:hh.get? b with
  |none=>rfl
  |some o=>rw[kp b o e] at z;cases z
 refine eV (x:=hh.objs.size+1) (u:=u) (C:=C) (mg:=mg) (Nat.lt_of_succ_lt dep) I (hK.keeps kp) Xx (lim.keeps kp) (G.keeps kp) g1 oC1 (tl.keeps kp) gx P W λh' t1 D tk c1 c2 c3 c4 c5 c6=>Ag ?_;show Ut _ _ (ret _) _ _ _;refine Ag (h h' (hh.objs.size+1) tk ⟨λb o e=>c1 b o (Aw (Ld (Aj e))) (kp b o e),i7 _ (Dx _),t1,D,c4,back _ c2,Dh (by rw[Cg,Cg];exact Qb (Dx _)) c3,c6,c5⟩)
theorem lM{Q:Uq->Ad->Prop}(dep:A.depth+2<Ez)(hK:K.In s.heap)(lim:s.heap.NoLimit)(G:s.heap.Ns Uu mg)(g1:mg "PackError"=some (.ref Cp))(oC:s.heap.get? C=some (Gs cn q C N bs bm hdct sn sub ab col dd k0 k1 k2 k3 k5 "ValueError.__new__"))(nN:s.heap.Ns N mN)(iN:mN "__init__"=some (.ref fI))(fT:typeIn K (.ref fI)=some (.type "function"))(tl:Ob s.heap vbs bm)(I:KS K qual st nm txt fI fd)(P:XG K C Cp nm)(W:XH K Cp)(h:∀h' e tk,CV s.heap h' e C nm u->Q (.ref e) {s with heap:=h',toks:=tk}):Ut (Uv prog w) A (call (.ref C) [u]) Q E s:=by
 obtain⟨hh,g,d,t,os⟩:=s;have f1:=tc_lookup;have f2:=tc_bind (.ref C);have hT:(⟨hh,g,d,t,os⟩:Ad).TypeIs (.ref C) "type":=⟨_,oC,rfl⟩;refine Hl (Mz (show Ut _ _ (callAny (.ref C) _) _ _ _ from ?_));repeat (any_goals (first|assumption|with_reducible refine Gz oC ?_|wp_step))
 refine⟨rfl,codeAny_call_builtin_at (Kn _ (by decide+kernel)) entry_typeCall (wpAny_check_type_call_sub oC ?_)⟩;exact BB (mg:=mg) (by show A.depth+(Uc "type.__call__" ⟨[Ba C,u],[]⟩).weight+1<Ez;rw[show(Uc "type.__call__" ⟨[Ba C,u],[]⟩).weight=1 by kernel_rfl];exact dep) hK lim G g1 oC nN iN fT tl I P W λh' e tk M=>h h' e tk M
theorem BA{x:Uw}{np af pos:Pos}{args:List Ux}{env:Env}{Q:Flow->Ad->Prop}(hb:bm.contains (.type "BaseException")=true)(hh:A.handled=none)(dep:A.depth+2<Ez)(pl:(Dv af (Us args env)).any (·.1)=false)(h:Ut (Uv prog w) A (eval (.Name x np) env) (λf s₁=>f=.ref C/\Ut (Uv prog w) A (evalArgs (.ref C) true (Dv af (Us args env)) []) (λa s₂=>∃u,a=⟨[u],[]⟩/\K.In s₂.heap/\s₂.heap.NoLimit/\s₂.heap.Ns Uu mg/\mg "PackError"=some (.ref Cp)/\s₂.heap.get? C=some (Gs cn q C N bs bm hdct sn sub ab col dd k0 k1 k2 k3 k5 "ValueError.__new__")/\s₂.heap.Ns N mN/\mN "__init__"=some (.ref fI)/\typeIn K (.ref fI)=some (.type "function")/\Ob s₂.heap vbs bm∧KS K qual st nm txt fI fd/\XG K C Cp nm/\XH K Cp/\∀h' e tk,CV s₂.heap h' e C nm u->E (.ref e) {s₂ with heap:=h',toks:=tk}) E s₁) E s):Ut (Uv prog w) A (exec (.Raise (some (.Call (.Name x np) args [] af)) none pos) env) Q E s:=by
 rw[arm_exec_Raise];simp only[evalOpt,Up];refine Aa (Dd ?_);unfold raiseStmt;have cB:(Ba C::bm).contains (.type "BaseException")=true:=by rw[List.contains_cons,hb,Bool.or_true]
 refine Aa (Aq (Q:=λv s₁=>∃e t D,v=.ref e/\s₁.heap.get? C=some (Gs cn q C N bs bm hdct sn sub ab col dd k0 k1 k2 k3 k5 "ValueError.__new__")/\s₁.heap.get? e=some (PR C t D)/\E (.ref e) s₁) (Aa (Aq (wpAny_Call_ofName (Aq h (λf s₁ h₁=>?_) λ_ _ x=>x)) (λv s₃ h₃=>Aa (Dd (Ag h₃))) λ_ _ x=>x)) (λv s₁ z=>?_) λ_ _ z=>z)
 ·obtain⟨rfl,h₁⟩:=h₁
  unfold Pb;refine Aa (Bo (Aq h₁ (λa s₂ z=>Aa (Dd ?_)) λ_ _ x=>x));obtain⟨u,rfl,hK,lim,G,g1,oC,nN,iN,fT,tl,I,P,W,z⟩:=z;obtain⟨hp,g,d,tk,os⟩:=s₂;simp only[pl];refine Aa (wpAny_keeperOf_exc oC (Aa (lM (mg:=mg) dep hK lim G g1 oC nN iN fT tl I P W λh' e tk M=>Aa (Bo (wpAny_point (Ag ?_))))));obtain⟨t,D,y1,_⟩:=M.there;exact⟨e,t,some D,rfl,M.keeps _ _ oC,y1,z h' e tk M⟩
 ·obtain⟨e,t,D,rfl,oC,oe,hE⟩:=z
  obtain⟨hp,g,d,tk,os⟩:=s₁;repeat (first|with_reducible refine Gz oe ?_|with_reducible refine Gz oC ?_|(with_reducible refine Od oC ?_;rw[cB])|wp_step)
  exact wpAny_raiseNew_none hh hE
end
end L2
namespace L2
open PySem PySem.Spec PyProof.Rows
theorem MU(elt tg1 it1 tg2 it2:Ux)(aw aj:List Ux)(scope:Vg)(pos:Pos)(it acc:Uq)(env:Env):Rl (.ListComp elt [⟨tg1,it1,aw,0⟩,⟨tg2,it2,aj,0⟩] scope pos) 0 it acc env=(do
   Ml it1.pos
   match<-pyNext it with
   |none=>pure (.done .next)
   |some v=>
    Fb tg1 it v
    Fv tg1 env v
    let mut ok:=true
    for c in aw do
     if ok then ok<-isTrue c env (eval c env)
    if ok then
     let x<-eval it2 env
     Ml it2.pos
     let x<-Vb it2 env x
     let _<-runOwn (.compStart (.ListComp elt [⟨tg1,it1,aw,0⟩,⟨tg2,it2,aj,0⟩] scope pos) 1 (<-Ti [x] (Ru x)) acc env) env
    Sc (.compLoop (.ListComp elt [⟨tg1,it1,aw,0⟩,⟨tg2,it2,aj,0⟩] scope pos) 0 it acc env)):=by rfl
theorem MV(elt tg1 it1 tg2 it2:Ux)(aw aj:List Ux)(scope:Vg)(pos:Pos)(it acc:Uq)(env:Env):Rl (.ListComp elt [⟨tg1,it1,aw,0⟩,⟨tg2,it2,aj,0⟩] scope pos) 1 it acc env=(do
   Ml it2.pos
   match<-pyNext it with
   |none=>pure (.done .next)
   |some v=>
    Fb tg2 it v
    Fv tg2 env v
    let mut ok:=true
    for c in aj do
     if ok then ok<-isTrue c env (eval c env)
    if ok then
     (do let _<-call (.builtin "list.append") [acc,<-eval elt env])
    Sc (.compLoop (.ListComp elt [⟨tg1,it1,aw,0⟩,⟨tg2,it2,aj,0⟩] scope pos) 1 it acc env)):=by rfl
theorem E3{prog:Av}{w:Uy}{A:Br}{s:Ad}{elt tg1 it1 tg2 it2:Ux}{aw aj:List Ux}{scope:Vg}{pos:Pos}{it acc:Uq}{env:Env}{R:Oj->Ad->Prop}(I:Nat->Ad->Prop)(turn:∀n s,I n s->Ut (Uv prog w) A (pyNext it) (λr s₁=>match r with
   |none=>R (.ok .next) s₁
   | some v => Ut (Uv prog w) A (Fb tg2 it v) (λ_ s₀ => Ut (Uv prog w) A (Fv tg2 env v) (λ_ s₂ =>
     Ut (Uv prog w) A (forIn aj true λc r=>if r=true then do let ok<-isTrue c env (eval c env);pure (Cw ok) else pure (Cw r)) (λok s₃=>if ok=true then Ut (Uv prog w) A (eval elt env) (λx s₄=>
      Ut (Uv prog w) A (call (.builtin "list.append") [acc,x]) (λ_ s₅=>∃m,m<n/\I m s₅) (λ_ _=>False) s₄) (λ_ _=>False) s₃
      else∃m,m<n/\I m s₃) (λ_ _=>False) s₂)
     (λ_ _=>False) s₀) (λ_ _=>False) s₁) (λ_ _=>False) s)
  (n:Nat) (h:I n s):Fd (Uv prog w) A (.compLoop (.ListComp elt [⟨tg1,it1,aw,0⟩,⟨tg2,it2,aj,0⟩] scope pos) 1 it acc env) R s:=by
 refine Qm rfl I (λn s hI=>?_) n h;show Ut _ A ((Rl (.ListComp elt [⟨tg1,it1,aw,0⟩,⟨tg2,it2,aj,0⟩] scope pos) 1 it acc env).onRaise (λx=>do Mr x env;Ms x)) _ _ s;refine Rx ?_;rw[MV];refine Aa (Dd (Aa (Aq (turn n s hI) (λr s₁ h₁=>?_) λ_ _ h'=>h'.elim)));cases r with
 |none=>exact Ag h₁
 |some v=>
  refine Aa (Aq h₁ (λ_ s₀ h₀'=>?_) λ_ _ h'=>h'.elim);refine Aa (Aq h₀' (λ_ s₂ h₂=>?_) λ_ _ h'=>h'.elim);refine Aa (Aq h₂ (λokb s₃ h₃=>?_) λ_ _ h'=>h'.elim);cases okb with
  |false=>exact Ag ⟨rfl,h₃⟩
  |true=>exact Aa (Aa (Aq h₃ (λx s₄ h₄=>Aa (Aq h₄ (λ_ s₅ h₅=>Ag (Ag ⟨rfl,h₅⟩)) λ_ _ h'=>h'.elim)) λ_ _ h'=>h'.elim))
theorem E2{prog:Av}{w:Uy}{A:Br}{s:Ad}{elt tg1 it1 tg2 it2:Ux}{aw aj:List Ux}{scope:Vg}{pos:Pos}{it acc:Uq}{env:Env}{R:Oj->Ad->Prop}(I:Nat->Ad->Prop)(turn:∀n s,I n s->Ut (Uv prog w) A (pyNext it) (λr s₁=>match r with
   |none=>R (.ok .next) s₁
   | some v => Ut (Uv prog w) A (Fb tg1 it v) (λ_ s₀ => Ut (Uv prog w) A (Fv tg1 env v) (λ_ s₂ =>
     Ut (Uv prog w) A (forIn aw true λc r=>if r=true then do let ok<-isTrue c env (eval c env);pure (Cw ok) else pure (Cw r)) (λok s₃=>if ok=true then
      Ut (Uv prog w) A (eval it2 env) (λx s₄=>Ut (Uv prog w) A (Ru x) (λi2 s₅=>
       Fd (Uv prog w) A (.compStart (.ListComp elt [⟨tg1,it1,aw,0⟩,⟨tg2,it2,aj,0⟩] scope pos) 1 i2 acc env) (λr s₆=>match r with|.ok _=>∃m,m<n/\I m s₆|.error _=>False) s₅) (λ_ _=>False) s₄) (λ_ _=>False) s₃
      else∃m,m<n/\I m s₃) (λ_ _=>False) s₂)
     (λ_ _=>False) s₀) (λ_ _=>False) s₁) (λ_ _=>False) s)
  (n:Nat) (h:I n s) (hs:∀x,Vb it2 env x=pure x:=by intro _;rfl):Fd (Uv prog w) A (.compLoop (.ListComp elt [⟨tg1,it1,aw,0⟩,⟨tg2,it2,aj,0⟩] scope pos) 0 it acc env) R s:=by
 refine Qm rfl I (λn s hI=>?_) n h;show Ut _ A ((Rl (.ListComp elt [⟨tg1,it1,aw,0⟩,⟨tg2,it2,aj,0⟩] scope pos) 0 it acc env).onRaise (λx=>do Mr x env;Ms x)) _ _ s;refine Rx ?_;rw[MU];refine Aa (Dd (Aa (Aq (turn n s hI) (λr s₁ h₁=>?_) λ_ _ h'=>h'.elim)));cases r with
 |none=>exact Ag h₁
 |some v=>
  refine Aa (Aq h₁ (λ_ s₀ h₀'=>?_) λ_ _ h'=>h'.elim);refine Aa (Aq h₀' (λ_ s₂ h₂=>?_) λ_ _ h'=>h'.elim);refine Aa (Aq h₂ (λokb s₃ h₃=>?_) λ_ _ h'=>h'.elim);cases okb with
  |false=>exact Ag ⟨rfl,h₃⟩
  |true=>
   refine Aa (Aq h₃ (λx s₄ h₄=>?_) λ_ _ h'=>h'.elim);refine Aa (Dd (Aa (Hj (hs x) (Aa (Bo (Aq h₄ (λi2 s₅ h₅=>?_) λ_ _ h'=>h'.elim))))));refine Aa (wpAny_runOwn (Gq h₅ λr s₆ h₆=>?_));cases r with
   |ok f=>exact Ag ⟨rfl,h₆⟩
   |error e=>exact h₆.elim
theorem VH{prog:Av}{w:Uy}{A:Br}{s:Ad}{elt tg1 it1 tg2 it2:Ux}{aw aj:List Ux}{scope:Vg}{pos:Pos}{it acc:Uq}{env:Env}{R:Oj->Ad->Prop}(h0:Fd (Uv prog w) A (.compLoop (.ListComp elt [⟨tg1,it1,aw,0⟩,⟨tg2,it2,aj,0⟩] scope pos) 1 it acc env) R s)(h:Ut (Uv prog w) A (Ru it) (λit' s'=>Fd (Uv prog w) A (.compLoop (.ListComp elt [⟨tg1,it1,aw,0⟩,⟨tg2,it2,aj,0⟩] scope pos) 1 it' acc env) R s') (notedBy (Uv prog w) A env λx s'=>R (.error x) s') s):Fd (Uv prog w) A (.compStart (.ListComp elt [⟨tg1,it1,aw,0⟩,⟨tg2,it2,aj,0⟩] scope pos) 1 it acc env) R s:=by
 refine Mz ?_;show Ut _ _ ((compStart (.ListComp elt [⟨tg1,it1,aw,0⟩,⟨tg2,it2,aj,0⟩] scope pos) 1 it acc env).onRaise (λx=>do Mr x env;Ml theWindowsPlace)) _ _ s;refine wpAny_notedAt ?_;unfold compStart;show Ut _ _ (ask>>=_) _ _ s;refine Aa (wpAny_askSetting (wpAny_ite ?_));split
 ·first
   |exact Aa (Ag (Ag (And.intro rfl h0)))
   |exact Ag (And.intro rfl h0)
 ·first
   |exact Aa (Gk (Aa (Dd (Aa (Aq h (λit' s' h'=>Ag (And.intro rfl h')) λ_ _ x=>x)))))
   |(refine Aa (Gk ?_);show Ut _ _ (Ml it2.pos>>=_) _ _ s;exact Aa (Dd (Aa (Aq h (λit' s' h'=>Ag (And.intro rfl h')) λ_ _ x=>x))))
def EmW(D:Ur)(wi:TI)(g:TG)(tt:TT)(te:TE)(jx:List V)(σ:St)(H:Hp)(N:List V->St->Hp->Prop):Prop:=
 wi σ H λJ H0=>∃W:Nat->Nat->List V->St->Hp->Prop,(∃m,W 0 m jx σ H0)/\∀i m acc σ1 H1,W i m acc σ1 H1->
  (J.stop i H1/\N acc σ1 H1)∨
  (J.go i H1/\ ∃N2:List V->St->Hp->Prop,(∀ag σ' H',N2 ag σ' H'-> ∃m',m'<m/\W (i+1) m' ag σ' H')∧
   ∀x H2,J.yld i H1 x H2->g x σ1 H2 λσ2 H3=>tt σ2 H3 λb H4=>if b=true then te σ2 H4 λv H5=>H5 D=some (.lst acc)/\acc.length<sizeLine/\N2 (acc++[v]) σ2 (upd H5 D (.lst (acc++[v]))) else N2 acc σ2 H4)
theorem Zk{Y:Cx}{elt tg1 it1 tg2 it2:Ux}{aw aj:List Ux}{scope:Vg}{pos:Pos}{wi:TI}{g:TG}{tt:TT}{te:TE}{aa:List (Ur×Vc)}{s:Ad}{σ:St}{H:Hp}{D:Ur}{jx:List V}{N:List V->St->Hp->Prop}(hc:Y.calm=true)(hxe:Y.xe=λ_ _=>False)(hi:PI Y tg2 it2 wi)(hg:PG Y tg2 g)(ht:PTs Y aj tt)(he:PE Y elt te)(I:cK Y aa σ H s)(h:EmW D wi g tt te jx σ H N):Ut (Uv Y.prog Y.w) Y.A (eval it2 Y.env) (λx s₄=>Ut (Uv Y.prog Y.w) Y.A (Ru x) (λi2 s₅=>Fd (Uv Y.prog Y.w) Y.A (.compStart (.ListComp elt [⟨tg1,it1,aw,0⟩,⟨tg2,it2,aj,0⟩] scope pos) 1 i2 (.ref D) Y.env) (λr s₆=>match r with|.ok _=>∃ag σ' H',cK Y aa σ' H' s₆/\N ag σ' H'|.error _=>False) s₅) (λ_ _=>False) s₄) (λ_ _=>False) s:=by
 have nx:∀{α:Sort _} {x:Uq} {s:Ad},Y.xe x s->α:=λz=>by rw[hxe] at z;exact z.elim
 refine Aq (hi aa s σ H _ I h) (λv s1 h1=>Aq h1 (λitv s2 h2=>?_) λ_ _ z=>nx z) λ_ _ z=>nx z;obtain⟨it,fp,tn,J,H2,e,I2,T,st2,f2,W,⟨m0,w0⟩,turn⟩:=h2;subst e;have stat:∀{H':Hp},(∀b∈fp,H' b=none)->∀b∈fp,QF Y aa H' b:=λhn b hb=>⟨hn b hb,(f2 b hb).2⟩;have loop:∀s₃:Ad,s₃=s2->Fd (Uv Y.prog Y.w) Y.A (.compLoop (.ListComp elt [⟨tg1,it1,aw,0⟩,⟨tg2,it2,aj,0⟩] scope pos) 1 (.ref it) (.ref D) Y.env) (λr s₆=>match r with|.ok _=>∃ag σ' H',cK Y aa σ' H' s₆/\N ag σ' H'|.error _=>False) s₃:=by
  rintro s₃ rfl;refine E3 (λn s'=>∃i σ' H' acc,cK Y aa σ' H' s'/\tn i s'.heap/\(∀b∈fp,H' b=none)/\W i n acc σ' H') ?_ m0 ⟨0,σ,H2,jx,I2,st2,λb hb=>(f2 b hb).1,w0⟩;rintro n s3 ⟨i,σ3,H3,acc,I3,st3,fr3,w3⟩;rcases turn i n acc σ3 H3 w3 with⟨stop,qn⟩|⟨go,N2,hN,step⟩
  ·refine Aq (T.done Y rfl rfl rfl hc i aa s3 σ3 H3 (λ_ _ => False) I3 (stat fr3) st3 stop) (λr s4 ⟨hr,I4⟩ => ?_) λ_ _ z => z
   subst hr;exact⟨acc,σ3,H3,I4,qn⟩
  ·refine Aq (T.item Y rfl rfl rfl hc i aa s3 σ3 H3 (λ_ _ => False) I3 (stat fr3) st3 go) (λr s4 ⟨u,hr,h4⟩ => ?_) λ_ _ z => z
   subst hr;refine Aq h4 (λ_ s5 ⟨x,H5,I5,r5,y5,st5,fr5⟩=>?_) λ_ _ z=>z;have I5':=I5.pinned (stat fr5) (T.obj _ _ st5);refine Aq (hg _ s5 σ3 H5 x u _ I5' r5 (step x H5 y5)) (λ_ s6 ⟨σ6,H6,I6,q6⟩=>?_) λ_ _ z=>nx z;have again:∀{H7:Hp} {s7:Ad} {ag:List V},cK Y (aa++SW fp s5.heap) σ6 H7 s7->N2 ag σ6 H7->∃m,m<n/\∃i σ' H' acc,cK Y aa σ' H' s7/\tn i s7.heap/\(∀b∈fp,H' b=none)/\W i m acc σ' H':=λ{H7 s7 ag} I7 n7=>by obtain⟨m',hm,w7⟩:=hN ag σ6 H7 n7;refine⟨m',hm,i+1,σ6,H7,ag,I7.unpinned,T.keep _ _ _ st5 λb hb o e=>(I7.pin (b,o) (Au _ (Au _ (ZA hb e)))).1,λb hb=>?_,w7⟩;obtain⟨o,e,d⟩:=T.obj _ _ st5 b hb;exact(I7.pin (b,o) (Au _ (Au _ (ZA hb e)))).2.1
   refine Aq (ht _ s6 σ6 H6 _ I6 q6) (λokb s7 ⟨H7,I7,q7⟩=>?_) λ_ _ z=>nx z;cases okb with
   |false=>exact again I7 q7
   |true=>
    refine Aq (he _ s7 σ6 H7 _ I7 q7) (λv s8 ⟨y,H8,I8,r8,hD8,hz8,n8⟩=>?_) λ_ _ z=>nx z;refine Aq (aP (X:=Y) _ s8 σ6 H8 (.ref D) [y] (.ref D) [v] (λ_ H9=>N2 (acc++[y]) σ6 H9) I8 rfl (.cons r8 .nil)
     ⟨D,acc,y,rfl,rfl,hD8,hz8,n8⟩) (λ_ s9 ⟨_,H9,I9,_,n9⟩=>again I9 n9) λ_ _ z=>nx z
 exact VH (loop _ rfl) (T.self _ 0 _ _ _ st2 (loop _ rfl))
structure Blk2(Y:Cx)(tg:Ux)(ifs:List Ux)(tg2 it2:Ux)(aj:List Ux)(elt:Ux)(g:TG)(tt:TT)(wi2:TI)(g2:TG)(tt2:TT)(te:TE):Prop where
 tg:PG Y tg g
 ts:PTs Y ifs tt
 it:PI Y tg2 it2 wi2
 tg2:PG Y tg2 g2
 ts2:PTs Y aj tt2
 el:PE Y elt te
def Wl(D:Ur)(ix:List Nat)(nl:Nat)(J:It)(g:TG)(tt:TT)(wi2:TI)(g2:TG)(tt2:TT)(te:TE)(σ:St)(H0:Hp)(Q:Hp->Prop):Prop:=
 ∃W:Nat->Nat->List V->Hp->Prop,(∃m,W 0 m [] (upd H0 D (.lst [])))/\∀i m acc H1,W i m acc H1->
  (J.stop i H1/\Q H1)∨
  (J.go i H1/\ ∃N:List V->Hp->Prop,(∀ag H',N ag H'-> ∃m',m'<m/\W (i+1) m' ag H')∧
   ∀x H2,J.yld i H1 x H2->g x (aX ix σ++As nl none) H2 λσ2 H3=>σ2.take ix.length=aX ix σ∧
    tt σ2 H3 λb H4=>if b=true then EmW D wi2 g2 tt2 te acc σ2 H4 (λag σ' H'=>σ'.take ix.length=aX ix σ/\N ag H') else N acc H4)
def Xb(ix:List Nat)(nl:Nat)(wi:TI)(g:TG)(tt:TT)(wi2:TI)(g2:TG)(tt2:TT)(te:TE):TE:=λσ H Q=>wi σ H λJ H0=>∀D,H0 D=none->Wl D ix nl J g tt wi2 g2 tt2 te σ H0 λH'=>Q (.ref D) H'
theorem E1{X:Cx}{aa:List (Ur×Vc)}{σ:St}{H2:Hp}{s2:Ad}{E:Uq->Ad->Prop}{tg iter tg2 it2 elt:Ux}{ifs aj:List Ux}{scope:Vg}{pos:Pos}{N':List Uw}{ix:List Nat}{nl:Nat}{g g2:TG}{tt tt2:TT}{wi2:TI}{te:TE}{cl:List (Uw×Ur)}{J:It}{fp:List Ur}{it:Ur}{tn:Nat->Va->Prop}{Q:V->Hp->Prop}{RR:Uq->Ur->Oj->Ad->Prop}(hs2:∀(env:Env) (x:Uq),Vb it2 env x=pure x)(hc:X.calm=true)(S:TR X N' ix scope)(hnl:N'.length=ix.length+nl)(c7:∀x c,cl.lookup x=some c->X.env.cells.lookup x=some c)(j8:∀x,(x,Bj)∈scope.names->∃c,cl.lookup x=some c)(blk:∀(cl:List (Uw×Ur)) (s1:Ad) (H1:Hp) (fp:List Ur),Blk2 (bJ X N' scope cl s1 H1 fp) tg ifs tg2 it2 aj elt g tt wi2 g2 tt2 te)(I2:cK X aa σ H2 s2)(T:IZ X.prog X.w X.K tg J fp it tn)(st2:tn 0 s2.heap)(f2:∀b∈fp,QF X aa H2 b)(h:∀D,H2 D=none->Wl D ix nl J g tt wi2 g2 tt2 te σ H2 λH'=>Q (.ref D) H')(fin:∀(D C:Ur) (s':Ad) (H':Hp),cK X aa σ H' s'->(∃m,s'.heap.Ns C m)->C≠X.env.locals->(∀x c,X.env.cells.lookup x=some c->c≠C)->(∀(σ':St) (s'':Ad) (h'':Va),cK X aa σ' H' s''->Ey C s''.heap h''->cK X aa σ' H' {s'' with heap:=h''})->Q (.ref D) H'->RR (.ref D) C (.ok .next) s'):Ut (Uv X.prog X.w) X.A (Tn []) (λacc s₃=>Ut (Uv X.prog X.w) X.A (Ks scope X.env.globals cl [] X.env.qual none .none (some X.env)) (λj9 s₄=>Fd (Uv X.prog X.w) X.A (.compStart (.ListComp elt [⟨tg,iter,ifs,0⟩,⟨tg2,it2,aj,0⟩] scope pos) 0 (.ref it) acc {j9 with scope:=relabel scope X.env}) (RR acc j9.locals) s₄) E s₃) E s2:=by
 refine Cm (P6 ?_);dsimp only;have I1:cK X aa σ (upd H2 s2.heap.objs.size (.lst [])) {s2 with heap:=s2.heap.push {cls:=.type "list",dict:=none,data:=.seq ([]:List Uq).toArray}}:=
  I2.lnew (t':=s2.toks) (ys:=[]) (its:=[]) .nil (Di _)
 have hDn:H2 s2.heap.objs.size=none:=I2.hok.fresh (Am _);obtain⟨W,⟨m0,w0⟩,turn⟩:=h _ hDn;generalize hs1:({s2 with heap:=s2.heap.push {cls:=.type "list",dict:=none,data:=.seq ([]:List Uq).toArray}}:Ad)=s1 at I1;have d8:s2.heap.push {cls:=.type "list",dict:=none,data:=.seq ([]:List Uq).toArray}=s1.heap:=by rw[<-hs1]
 rw[d8];have old:∀b o,s1.heap.get? b=some o->(Lb (s1.heap.push {cls:=.type "dict",data:=.dict #[]}) scope.names).get? b=some o:=λb o e=>Ka _ _ _ _ (Ac _ e);have hns₁:(Lb (s1.heap.push {cls:=.type "dict",data:=.dict #[]}) scope.names).Ns s1.heap.objs.size (λ_=>none):=(Ul s1.heap (.type "dict")).keeps λb o e=>Ka _ _ _ _ e;have okc:=cellsFrom_ok scope.names (s1.heap.push {cls:=.type "dict",data:=.dict #[]}) (s1.heap.objs.size+1) [] ⟨λ_ _ hm=>(nomatch hm),Ky⟩ (by rw[Cg];exact Am _);rw[Cg] at okc;generalize hz1:Lb (s1.heap.push {cls:=.type "dict",data:=.dict #[]}) scope.names=h₁ at old hns₁ okc;rw[UF];generalize hnc:Vf (s1.heap.objs.size+1) scope.names []=nc at okc;have ncm:∀x c,nc.lookup x=some c->(x,Bv)∈scope.names/\h₁.IsCell c none/\s1.heap.objs.size+1<=c:=λx c e=>by have hm:=Bm e;exact⟨JJ (n:=s1.heap.objs.size+1) (by rw[hnc];exact hm),okc.empty x c hm⟩
 have nch:∀x,(x,Bv)∈scope.names->∃c,nc.lookup x=some c:=λx h=>by obtain⟨c,hc⟩:=JI (n:=s1.heap.objs.size+1) h;rw[hnc] at hc;exact SR hc
 have gu:∀b∈fp,b<s2.heap.objs.size:=λb hb=>by obtain⟨o,e,_⟩:=T.obj _ _ st2 b hb;exact Aj e
 have iy:s1.heap.objs.size=s2.heap.objs.size+1:=by rw[<-d8,Cg]
 have kf:∀b o,s2.heap.get? b=some o->s1.heap.get? b=some o:=λb o e=>by rw[<-d8];exact Ac _ e
 have d9:∀x c,cl.lookup x=some c->c<s1.heap.objs.size:=λx c e=>by obtain⟨v,q⟩:=I1.cell x c (c7 x c e);exact q.lt
 have qj:∀b∈U7 X.stack,b<s1.heap.objs.size:=λb hb=>by obtain⟨_,o,ho,_⟩:=(I1.stack).mem hb;exact Aj ho
 have okY:(bJ X N' scope (nc++cl) s1 (upd H2 s2.heap.objs.size (.lst [])) fp).Ok:=by
  refine⟨I1.ok.mod,S.kind,I1.ok.glob,I1.ok.blt,Am _,λx y c e1 e2=>?_,λx hx=>?_,λx c hf e=>?_,I1.ok.hd,I1.ok.frames,.inl rfl,λb hb=>⟨?_,λx c e=>?_⟩,λb o e=>?_,Dh I1.ok.bsz I1.sz,λb o e hb=>?_,λb hb hb2=>?_,I1.stack,I1.stkFree⟩
  ·rcases aN e1 with n1|⟨_,o1⟩
   ·rcases aN e2 with n2|⟨_,o2⟩
    ·exact Ox okc.apart (Bm n1) (Bm n2)
    ·exact absurd (At (d9 y c o2) (El (ncm x c n1).2.2)) (Bq _)
   ·rcases aN e2 with n2|⟨_,o2⟩
    ·exact absurd (At (d9 x c o1) (El (ncm y c n2).2.2)) (Bq _)
    ·exact I1.ok.inj x y c (c7 x c o1) (c7 y c o2)
  ·cases q:nc.lookup x with
   |some c=>exact⟨c,XW q⟩
   |none=>
    rcases XB hx with h|h
    ·obtain⟨c,hc⟩:=j8 x h
     exact⟨c,(WV q).trans hc⟩
    ·obtain⟨c,hc⟩:=nch x h
     rw[q] at hc;cases hc
  ·have hx:(x,Bv)∈scope.names:=Bm (beq_iff_eq.mp hf)
   obtain⟨c',hc'⟩:=nch x hx;have:=XW (m:=cl) hc';have e:(nc++cl).lookup x=some c:=e;rw[this] at e;cases e;exact El (ncm x c hc').2.2
  ·exact Aw (At (gu b hb) (by show s2.heap.objs.size<=s1.heap.objs.size;rw[iy];exact Dx _))
  ·rcases aN e with n1|⟨_,o1⟩
   ·have h1:=gu b hb
    have h2:=(ncm x c n1).2.2;rw[iy] at h2;exact λz=>absurd (z▸h2) (Qy (At h1 (Dh (Dx _) (Dx _))))
   ·exact(f2 b hb).2.2.2.2.1 x c (c7 x c o1)
  ·exact I1.bs b o e
  ·have:=(f2 b hb)
   obtain⟨o',e',_⟩:=T.obj _ _ st2 b hb;have hlt:=At (Aj e) I1.ok.bsz;rcases this.2.2.2.1 with z|z
   ·exact I1.ok.noex b o e z
   ·exact absurd (At hlt z) (Bq _)
  ·rcases Al.mp (I1.stkSub b hb2) with z|z
   ·exact(f2 b hb).2.1 z
   ·exact(f2 b hb).2.2.1 z
 have fw:(aX ix σ++As nl none).length=N'.length:=by rw[Cc,Jb,hnl];simp[aX]
 have IY:cK (bJ X N' scope (nc++cl) s1 (upd H2 s2.heap.objs.size (.lst [])) fp) [] (aX ix σ++As nl none) (upd H2 s2.heap.objs.size (.lst [])) {s2 with heap:=h₁}:=by
  refine⟨okY,?_,I2.bare,Un.kept old,⟨_,hns₁,λj x v e1 e2 e3=>?_⟩,λx c e=>?_,I1.hok.fresh (Am _),λx c e=>?_,λp hp=>absurd (show p∈([]:List (Ur×Vc)) from hp) (by simp),I1.hok.kept old,fw⟩
  ·show s2.os=s1.os
   rw[<-hs1]
  ·have hj:j<ix.length:=by
    by_cases hj:j<ix.length
    ·exact hj
    ·exfalso
     have hl:(aX ix σ).length=ix.length:=by simp[aX]
     rw[Ch (by rw[hl];lia),Cj] at e2;split at e2<;>cases e2
   have hl:(aX ix σ).length=ix.length:=by simp[aX]
   rw[Ak (by rw[hl];exact hj)] at e2;have hci:=S.cap j hj;obtain⟨i,hi⟩:∃i,ix[j]?=some i:=⟨ix[j],by simp[hj]⟩;rw[hi] at hci;have hNi:X.N[i]?=some x:=by have:N'[j]?=X.N[i]? :=hci;rw[<-this];exact e1
   have hσ:σ[i]?=some (some v):=by
    unfold aX at e2;rw[Co,hi] at e2;have e2':(σ[i]?).join=some v:=by simpa using e2
    cases q:σ[i]? with
    |none=>rw[q] at e2';cases e2'
    |some o=>rw[q] at e2';rw[show o=some v from e2']
   have hfl:scope.names.lookup x=some .free:=S.capf x (by rw[Jg];exact⟨j,by rw[Cf hj];exact e1⟩)
   have br:(x,Bj)∈scope.names:=Bm hfl;have hpk:X.env.kindOf x=some .cell∨X.env.kindOf x=some .free:=by exact S.free (x,.free) br rfl
   have ki:Vis X.env.scope x:=by
    rcases hpk with z|z
    ·exact .inr (.inl z)
    ·exact .inr (.inr z)
   obtain⟨m,hn,kl⟩:=I1.loc;obtain⟨u,ru,l⟩:=kl i x v hNi hσ ki;refine⟨u,ru,?_⟩;rcases l with⟨hk,_⟩|⟨hk,c,ec,z⟩
   ·rcases hpk with q|q<;>rw[hk] at q<;>cases q
   ·obtain⟨c',hc'⟩:=j8 x br
    have:c'=c:=by have:=c7 x c' hc';rw[ec] at this;exact(Bx this).symm
    subst this;have kj:nc.lookup x=none:=by
     cases q:nc.lookup x with
     |none=>rfl
     |some d=>
      have:=S.cel (x,.cell) (ncm x d q).1 rfl;rw[hfl] at this;cases this
    refine .inr ⟨VV hfl,c',(WV kj).trans hc',?_⟩
    ·obtain⟨o,ho,hd⟩:=z
     exact⟨o,old _ _ ho,hd⟩
  ·rcases aN e with n1|⟨_,o1⟩
   ·exact⟨none,(ncm x c n1).2.1⟩
   ·obtain⟨v,o,ho,hd⟩:=I1.cell x c (c7 x c o1)
    exact⟨v,o,old _ _ ho,hd⟩
  ·rcases aN e with n1|⟨_,o1⟩
   ·exact I1.hok.fresh (El (ncm x c n1).2.2)
   ·exact I1.freeC x c (c7 x c o1)
 have back:∀{pY:List (Ur×Vc)} {σ':St} {H':Hp} {s':Ad},cK (bJ X N' scope (nc++cl) s1 (upd H2 s2.heap.objs.size (.lst [])) fp) pY σ' H' s'->cK X aa σ H' s':=λ{pY σ' H' s'} J'=>
  I1.call' J'.os J'.base J'.hok J'.bare λb hb=>⟨(f2 b hb).2.2.2.1,(f2 b hb).2.1,(f2 b hb).2.2.2.2.1,(f2 b hb).2.2.2.2.2⟩
 have stat:∀{H':Hp} {pY:List (Ur×Vc)},(∀b∈fp,H' b=none)->pY=[]->∀b∈fp,QF (bJ X N' scope (nc++cl) s1 (upd H2 s2.heap.objs.size (.lst [])) fp) pY H' b:=λ{H' pY} hn hp b hb=>by subst hp;refine⟨hn b hb,(okY.exf b hb).1,okY.exfs b hb,.inl hb,(okY.exf b hb).2,λp hp=>absurd (show p∈([]:List (Ur×Vc)) from hp) (by simp)⟩
 have st1:tn 0 h₁:=T.keep 0 s2.heap h₁ st2 λb hb o e=>old b o (kf b o e);have fr1:∀b∈fp,(upd H2 s2.heap.objs.size (.lst [])) b=none:=λb hb=>by rw[b6 (Aw (gu b hb))];exact(f2 b hb).1
 have loop:∀s₃:Ad,s₃={s2 with heap:=h₁}->
   Fd (Uv X.prog X.w) X.A (.compLoop (.ListComp elt [⟨tg,iter,ifs,0⟩,⟨tg2,it2,aj,0⟩] scope pos) 0 (.ref it) (.ref s2.heap.objs.size) (Rm scope (nc++cl) s1.heap.objs.size X.env)) (RR (.ref s2.heap.objs.size) s1.heap.objs.size) s₃:=by
  rintro s₃ rfl;refine E2 (hs:=hs2 _) (λn s'=>∃i σ' H' acc,cK (bJ X N' scope (nc++cl) s1 (upd H2 s2.heap.objs.size (.lst [])) fp) [] σ' H' s'/\σ'.take ix.length=aX ix σ/\tn i s'.heap/\(∀b∈fp,H' b=none)/\W i n acc H') ?_ m0
   ⟨0,_,_,[],IY,by rw[Cz (by simp[aX])];exact Ce (by simp[aX]),st1,fr1,w0⟩
  rintro n s' ⟨i,σ',H',acc,J',hσ,st',fr',w'⟩;have Jc:cK (bJ X N' scope (nc++cl) s1 (upd H2 s2.heap.objs.size (.lst [])) fp) [] (aX ix σ++As nl none) H' s':=by
   refine J'.weak (by rw[fw];exact J'.len.symm) λj v e=>?_;have hl:(aX ix σ).length=ix.length:=by simp[aX]
   by_cases hj:j<ix.length
   ·rw [Ak (by rw [hl];exact hj),<- hσ,Cf hj] at e
    exact e
   ·rw [Ch (by rw [hl];lia),Cj] at e
    split at e<;>cases e
  rcases turn i n acc H' w' with⟨stop,q⟩|⟨go,N,hN,step⟩
  ·refine Aq (T.done (bJ X N' scope (nc ++ cl) s1 (upd H2 s2.heap.objs.size (.lst [])) fp) rfl rfl rfl hc i [] s' _ H' (λ_ _ => False) Jc (stat fr' rfl) st' stop) (λr s4 ⟨hr,I4⟩ => ?_) λ_ _ z => z
   subst hr;have IX:=back I4;obtain⟨m,hm,_⟩:=I4.loc;exact fin _ _ s4 H' IX ⟨m,hm⟩ (Gp I1.lt) (λx c e z=>by obtain⟨v,q⟩:=I1.cell x c e;have:=q.lt;rw[z] at this;exact Bq _ this) (λσ'' s'' h'' I'' sb=>cK.offNew I1 I'' I4.free λb o hb e=>(sb.2 b hb).trans e) q
  ·refine Aq (T.item (bJ X N' scope (nc ++ cl) s1 (upd H2 s2.heap.objs.size (.lst [])) fp) rfl rfl rfl hc i [] s' _ H' (λ_ _ => False) Jc (stat fr' rfl) st' go) (λr s4 ⟨u,hr,h4⟩ => ?_) λ_ _ z => z
   subst hr;refine Aq h4 (λ_ s5 ⟨x,H5,I5,r5,y5,st5,fr5⟩=>?_) λ_ _ z=>z;have I5':=I5.pinned (stat fr5 rfl) (T.obj _ _ st5);obtain⟨btg,bts,bit,bt2,bs2,bel⟩:=blk (nc++cl) s1 (upd H2 s2.heap.objs.size (.lst [])) fp;refine Aq (btg _ s5 _ H5 x u _ I5' r5 (step x H5 y5)) (λ_ s6 ⟨σ6,H6,I6,hσ6,q6⟩=>?_) λ_ _ z=>z;have again:∀{σ7:St} {H7:Hp} {s7:Ad} {ag:List V},σ7.take ix.length=aX ix σ->cK (bJ X N' scope (nc++cl) s1 (upd H2 s2.heap.objs.size (.lst [])) fp) ([]++SW fp s5.heap) σ7 H7 s7->N ag H7->
     ∃m,m<n/\∃i σ' H' acc,cK (bJ X N' scope (nc++cl) s1 (upd H2 s2.heap.objs.size (.lst [])) fp) [] σ' H' s7/\σ'.take ix.length=aX ix σ/\tn i s7.heap/\(∀b∈fp,H' b=none)/\W i m acc H':=λ{σ7 H7 s7 ag} hσ7 I7 n7=>by
    obtain⟨m',hm,w7⟩:=hN ag H7 n7;refine⟨m',hm,i+1,σ7,H7,ag,I7.unpinned,hσ7,T.keep _ _ _ st5 λb hb o e=>(I7.pin (b,o) (Au _ (Au _ (ZA hb e)))).1,λb hb=>?_,w7⟩;obtain⟨o,e,d⟩:=T.obj _ _ st5 b hb;exact(I7.pin (b,o) (Au _ (Au _ (ZA hb e)))).2.1
   refine Aq (bts _ s6 σ6 H6 _ I6 q6) (λokb s7 ⟨H7,I7,q7⟩=>?_) λ_ _ z=>z;cases okb with
   |false=>exact again hσ6 I7 q7
   |true=>
    refine Aq (Zk (Y:=bJ X N' scope (nc++cl) s1 (upd H2 s2.heap.objs.size (.lst [])) fp) hc rfl bit bt2 bs2 bel I7 q7) (λx s8 h8=>Aq h8 (λi2 s9 h9=>Gq h9 λr s10 h10=>?_) λ_ _ z=>z) λ_ _ z=>z;cases r with
    |ok f=>
     obtain⟨ag,σ',H',I9,hσ9,n9⟩:=h10;exact again hσ9 I9 n9
    |error e=>exact h10.elim
 have he:({newEnv scope s1.heap.objs.size X.env.globals (nc++cl) X.env.qual none .none (some X.env) builtinsNs with scope:=relabel scope X.env}:Env)=Rm scope (nc++cl) s1.heap.objs.size X.env:=rfl;exact Mh (loop _ rfl) (T.self _ 0 _ _ _ st1 (loop _ rfl))
noncomputable def E7(gg:VG)(tb:VB)(fe:VF):List cX->List cX->Ev->Option (List cX×Ev)
 |[],acc,δ=>some (acc,δ)
 |d::r,acc,δ=>(gg d δ).bind λδ1=>(tb δ1).bind λp=>if p.1=true then(fe p.2).bind λq=>if acc.length<16777216 then E7 gg tb fe r (acc++[q.1]) q.2 else none else E7 gg tb fe r acc p.2
noncomputable def UG(n nl:Nat)(gg:VG)(tb:VB)(fi2:VI)(gg2:VG)(tb2:VB)(fe:VF):List cX->List cX->Ev->Option (List cX×Ev)
 |[],acc,δ=>some (acc,δ)
 |d::r,acc,δ=>(gg d (δ++P8 nl)).bind λδ1=>(tb δ1).bind λp=>if p.1=true then(fi2 p.2).bind λu=>(E7 gg2 tb2 fe u.1 acc u.2).bind λq=>UG n nl gg tb fi2 gg2 tb2 fe r q.1 (q.2.take n) else UG n nl gg tb fi2 gg2 tb2 fe r acc (p.2.take n)
noncomputable def NH(ix:List Nat)(nl:Nat)(fi:VI)(gg:VG)(tb:VB)(fi2:VI)(gg2:VG)(tb2:VB)(fe:VF):VF:=λδ=>(fi δ).bind λp=>(UG ix.length nl gg tb fi2 gg2 tb2 fe p.1 [] (bE ix p.2)).map λq=>(.lst q.1,ZV ix q.2 p.2)
section
variable{X:Cx}{K:Ai}{ml:List Nat}{e a b c:Ux}{es:List Ux}{pi pt pe pi2 pt2 pu bt bi ps bs:Bool}{f:VF}{B B':Bs}{O:Nat->Option Ur}{H H0 H1 H':Hp}{σ:St}{δ δ':Ev}{v:V}{d:cX}{p:Ur}{pos:Pos}{ix:List Nat}{nl:Nat}
theorem fR{fi fi2:VI}{gg gg2:VG}{tb tb2:VB}{fe:VF}(hnd:ix.Nodup){Q:VK}(h:TN K ml (pi && (pt && pi2 && pt2 && pe)) (NH ix nl fi gg tb fi2 gg2 tb2 fe) σ H Q):Xb ix nl (CY K ml pi fi) (TGV K (Ar ix.length) gg) (TB K (Ar ix.length) pt tb) (CY K (Ar ix.length) pi2 fi2) (TGV K (Ar ix.length) gg2) (TB K (Ar ix.length) pt2 tb2) (TV K (Ar ix.length) pe true true fe) σ H Q:=by
 obtain⟨B,O,δ,d,δ2,S,q,k⟩:=h;unfold NH at q;cases h1:fi δ with
 |none=>rw[h1] at q;cases q
 |some p=>
  obtain⟨ds,δ1⟩:=p;rw[h1] at q;have q:((UG ix.length nl gg tb fi2 gg2 tb2 fe ds [] (bE ix δ1)).map λq=>(cX.lst q.1,ZV ix q.2 δ1))=some (d,δ2):=q;cases h2:UG ix.length nl gg tb fi2 gg2 tb2 fe ds [] (bE ix δ1) with
  |none=>rw[h2] at q;cases q
  |some z=>
   obtain⟨res,δf⟩:=z;rw[h2] at q;cases q;refine⟨B,O,δ,ds,δ1,S,h1,λJ kps H0 S0 f0 p0 wk D hD=>?_⟩;have hDO:∀j,Oc ix O j≠some D:=λj e=>by
    unfold Oc at e;cases hi:ix[j]? with
    |none=>rw[hi] at e;cases e
    |some i=>
     rw[hi] at e;obtain⟨o,q⟩:=S0.nin (.inr ⟨i,e⟩);rw[hD] at q;cases q
   have fj:∀kp j,ix.length<=j->(Bc ix B O H0 D kp).mu j=none:=λkp j hj=>by show(ix[j]?).bind O=none;rw[Bp hj];rfl
   refine⟨λi m acc H1=>m=ds.length - i/\i<=ds.length/\∃(ai:List cX) (δc:Ev),δc.length=ix.length/\acc.length=ai.length∧
     aS K (Ar ix.length) (Bc ix B O H0 D (kps++acc.zip ai)) (Oc ix O) H1 (aX ix σ++As nl none) (δc++P8 nl)/\H1 D=some (.lst acc)/\((pt&&pi2&&pt2&&pe)=true->aZ H0 H1)∧
     UG ix.length nl gg tb fi2 gg2 tb2 fe (ds.drop i) ai δc=some (res,δf),
    ⟨ds.length,rfl,Di _,[],bE ix δ1,by simp[bE],rfl,by rw[La,Cu];exact S0.unkeep.inner hD hnd λp hp=>S0.kep p (Bk _ hp),cF,λ_=>cQ hD,h2⟩,?_⟩
   rintro i m acc H1 ⟨rfl,hi,ai,δc,hlc,bo,S1,hD1,cr,hc⟩;have w:=wk (Nn (Bc ix B O H0 D (kps++acc.zip ai)) (Oc ix O)) H1 λp hp=>S1.kep p (Bk _ hp);by_cases hlt:i<ds.length
   ·obtain ⟨go,yl⟩ := w.1 i ds[i] (by simp [hlt])
    rw[Dt hlt] at hc;simp only[UG] at hc;cases g1:gg ds[i] (δc++P8 nl) with
    |none=>rw[g1] at hc;cases hc
    |some δ3=>
     rw[g1] at hc;simp only[Af] at hc;cases g2:tb δ3 with
     |none=>rw[g2] at hc;cases hc
     |some z=>
      obtain⟨kk,δ4⟩:=z;rw[g2] at hc;simp only[Af] at hc;refine .inr ⟨go,λag H'=>∃(ai:List cX) (δc:Ev),δc.length=ix.length/\ag.length=ai.length∧
       aS K (Ar ix.length) (Bc ix B O H0 D (kps++ag.zip ai)) (Oc ix O) H' (aX ix σ++As nl none) (δc++P8 nl)/\H' D=some (.lst ag)/\((pt&&pi2&&pt2&&pe)=true->aZ H0 H')∧
       UG ix.length nl gg tb fi2 gg2 tb2 fe (ds.drop (i+1)) ai δc=some (res,δf),λag H' w'=>⟨ds.length - (i+1),by lia,rfl,hlt,w'⟩,λx H2 hy=>?_⟩
      obtain⟨sm,rx⟩:=yl x H2 hy;refine⟨_,_,_,ds[i],δ3,S1.same sm,rx,g1,λσ3 O3 S3 m3=>?_⟩;have ln3:ix.length<=σ3.length:=by
       by_cases hz:ix.length=0
       ·lia
       ·have hj : ix.length - 1 < ix.length := by lia
        have:=m3 (ix.length - 1) (Ca.mpr hj);have hs:(aX ix σ++As nl none)[ix.length - 1]? ≠none:=by rw[Ak (by rw[ZJ];exact hj)];simp[aX,hj]
        rw[<-this] at hs;have nr:ix.length - 1<σ3.length:=Ma λz=>hs (Hf.mpr z);lia
      have hσ3:=Q3 ln3 m3;refine⟨hσ3,_,_,δ3,kk,δ4,S3,g2,λH4 R4=>?_⟩;have hD4:H4 D=some (.lst acc):=R4.frm _ _ (sm _ _ hD1) λz=>by obtain⟨j,e⟩:=z;have:=(R4.sta.old j D e).1;exact absurd (.inl (.inr rfl)) this
      have ln4:ix.length<=δ4.length:=by rw[<-R4.sta.len];exact ln3
      cases kk with
      |false=>
       rw[if_neg Cs] at hc;refine RK ⟨ai,δ4.take ix.length,by rw[Cb];lia,bo,R4.sta.turn (fj _) (ZJ ix σ) hσ3 ln4,hD4,λz=>?_,hc⟩;simp only[Ae] at z;exact((cr (by simp[z.1.1.1,z.1.1.2,z.1.2,z.2])).trans sm).trans (R4.pur z.1.1.1)
      |true=>
       rw[if_pos rfl] at hc;cases g3:fi2 δ4 with
       |none=>rw[g3] at hc;cases hc
       |some z=>
        obtain⟨ds2,δ5⟩:=z;rw[g3] at hc;simp only[Af] at hc;cases g4:E7 gg2 tb2 fe ds2 ai δ5 with
        |none=>rw[g4] at hc;cases hc
        |some z2=>
         obtain⟨ju,δ2f⟩:=z2;rw[g4] at hc;simp only[Af] at hc;refine RL ⟨_,_,δ4,ds2,δ5,R4.sta,g3,λJ2 ik H5 S5 f5 p5 wk2=>?_⟩;have hD5:H5 D=some (.lst acc):=f5 _ _ hD4 λz=>by obtain⟨j,e⟩:=z;have:=(R4.sta.old j D e).1;exact absurd (.inl (.inr rfl)) this
         refine⟨λi2 m2 de σ1 H6=>m2=ds2.length - i2/\i2<=ds2.length/\∃(bh:List cX) (δc1:Ev) (O1:Nat->Option Ur),de.length=bh.length∧
           aS K (Ar ix.length) (Bc ix B O H0 D (ik++(kps++de.zip bh))) O1 H6 σ1 δc1/\σ1.take ix.length=aX ix σ/\ix.length<=σ1.length/\H6 D=some (.lst de)/\((pt&&pi2&&pt2&&pe)=true->aZ H0 H6)∧
           E7 gg2 tb2 fe (ds2.drop i2) bh δc1=some (ju,δ2f),
          ⟨ds2.length,rfl,Di _,ai,δ5,_,bo,S5,hσ3,ln3,hD5,λz=>by simp only[Ae] at z;exact(((cr (by simp[z.1.1.1,z.1.1.2,z.1.2,z.2])).trans sm).trans (R4.pur z.1.1.1)).trans (p5 z.1.1.2),g4⟩,?_⟩
         rintro i2 m2 de σ1 H6 ⟨rfl,hi2,bh,δc1,O1,g7,S6,hσ1,ln1,hD6,kg,hc6⟩;have w2:=wk2 (Nn (Bc ix B O H0 D (ik++(kps++de.zip bh))) O1) H6 λp hp=>S6.kep p (Bk _ hp);by_cases fo:i2<ds2.length
         ·obtain ⟨go2,yl2⟩ := w2.1 i2 ds2[i2] (by simp [fo])
          rw[Dt fo] at hc6;simp only[E7] at hc6;cases k1:gg2 ds2[i2] δc1 with
          |none=>rw[k1] at hc6;cases hc6
          |some δ7=>
           rw[k1] at hc6;simp only[Af] at hc6;cases k2:tb2 δ7 with
           |none=>rw[k2] at hc6;cases hc6
           |some z3=>
            obtain⟨kk2,δ8⟩:=z3;rw[k2] at hc6;simp only[Af] at hc6;refine .inr ⟨go2,λag σ' H'=>∃(bh:List cX) (δc1:Ev) (O1:Nat->Option Ur),ag.length=bh.length∧
             aS K (Ar ix.length) (Bc ix B O H0 D (ik++(kps++ag.zip bh))) O1 H' σ' δc1/\σ'.take ix.length=aX ix σ/\ix.length<=σ'.length/\H' D=some (.lst ag)/\((pt&&pi2&&pt2&&pe)=true->aZ H0 H')∧
             E7 gg2 tb2 fe (ds2.drop (i2+1)) bh δc1=some (ju,δ2f),λag σ' H' w'=>⟨ds2.length - (i2+1),by lia,rfl,fo,w'⟩,λx2 H7 hy2=>?_⟩
            obtain⟨sm2,rx2⟩:=yl2 x2 H7 hy2;refine⟨_,_,_,ds2[i2],δ7,S6.same sm2,rx2,k1,λσ7 O7 S7 m7=>?_⟩;have hσ7:σ7.take ix.length=aX ix σ:=by
             rw[<-hσ1];refine Kz λj=>?_;rw[Pe,Pe];split
             ·rename_i hj
              exact m7 j (Ca.mpr hj)
             ·rfl
            have ln7:ix.length<=σ7.length:=by
             have:(σ7.take ix.length).length=ix.length:=by rw[hσ7,ZJ]
             rw[Cb] at this;lia
            refine⟨_,_,δ7,kk2,δ8,S7,k2,λH8 R8=>?_⟩;have hD8:H8 D=some (.lst de):=R8.frm _ _ (sm2 _ _ hD6) λz=>by obtain⟨j,e⟩:=z;have:=(R8.sta.old j D e).1;exact absurd (.inl (.inr rfl)) this
            cases kk2 with
            |false=>
             rw[if_neg Cs] at hc6;refine RK ⟨bh,δ8,_,g7,R8.sta,hσ7,ln7,hD8,λz=>?_,hc6⟩;have z0:=z;simp only[Ae] at z;exact((kg z0).trans sm2).trans (R8.pur z.1.2)
            |true=>
             rw[if_pos rfl] at hc6;cases k3:fe δ8 with
             |none=>rw[k3] at hc6;cases hc6
             |some z4=>
              obtain⟨dv,δ9⟩:=z4;rw[k3] at hc6;simp only[Af] at hc6;split at hc6
              ·rename_i hz
               refine RL ⟨_,_,δ8,dv,δ9,R8.sta,k3,λv H9 R9=>?_⟩;have hD9:H9 D=some (.lst de):=R9.frm _ _ hD8 λz=>by obtain⟨j,e⟩:=z;have:=(R9.sta.old j D e).1;exact absurd (.inl (.inr rfl)) this
               have hv:bI K (Nn (Bc ix B O H0 D (ik++(kps++de.zip bh))) O7) H9 (Nn (Bc ix B O H0 D (ik++(kps++de.zip bh))) O7) v dv:=R9.rep.mono (λa h=>by
                rcases h with h|h
                ·exact .inl h
                ·exact .inr h) (λa h=>by
                rcases h with h|h
                ·exact .inl h
                ·exact .inr h)
               have S10:=R9.sta.withKp (kp:=ik++(kps++(de++[v]).zip (bh++[dv]))) λp hp=>by
                rw[Mv g7,<-Ek,<-Ek] at hp;rcases Ck.mp hp with z|z
                ·exact R9.sta.kep p (by rw[<-Ek];exact z)
                ·rw[Ay.mp (show p∈[(v,dv)] from z)]
                 exact hv
               refine⟨hD9,by rw[g7,Bt];exact hz,bh++[dv],δ9,O7,by simp[g7],?_,hσ7,ln7,cF,λz=>?_,hc6⟩
               ·exact S10.writeZ (.inl (.inr rfl)) hD9 hD
               ·intro b o e
                have hb:b≠D:=λz=>by rw[z,hD] at e;cases e
                rw[b6 hb];have z0:=z;simp only[Ae] at z;exact(((kg z0).trans sm2).trans ((R8.pur z.1.2).trans (R9.pur z.2))) b o e
              ·cases hc6
         ·have e : i2 = ds2.length := by lia
          subst e;rw[Gj] at hc6;cases hc6;refine .inl ⟨w2.2,hσ1,ju,δ2f.take ix.length,by rw[Cb,<-S6.len];lia,g7,?_,hD6,kg,hc⟩;have S11:=S6.turn (nl:=nl) (fj _) (ZJ ix σ) hσ1 (by rw[<-S6.len];exact ln1);exact S11.withKp (kp:=kps++de.zip ju) λp hp=>S11.kep p (Au _ hp)
   ·have e : i = ds.length := by lia
    subst e;rw[Gj] at hc;cases hc;refine .inl ⟨w.2,k D H1 ?_⟩;have fP:Fr (OA (Oc ix O)) H0 H1:=S1.frm;have hPO:∀a,OA (Oc ix O) a->OA O a:=λa q0=>by
     obtain⟨j,e⟩:=q0;unfold Oc at e;cases hi:ix[j]? with
     |none=>rw[hi] at e;cases e
     |some i=>rw[hi] at e;exact⟨i,e⟩
    have SL:=S0.unkeep.laid (o:=.lst acc) hD;have fL:Fr (OA (Oc ix O)) (upd H0 D (.lst acc)) H1:=λb o e n=>by
     by_cases hb:b=D
     ·subst hb
      rw[cF] at e;cases e;exact hD1
     ·rw[b6 hb] at e
      exact fP b o e n
    refine⟨SL.call (X2) (λi=>?_) fL hPO,f0.trans (fP.mono hPO),λz=>?_,.lst hD1 (VW bo λp hp=>(S1.kep p (Au _ hp)).mono VR VR),S0.unkeep.new hD,S0.fresh hD⟩
    ·by_cases fu:i<δ1.length
     ·rcases W3 (ix:=ix) (ss:=δf) (δ:=δ1) i fu hlc.symm with⟨j,x,e1,e2,e3⟩|⟨e1,e2⟩
      ·have e4:(δf++P8 nl)[j]? =some (.ow x):=by rw[Ak (Ah.mp e2).1];exact e2
       obtain⟨a,e5,_,w⟩:=S1.ow j x e4;refine .inr ⟨a,x,?_,e3,w.mono VR⟩;unfold Oc at e5;rw[e1] at e5;exact e5
      ·refine .inl ⟨e2,λa ea ⟨j,ej⟩ => ?_⟩
       obtain⟨x,ex⟩:=S1.dom j a ej;unfold Oc at ej;cases hi:ix[j]? with
       |none=>rw[hi] at ej;cases ej
       |some i'=>
        rw[hi] at ej;have:i=i':=S0.inj i i' a ea ej;subst this;have hj:j<δf.length:=by rw[hlc];exact(Ah.mp hi).1
        rw[Ak hj] at ex;exact e1 j x hi ex
     ·refine .inl ⟨?_,λa ea => ?_⟩
      ·rw[Bp (by rw[X2];lia),Bp (by lia)]
      ·obtain⟨x,ex⟩:=S0.dom i a ea
       exact absurd (Ah.mp ex).1 fu
    ·rw[Ae] at z
     exact(p0 z.1).trans (cr z.2)
end
section
variable{X:Cx}{K:Ai}{ml:List Nat}{pi pt pe pi2 pt2 pu:Bool}{pos:Pos}{ix:List Nat}{nl:Nat}{f:VF}
theorem iO{i:Nat}{y:Uw}{py cb:Pos}{tg iter tg2 it2 elt:Ux}{ifs aj:List Ux}{scope:Vg}{N':List Uw}{wi wi2:TI}{g g2:TG}{tt tt2:TT}{te:TE}(hN:X.N.Nodup)(hi':X.N[i]?=some y)(hy:X.env.scope.names.lookup y=some .local)(hc:X.calm=true)(S:TR X N' ix scope)(hnl:N'.length=ix.length+nl)(hi:PI X tg iter wi)(blk:∀(cl:List (Uw×Ur)) (s1:Ad) (H1:Hp) (fp:List Ur),Blk2 (bJ X N' scope cl s1 H1 fp) tg ifs tg2 it2 aj elt g tt wi2 g2 tt2 te)(hsw:Ve (.ListComp elt [⟨tg,iter,ifs,0⟩,⟨tg2,it2,aj,0⟩] scope pos) (some (.Name y py)) cb.line X.env=pure true:=by rfl)(hs:∀x,Vb iter X.env x=pure x:=by intro _;rfl)(hs2:∀(env:Env) (x:Uq),Vb it2 env x=pure x:=by intro _ _;rfl):PS X (.Assign [.Name y py] (.ListComp elt [⟨tg,iter,ifs,0⟩,⟨tg2,it2,aj,0⟩] scope pos) cb) (tAsg (Xb ix nl wi g tt wi2 g2 tt2 te) (GX i)):=by
 intro aa s σ H D I h;rw[Mx _ _ _ _ hsw];refine Aa (Dd (Aa ?_));show Ut _ X.A (do let _<-comprehension (.ListComp elt [⟨tg,iter,ifs,0⟩,⟨tg2,it2,aj,0⟩] scope pos) scope X.env _ (Tn []) false (eval iter X.env) (some (Fv (.Name y py) X.env))) _ _ s;obtain⟨cl,e1,e2,e3⟩:=JL (env:=X.env) (scope:=scope) λy hy hf=>I.ok.has y.1 (S.free y hy hf);refine Aa (Aq (Hn (use:=some (Fv (.Name y py) X.env)) (cl:=cl) (Q:=λ_ s'=>SP X aa D .next s') rfl hs e1 S.kind S.names
  (Aq (hi aa s σ H _ I h) (λxv s₁ h₁=>Aq h₁ (λitv s₂ h₂=>?_) λ_ _ e=>e) λ_ _ e=>e)) (λ_ s' hq=>Ag (Ag hq)) λ_ _ e=>e)
 obtain⟨it,fp,tn,J,H2,e,I2,T,st2,f2,q⟩:=h₂;subst e;refine E1 (Q:=λv H'=>D.nx (σ.set i (some v)) H') (RR:=λacc C=>compPost (Uv X.prog X.w) X.A X.xe (some (Fv (.Name y py) X.env)) (λ_ s'=>SP X aa D .next s') acc C) hs2 hc S hnl e2 e3 blk I2 T st2 f2 q ?_;intro Dl C s' H' I' hm hC1 hC2 hb hq;obtain⟨m,hm⟩:=hm;show Ut _ X.A (Fv (.Name y py) X.env (.ref Dl)) _ _ _;refine Gw (Q1 I' hN hi' (.inl hy) (v:=.ref Dl) rfl (λs'' I'' ⟨a,hsb,ha⟩=>?_) (.inr hy));have hCa:C≠a:=by
  rcases ha with z|z
  ·rw[z];exact hC1
  ·exact Dk (hC2 y a z)
 exact⟨m,hm.sameBut hsb hCa,λh'' sb=>⟨_,H',hb _ s'' h'' I'' sb,hq⟩⟩
theorem mT{i:Nat}{y:Uw}{py cb:Pos}{tg iter tg2 it2 elt:Ux}{ifs aj:List Ux}{scope:Vg}{N':List Uw}{fi fi2:VI}{gg gg2:VG}{tb tb2:VB}{fe:VF}(o:Bool)(hN:X.N.Nodup)(hi':X.N[i]?=some y)(hy:X.env.scope.names.lookup y=some .local)(hc:X.calm=true)(hk:scope.kind=.function)(hok:QJ X.N N' ix scope.names X.env.kindOf=true)(hnl:N'.length=ix.length+nl)(hnd:ix.Nodup)(hi:PI X tg iter (CY K ml pi fi))(blk:∀(cl:List (Uw×Ur)) (s1:Ad) (H1:Hp) (fp:List Ur),Blk2 (bJ X N' scope cl s1 H1 fp) tg ifs tg2 it2 aj elt (TGV K (Ar ix.length) gg) (TB K (Ar ix.length) pt tb) (CY K (Ar ix.length) pi2 fi2) (TGV K (Ar ix.length) gg2) (TB K (Ar ix.length) pt2 tb2) (TV K (Ar ix.length) pe true true fe))(hm:i∉ml:=by decide)(hsw:Ve (.ListComp elt [⟨tg,iter,ifs,0⟩,⟨tg2,it2,aj,0⟩] scope pos) (some (.Name y py)) cb.line X.env=pure true:=by rfl)(hs:∀x,Vb iter X.env x=pure x:=by intro _;rfl)(hs2:∀(env:Env) (x:Uq),Vb it2 env x=pure x:=by intro _ _;rfl):PS X (.Assign [.Name y py] (.ListComp elt [⟨tg,iter,ifs,0⟩,⟨tg2,it2,aj,0⟩] scope pos) cb) (WE K ml (aG i (if o then xO (NH ix nl fi gg tb fi2 gg2 tb2 fe) else xV (NH ix nl fi gg tb fi2 gg2 tb2 fe)))):=
 (iO hN hi' hy hc (X4 hk hok) hnl hi blk hsw hs hs2).imp λD σ H h=>F8 (λσ H Q z=>fR hnd (Vq (pu:=pi&&(pt&&pi2&&pt2&&pe)) z)) hm h
end
end L2
namespace TS
open PySem PySem.W PyProof.Rows
structure En where
 prog:Av
 w:Uy
 A:Br
 s:Ad
 κ:Rn
 it:Array Keyed
def En.Ok(n:Nat)(ck:Nat->Nat->Bool)(e:En):Prop:=∀i j,i<n->j<n->∀C:Bool->Ad->Prop,C (ck i j) e.s->kas_cmp e.prog e.w e.A e.κ e.it i j C e.s
abbrev En.at(e:En)(i:Nat):Keyed:=Ls e.it i
abbrev En.of(e:En)(p:Array Nat):Array Keyed:=p.map (Ls e.it)
structure Pu where
 p:Array Nat
 pd:Array (Nat×Nat×Nat)
 g:Nat
def stO(e:En)(x:Pu):Jm:=Le e.κ (e.of x.p) x.pd x.g none
section
variable{n:Nat}{ck:Nat->Nat->Bool}
def D(n:Nat)(ck:Nat->Nat->Bool){α:Type}(f:En->StateT Jm Vk α)(x:Pu)(a:En->α)(y:Pu):Prop:=
 ∀e:En,e.Ok n ck->∀(E:Uq->Ad->Prop) (Q:α->Jm->Ad->Prop),Q (a e) (stO e y) e.s->kasC (Uv e.prog e.w) e.A E (f e) Q (stO e x) e.s
def X(n:Nat)(ck:Nat->Nat->Bool){α τ:Type}(f:En->StateT Jm Vk α)(x:Pu)(v:τ->En->α)(R:τ->Pu->Prop):Prop:=∃t y,R t y/\D n ck f x (v t) y
theorem D.pure{α:Type}{a:En->α}{x:Pu}:D n ck (λe=>Sd (a e)) x a x:=λe _ E Q h=>kasC_pure h
theorem D.bind{α β:Type}{f:En->StateT Jm Vk α}{k:En->α->StateT Jm Vk β}{x y z:Pu}{a:En->α}{b:En->β}(h1:D n ck f x a y)(h2:D n ck (λe=>k e (a e)) y b z):D n ck (λe=>f e>>=k e) x b z:=
 λe o E Q h=>Se (h1 e o E _ (h2 e o E Q h))
theorem D.get{x:Pu}:D n ck (λ_=>MonadState.get) x (λe=>stO e x) x:=λe _ E Q h=>kasC_get h
theorem D.modify{F:En->Jm->Jm}{x y:Pu}(h:∀e,F e (stO e x)=stO e y):D n ck (λe=>modify (F e)) x (λ_=>⟨⟩) y:=λe _ E Q q=>Sf (by rw[h e];exact q)
theorem D.rule{r:String}{x:Pu}:D n ck (λ_=>(liftM (PySem.rule r):StateT Jm Vk Unit)) x (λ_=>()) x:=λe _ E Q q=>kasC_lift (Gk q)
theorem D.elem{q:Array Nat}{i:Nat}{x:Pu}(hi:i<q.size):D n ck (λe=>elem' (e.of q) i) x (λe=>e.at (q.getD i 0)) x:=λe _ E Q h=>by
 have e1:(e.of q)[i]?=some (e.at (q.getD i 0)):=by
  have e2:q.getD i 0=q[i]:=by simp[Array.getD,hi]
  rw[e2];simp[En.of,En.at,hi]
 show kasC _ _ _ (elem' (e.of q) i) Q _ _;rw[elem'_eq,e1];exact kasC_pure h
theorem D.lt{i j:Nat}{x:Pu}(hi:i<n)(hj:j<n):D n ck (λe=>lt' (e.at i) (e.at j)) x (λ_=>some (ck i j)) x:=λe o E Q h=>by show kasC _ _ _ (lt' (e.at i) (e.at j)) Q _ _;rw[lt'_eq];refine Se (kasC_get ?_);refine Se (kasC_lift (Lp (Aq (o i j hi hj (λc s'=>c=ck i j/\s'=e.s) ⟨rfl,rfl⟩) (λc s' hc=>?_) λ_ _ hF=>hF.elim)));obtain⟨rfl,rfl⟩:=hc;exact kasC_pure h
theorem D.ltAt{i j:Nat}{x:Pu}(hi:i<x.p.size)(hj:j<x.p.size)(bi:x.p.getD i 0<n)(bj:x.p.getD j 0<n):D n ck (λ_=>ltAt' i j) x (λ_=>some (ck (x.p.getD i 0) (x.p.getD j 0))) x:=λe o E Q h=>by show kasC _ _ _ (ltAt' i j) Q _ _;rw[ltAt'_eq];refine Se (kasC_get ?_);exact(D.bind (D.elem hi) (D.bind (D.elem hj) (D.lt bi bj)):D n ck (λe=>elem' (e.of x.p) i>>=λu=>elem' (e.of x.p) j>>=λv=>lt' u v) x _ x) e o E Q h
theorem D.rev{i j:Nat}{x:Pu}:D n ck (λ_=>reverseSlice' i j) x (λ_=>()) {x with p:=kas_rev x.p i j}:=λe o E Q h=>by show kasC _ _ _ (reverseSlice' i j) Q _ _;rw[reverseSlice'_eq];refine Sf ?_;have e1:mirror (e.of x.p) i j ((j - i)/2)=e.of (mirror x.p i j ((j - i)/2)):=kas_swaps_map (Ls e.it) (λk=>i+k) (λk=>j - 1 - k) _ x.p;show Q () (Le e.κ (mirror (e.of x.p) i j ((j - i)/2)) x.pd x.g none) e.s;rw[e1];exact h
theorem D.move{k l:Nat}{x:Pu}:D n ck (λ_=>moveDown' k l) x (λ_=>()) {x with p:=bubble x.p k (k - l)}:=λe o E Q h=>by show kasC _ _ _ (moveDown' k l) Q _ _;rw[moveDown'_eq];refine Sf ?_;have e1:bubble (e.of x.p) k (k - l)=e.of (bubble x.p k (k - l)):=kas_swaps_map (Ls e.it) (λi=>k - i) (λi=>k - i - 1) _ x.p;show Q () (Le e.κ (bubble (e.of x.p) k (k - l)) x.pd x.g none) e.s;rw[e1];exact h
theorem X.ret{α τ:Type}{a:En->α}{x:Pu}{v:τ->En->α}{R:τ->Pu->Prop}(t:τ)(h:R t x)(ha:∀e,a e=v t e:=by intro e;rfl):X n ck (λe=>Sd (a e)) x v R:=
 ⟨t,x,h,by rw[show a=v t from funext ha];exact D.pure⟩
theorem X.go{α β τ:Type}{f:En->StateT Jm Vk α}{k:En->α->StateT Jm Vk β}{x y:Pu}{a:En->α}{v:τ->En->β}{R:τ->Pu->Prop}(h1:D n ck f x a y)(h2:X n ck (λe=>k e (a e)) y v R):X n ck (λe=>f e>>=k e) x v R:=by obtain⟨t,z,h,d⟩:=h2;exact⟨t,z,h,D.bind h1 d⟩
theorem X.bind{α β τ υ:Type}{f:En->StateT Jm Vk α}{k:En->α->StateT Jm Vk β}{x:Pu}{u:υ->En->α}{S:υ->Pu->Prop}{v:τ->En->β}{R:τ->Pu->Prop}(h1:X n ck f x u S)(h2:∀t y,S t y->X n ck (λe=>k e (u t e)) y v R):X n ck (λe=>f e>>=k e) x v R:=by obtain⟨t,y,h,d⟩:=h1;exact X.go d (h2 t y h)
noncomputable def sv{β τ:Type}(v:τ->En->β):τ ⊕ τ->En->ForInStep β
 |.inl t,e=>.yield (v t e)
 |.inr t,e=>.done (v t e)
def sR{τ:Type}(I J:τ->Pu->Prop):τ ⊕ τ->Pu->Prop
 |.inl t,x=>I t x
 |.inr t,x=>J t x
theorem X.loop{β τ:Type}{v:τ->En->β}{I:Nat->τ->Pu->Prop}{J:τ->Pu->Prop}{f:En->Nat->β->StateT Jm Vk (ForInStep β)}(he:∀t x,I 0 t x->J t x):∀(l:List Nat) (t:τ) (x:Pu),(∀i∈l,∀(k:Nat) (t:τ) (x:Pu),I (k+1) t x->X n ck (λe=>f e i (v t e)) x (sv v) (sR (I k) J))->I l.length t x->X n ck (λe=>forIn l (v t e) (f e)) x v J
 |[],t,x,_,h=>⟨t,x,he t x h,λe o E Q q=>kasC_nil q⟩
 | i :: l,t,x,hs,h => by
  obtain⟨r,y,hr,d⟩:=hs i Ax l.length t x h;cases r with
  |inr t'=>exact⟨t',y,hr,λe o E Q q=>kasC_cons (d e o E _ q)⟩
  |inl t'=>
   obtain⟨u,z,hu,d2⟩:=X.loop he l t' y (λi hi=>hs i (Ap _ hi)) hr;exact⟨u,z,hu,λe o E Q q=>kasC_cons (d e o E _ (d2 e o E Q q))⟩
theorem X.range{β τ:Type}{v:τ->En->β}{I:Nat->τ->Pu->Prop}{J:τ->Pu->Prop}{f:En->Nat->β->StateT Jm Vk (ForInStep β)}{a b:Nat}{t:τ}{x:Pu}{c:En->β}(he:∀t x,I 0 t x->J t x)(h0:I (b - a) t x)(hs:∀i,a<=i->i<b->∀(k:Nat) (t:τ) (x:Pu),I (k+1) t x->X n ck (λe=>f e i (v t e)) x (sv v) (sR (I k) J))(hc:∀e,c e=v t e:=by intro e;rfl):X n ck (λe=>forIn [a:b] (c e) (f e)) x v J:=by
 rw[show c=v t from funext hc];obtain⟨u,z,hu,d⟩:=X.loop he (List.range' a (b - a)) t x (λi hi=>by have:=List.mem_range'_1.mp hi;exact hs i this.1 (by omega)) (by rw[List.length_range'];exact h0)
 exact⟨u,z,hu,λe o E Q q=>kasC_range (d e o E Q q)⟩
theorem X.yield{β τ:Type}{v:τ->En->β}{I J:τ->Pu->Prop}{a:En->β}{x:Pu}(t:τ)(h:I t x)(ha:∀e,a e=v t e:=by intro e;rfl):X n ck (λe=>Sd (Cw (a e))) x (sv v) (sR I J):=
 X.ret (.inl t) h λe=>by rw[ha e];rfl
theorem X.done{β τ:Type}{v:τ->En->β}{I J:τ->Pu->Prop}{a:En->β}{x:Pu}(t:τ)(h:J t x)(ha:∀e,a e=v t e:=by intro e;rfl):X n ck (λe=>Sd (ForInStep.done (a e))) x (sv v) (sR I J):=
 X.ret (.inr t) h λe=>by rw[ha e];rfl
end
section
variable{n:Nat}{ck:Nat->Nat->Bool}
theorem X.ite{α τ:Type}{c:Prop}{dc:En->Decidable c}{a b:En->StateT Jm Vk α}{x:Pu}{v:τ->En->α}{R:τ->Pu->Prop}(h1:c->X n ck a x v R)(h2:¬c->X n ck b x v R):X n ck (λe=> @_root_.ite _ c (dc e) (a e) (b e)) x v R:=by
 by_cases h:c
 ·simpa only[if_pos h] using h1 h
 ·simpa only[if_neg h] using h2 h
def Pm(n:Nat)(p:Array Nat):Prop:=p.toList.Perm (Ar n)
theorem Pm.sz{p:Array Nat}(h:Pm n p):p.size=n:=by have:=h.length_eq;simpa using this
theorem Pm.lt{p:Array Nat}(h:Pm n p){i:Nat}(hi:i<n):p.getD i 0<n:=by
 have hs:=h.sz;have hi':i<p.size:=by lia
 have e:p.getD i 0=p[i]:=by simp[Array.getD,hi']
 rw[e];exact Ca.mp (h.mem_iff.mp (by simp))
theorem Pm.rev{p:Array Nat}(h:Pm n p)(i j:Nat):Pm n (kas_rev p i j):=Sg (Kj.mp (mirror_perm p i j _)) h
theorem Pm.move{p:Array Nat}(h:Pm n p)(i j:Nat):Pm n (bubble p i j):=Sg (Kj.mp (bubble_perm p i j)) h
theorem Pm.cmp{x:Pu}(h:Pm n x.p){i j:Nat}(hi:i<n)(hj:j<n):D n ck (λ_=>ltAt' i j) x (λ_=>some (ck (x.p.getD i 0) (x.p.getD j 0))) x:=
 D.ltAt (by rw[h.sz];exact hi) (by rw[h.sz];exact hj) (h.lt hi) (h.lt hj)
theorem X.st{α τ:Type}{f:En->StateT Jm Vk α}{x z:Pu}{v:τ->En->α}{R:τ->Pu->Prop}{P:Pu->Pu->Prop}(h:∀z,P x z->X n ck f z v R)(hz:P x z):X n ck f z v R:=h z hz
def Kp(n:Nat)(x y:Pu):Prop:=Pm n y.p/\y.pd=x.pd
theorem count{lo m:Nat}{x:Pu}(hp:Pm n x.p)(h1:1<=m)(hm:lo+m<=n):X n ck (λ_=>countRun' lo m) x (λt _=>some t) (λt y=>1<=t/\t<=m/\Kp n x y):=by
 refine X.bind (u:=λ(t:Nat) _=>(none,t)) (S:=λt y=>1<=t/\t<=m/\y=x) ?_ ?_
 ·refine X.range (I := λk t y => 1 <= t /\ t + k = m /\ y = x) (t := 1) (λt y h => ⟨h.1,by lia,h.2.2⟩) ⟨by lia,by lia,rfl⟩ λi _ _ k t y ⟨g1,g2,g3⟩ => ?_
  subst g3;refine X.go (hp.cmp (by lia) (by lia)) ?_;refine X.ite (λ_=>X.done t ⟨g1,by lia,rfl⟩) λ_=>X.yield (t+1) ⟨by lia,by lia,rfl⟩
 ·rintro t y ⟨g1,g2,rfl⟩
  have k0:Kp n y y:=⟨hp,rfl⟩;refine X.ite (λ_=>X.ret t ⟨g1,g2,k0⟩) λq0=>?_;have q1:t+1<=m:=by have:t≠m:=λz=>q0 (by rw[z];exact beq_self_eq_true _);lia
  refine X.ite (λq2=>X.go (hp.cmp (by lia) (by lia)) (X.ite (λ_=>X.ret t ⟨g1,g2,k0⟩) λ_=>X.go D.rev (X.st (P:=Kp n) (x:=y) ?_ ⟨hp.rev _ _,rfl⟩))) λq2=>X.st (P:=Kp n) (x:=y) ?_ k0
  all_goals
   intro z hz;refine X.go D.rule ?_;refine X.bind (u:=λ(t:Nat×Nat) _=>(none,t)) (S:=λt z=>1<=t.1/\t.1<=m/\Kp n y z) ?_ ?_
   ·refine X.range (I := λk t z => 1 <= t.1 /\ t.1 + k = m /\ Kp n y z) (t := (t + 1,0)) (λt y h => ⟨h.1,by lia,h.2.2⟩) ⟨by lia,by dsimp only;lia,hz⟩ λi _ _ k t y ⟨g1,g2,g3⟩ => ?_
    obtain⟨t,q⟩:=t;dsimp only at g1 g2;refine X.go (g3.1.cmp (by dsimp only;lia) (by dsimp only;lia)) ?_;refine X.ite (λ_=>X.ite (λ_=>X.go D.rev (X.yield (t+1,0) ⟨by dsimp only;lia,by dsimp only;lia,g3.1.rev _ _,g3.2⟩)) λ_=>X.yield (t+1,0) ⟨by dsimp only;lia,by dsimp only;lia,g3⟩) λ_=>?_;refine X.go (g3.1.cmp (by dsimp only;lia) (by dsimp only;lia)) ?_;exact X.ite (λ_=>X.done (t,q) ⟨g1,by dsimp only;lia,g3⟩) λ_=>X.yield (t+1,q+1) ⟨by dsimp only;lia,by dsimp only;lia,g3⟩
   ·rintro ⟨t,q⟩ z ⟨g1,g2,g3⟩
    dsimp only at g1 g2;refine X.ite (λ_=>X.go D.rev (X.st (P:=Kp n) (x:=y) ?_ ⟨g3.1.rev _ _,g3.2⟩)) λ_=>X.st (P:=Kp n) (x:=y) ?_ g3
    all_goals
     intro z hz;refine X.go D.rev ?_;refine X.bind (u:=λ(t:Nat) _=>(none,t)) (S:=λt z=>1<=t/\t<=m/\Kp n y z) ?_ λt z h=>X.ret t h;refine X.range (I:=λk t z=>1<=t/\t+k=m/\Kp n y z) (t:=t) (λt y h=>⟨h.1,by lia,h.2.2⟩) ⟨by lia,by dsimp only;lia,hz.1.rev _ _,hz.2⟩ λi _ _ k t y ⟨g1,g2,g3⟩=>?_;refine X.go (g3.1.cmp (by lia) (by lia)) ?_;exact X.ite (λ_=>X.done t ⟨g1,by lia,g3⟩) λ_=>X.yield (t+1) ⟨by lia,by lia,g3⟩
theorem bin{lo m ok:Nat}{x:Pu}(hp:Pm n x.p)(hm:lo+m<=n):X n ck (λ_=>binarySort' lo m ok) x (λ(_:Unit) _=>true) (λ_ y=>Kp n x y):=by
 refine X.bind (u:=λ(_:Unit) _=>(none,())) (S:=λ_ y=>Kp n x y) ?_ λt z h=>X.ret () h;refine X.range (I:=λ_ _ z=>Kp n x z) (t:=()) (λt y h=>h) ⟨hp,rfl⟩ λj j1 j2 k t y g3=>?_;refine X.bind (u:=λ(t:Nat×Nat) _=>(none,t)) (S:=λt z=>t.2<=j/\z=y) ?_ ?_
 ·refine X.range (I := λ_ t z => t.2 <= j /\ z = y) (t := (0,j)) (λt y h => h) ⟨Am _,rfl⟩ λi _ _ k t z ⟨g1,g2⟩ => ?_
  obtain⟨l,r⟩:=t;dsimp only at g1;subst g2;refine X.ite (λ_=>X.done (l,r) ⟨g1,rfl⟩) λq=>?_;refine X.go (g3.1.cmp (by dsimp only at q⊢;lia) (by dsimp only at q⊢;lia)) ?_;exact X.ite (λ_=>X.yield (l,(l+r)/2) ⟨by dsimp only at q⊢;lia,rfl⟩) λ_=>X.yield ((l+r)/2+1,r) ⟨g1,rfl⟩
 ·rintro ⟨l,r⟩ z ⟨g1,rfl⟩
  exact X.go D.move (X.yield () ⟨g3.1.move _ _,g3.2⟩)
end
section
variable{n:Nat}{ck:Nat->Nat->Bool}
theorem gE(e:En)(o:Array Nat):(e.of o).size=o.size:=by simp[En.of]
end
theorem Pm.id(n:Nat):Pm n (Ar n).toArray:=by unfold Pm;simp
def xS(n:Nat):Pu:=⟨(Ar n).toArray,#[],7⟩
section
variable{prog:Av}{w:Uy}{A:Br}{E:Uq->Ad->Prop}{s:Ad}
theorem B9(vs:List Uq):(Ar vs.length).map (λi=>vs.getD i Value.none)=vs:=by
 refine Kz λi=>?_;by_cases h:i<vs.length
 ·simp[h]
 ·simp[h]
end
section
variable{prog:Av}{w:Uy}{A:Br}{E:Uq->Ad->Prop}{s:Ad}
def G6(p q:Int×Int):Bool:=if p.1=q.1 then decide (p.2<q.2) else decide (p.1<q.1)
theorem kQ{x y:Ur}{a b c d:Int}{t u t' u':Vl}{C:Bool->Ad->Prop}(hx:IsTup s.heap x #[.int a t,.int b u])(hy:IsTup s.heap y #[.int c t',.int d u'])(h:C (G6 (a,b) (c,d)) s):Ut (Uv prog w) A (keyLt' (tuples' true) (.ref x) (.ref y)) C E s:=by
 obtain⟨ox,hx,_,n,dx⟩:=hx;obtain⟨oy,hy,_,m,dy⟩:=hy;refine kat_lt hx dx hy dy ?_;refine kat_cons (Lv (kat_go (λe=>kat_yes ?_) λe=>kat_no ?_))
 ·have e : a = c := by simpa using e
  refine kat_cons (Lv (kat_go (λe2=>kat_yes (kat_nil ?_)) λe2=>kat_no ?_))
  ·have e2 : b = d := by simpa using e2
   have:G6 (a,b) (c,d)=false:=by simp[G6,e,e2]
   rw[this] at h;exact h
  ·refine kat_one _ _ (lt_int ?_)
   have:G6 (a,b) (c,d)=decide (b<d):=by simp[G6,e]
   rw[this] at h;exact h
 ·have e : ¬ a = c := by simpa using e
  have:G6 (a,b) (c,d)=decide (a<c):=by simp[G6,e]
  rw[this] at h;exact oneLt_int h
def PrI(h:Va):List Uq->List (Int×Int)->Prop
 |[],[]=>True
 |v::vs,p::ps=>(∃a t u,v=.ref a/\IsTup h a #[.int p.1 t,.int p.2 u])/\PrI h vs ps
 |_,_=>False
theorem PrI.keep{h h':Va}(k:∀b o,h.get? b=some o->h'.get? b=some o):∀{vs:List Uq} {ps:List (Int×Int)},PrI h vs ps->PrI h' vs ps
 |[],[],_=>trivial
 |_::_,_::_,⟨⟨a,t,u,e,q⟩,r⟩=>⟨⟨a,t,u,e,q.keeps k⟩,PrI.keep k r⟩
 |[],_::_,r=>r.elim
 |_::_,[],r=>r.elim
theorem PrI.at{h:Va}:∀{vs:List Uq} {ps:List (Int×Int)} {i:Nat},PrI h vs ps->i<vs.length->∃a t u,vs.getD i Value.none=.ref a/\IsTup h a #[.int (ps.getD i (0,0)).1 t,.int (ps.getD i (0,0)).2 u]
 |[],[],i,_,hi=>by simp at hi
 |_::_,_::_,0,r,_=>r.1
 |v::vs,p::ps,i+1,r,hi=>by have:=PrI.at (i:=i) r.2 (by simpa using hi);simpa using this
 |[],_::_,i,r,_=>r.elim
 |_::_,[],i,r,_=>r.elim
theorem PrI.tups{h:Va}:∀{vs:List Uq} {ps:List (Int×Int)},PrI h vs ps->∃fs,KatTups h vs fs/\fs.length=vs.length/\∀v∈fs,∃i t,v=.int i t
 |[],[],_=>⟨[],trivial,rfl,λ_ h=>by cases h⟩
 |_::_,_::_,⟨⟨a,t,u,e,o,ho,hcl,n,hd⟩,r⟩=>by
  obtain⟨fs,h1,h2,h3⟩:=PrI.tups r;subst e;refine⟨.int _ t::fs,KatTups.cons ho hcl hd rfl h1,by simp[h2],λv hv=>?_⟩;rcases Al.mp hv with rfl|hv
  ·exact⟨_,_,rfl⟩
  ·exact h3 v hv
 |[],_::_,r=>r.elim
 |_::_,[],r=>r.elim
def ckP(ps:List (Int×Int))(i j:Nat):Bool:=G6 (ps.getD i (0,0)) (ps.getD j (0,0))
end
end TS
namespace L2
open PySem PySem.Spec PyProof.Rows
variable{X:Cx}{K:Ai}
noncomputable def prD:cX->Option (Int×Int)
 |.tup [.int a,.int b]=>some (a,b)
 |_=>none
noncomputable def N7:List cX->Option (List (Int×Int))
 |[]=>some []
 |d::ds=>(prD d).bind λp=>(N7 ds).map λps=>p::ps
def PrV(K:Ai)(H:Hp):List V->List (Int×Int)->Prop
 |[],[]=>True
 |v::vs,p::ps=>(∃a,v=.ref a/\WM K H a [.int p.1,.int p.2])/\PrV K H vs ps
 |_,_=>False
theorem kC{d:cX}{p:Int×Int}(h:prD d=some p):d=.tup [.int p.1,.int p.2]:=by
 unfold prD at h;split at h
 ·cases h;rfl
 ·cases h
theorem DV{H:Hp}{N:Ur->Prop}:∀{xs:List V} {ds:List cX} {ps:List (Int×Int)},cD K N H xs ds->N7 ds=some ps->PrV K H xs ps
 |_,_,_,.nil,h=>by cases h;trivial
 | _,_,ps,@cD.cons _ _ _ v vs d ds h t,e => by
  have e:(prD d).bind (λp=>(N7 ds).map λps=>p::ps)=some ps:=e;cases h1:prD d with
  |none=>rw[h1] at e;cases e
  |some p=>
   rw[h1] at e;have e:(N7 ds).map (λps=>p::ps)=some ps:=e;cases h2:N7 ds with
   |none=>rw[h2] at e;cases e
   |some qs=>
    rw[h2] at e;cases e;have:=kC h1;subst this;refine⟨?_,DV t h2⟩;cases h with
    |tup sq r=>
     cases r with
     |cons r1 r=>
      cases r1;cases r with
      |cons r2 r=>
       cases r2;cases r;exact⟨_,rfl,sq⟩
theorem PrV.prI{H:Hp}{aa:List (Ur×Vc)}{σ:St}{s:Ad}(I:cK X aa σ H s):∀{xs:List V} {us:List Uq} {ps:List (Int×Int)},PrV X.K H xs ps->bN xs us->TS.PrI s.heap us ps
 |[],_,[],_,.nil=>trivial
 | _ :: _,_,_ :: _,⟨⟨a,e,q⟩,r⟩,.cons h t => by
  subst e;cases h;obtain⟨its,rv,ht,_⟩:=I.tuple q;cases rv with
  |cons r1 rv=>
   obtain⟨t1,rfl⟩:=r1;cases rv with
   |cons r2 rv=>
    obtain⟨t2,rfl⟩:=r2;cases rv;exact⟨⟨a,t1,t2,rfl,ht⟩,PrV.prI I r t⟩
 |[],_,_::_,h,_=>h.elim
 |_::_,_,[],h,_=>h.elim
theorem PrV.len{H:Hp}:∀{xs:List V} {ps:List (Int×Int)},PrV K H xs ps->xs.length=ps.length
 |[],[],_=>rfl
 |_::_,_::_,r=>by simp[PrV.len r.2]
 |[],_::_,r=>r.elim
 |_::_,[],r=>r.elim
theorem MI{xs:List V}{us:List Uq}(r:bN xs us):∀l:List Nat,(∀i∈l,i<xs.length)->bN (l.map λi=>xs.getD i .non) (l.map λi=>us.getD i Value.none)
 |[],_=>.nil
 |i::l,h=>by
  have hi:=h i Ax;obtain⟨u,h1,h2⟩:=bN.get (i:=i) (x:=xs[i]) r (by simp[hi]);refine .cons ?_ (MI r l λj hj=>h j (Ap _ hj));have e1:xs.getD i .non=xs[i]:=by simp[hi]
  have e2:us.getD i Value.none=u:=by simp[h1]
  show b5 (xs.getD i .non) (us.getD i Value.none);rw[e1,e2];exact h2
theorem L7{H:Hp}{N:Ur->Prop}{xs:List V}{ds:List cX}(r:cD K N H xs ds):∀l:List Nat,cD K N H (l.map λi=>xs.getD i .non) (l.map λi=>ds.getD i .non)
 |[]=>.nil
 | i :: l => by
  have one:∀{xs:List V} {ds:List cX} (i:Nat),cD K N H xs ds->bI K N H N (xs.getD i .non) (ds.getD i .non):=by
   intro xs ds i r;induction r using cD.rec (motive_1:=λ_ _ _ _=>True) generalizing i with
   |nil=>simpa using bI.non
   |cons h t _ ih=>cases i with
    |zero=>simpa using h
    |succ i=>simpa using ih i
   |_=>trivial
  exact .cons (one i r) (L7 r l)
theorem BP:typeLookup (.type "list") ("keys":Uw)=pure none:=am_miss_of_fast (by decide+kernel)
section
variable{prog:Av}{w:Uy}{A:Br}{E:Uq->Ad->Prop}{s:Ad}
theorem BM{a:Ur}{o:Vc}{xs:Array Uq}{k:Nat}{Q:Option Uq->Ad->Prop}(hx:s.heap.get? a=some o)(hc:o.cls=.type "list")(bn:o.data=.seq xs k)(hd:o.dict=none)(hA:A.handled=none)(h:∀h' tk,(∀b ob,s.heap.get? b=some ob->h'.get? b=some ob)->Q none {s with heap:=h',toks:=tk}):Ut (Uv prog w) A (Ts (.ref a) "keys") Q E s:=by
 obtain⟨c,dct,dat,sl⟩:=o;simp only at hc bn hd;subst hc bn hd;obtain⟨hp,g,d,tk,os⟩:=s;have hT:∀tk',(⟨hp,g,d,tk',os⟩:Ad).TypeIs (.ref a) "list":=λ_=>⟨_,hx,rfl⟩;have f1:=sub_AttributeError;have f3:=F.slot_list_getattribute.lookup;have f4:=F.slot_list_getattribute.bind (.ref a);have f5:=am_list_getattr_none;unfold Ts getAttrBy? getAttrBy
 (repeat (any_goals (first|assumption|exact hT _|((with_reducible show Ut _ _ (call (Pa "list.__getattribute__") _ _) _ _ _);refine Gb F.slot_list_getattribute (hT _) am_entry_list_getattribute (F.args_list_getattribute_2 _ _) (meets_getattribute_miss_list a xs k sl "keys" _ BP (by decide) (by size_fits)) ⟨hx,hA,λh' tk' e hx'=>?_⟩)|wp_step)))
 obtain⟨t1,u1,he⟩:=hx'.there;show(Ut _ _ (Pf _ _ _ _ _ _ _) _ _ _);unfold Pf
 (repeat (any_goals (first|assumption|wp_step)))
 exact h _ _ hx'.keeps
end
theorem LD:entryFor table "dict.update.loop"=some Dq.«dict.update.loop» :=entryFor_of_tree (by kernel_rfl)
theorem T7:plainId "dict.update.loop"=true:=by decide+kernel
def PrK(prog:Av)(w:Uy)(h:Va):List Uq->List (aK×Uq)->Prop
 |[],[]=>True
 |v::vs,p::ps=>(∃a key,v=.ref a/\IsTup h a #[key,p.2]/\(aU prog w).is p.1 key=true)/\PrK prog w h vs ps
 |_,_=>False
section
variable{prog:Av}{w:Uy}{A:Br}{E:Uq->Ad->Prop}{s:Ad}
theorem PrK.keep{h h':Va}{C:Ur->Prop}(k:∀b o,C b->h.get? b=some o->h'.get? b=some o):∀{vs:List Uq} {ps:List (aK×Uq)},(∀a,Ba a∈vs->C a)->PrK prog w h vs ps->PrK prog w h' vs ps
 |[],[],_,_=>trivial
 |_::_,_::_,hC,⟨⟨a,key,e,⟨o,ho,r⟩,q⟩,r2⟩=>⟨⟨a,key,e,⟨o,k a o (hC a (by rw[e];exact Ax)) ho,r⟩,q⟩,PrK.keep k (λa ha=>hC a (Ap _ ha)) r2⟩
 |[],_::_,_,r=>r.elim
 |_::_,[],_,r=>r.elim
theorem FO{a:Ur}{k v:Uq}{Q:List Uq->Ad->Prop}(h:IsTup s.heap a #[k,v])(q:Q [k,v] s):Ut (Uv prog w) A (Mi (.ref a)) Q E s:=by obtain⟨o,ho,hc,n,hd⟩:=h;unfold Mi;refine(Aa (Km (T:= "tuple") ⟨o,ho,hc⟩ ?_));rw[if_pos (by decide)];exact(Aa (Fa ho hd (Ag q)))
theorem Yz{R:Oj->Ad->Prop}{I D:Ur}{fp wr:List Ur}{items:Array Uq}{St:Nat->Va->Prop}(W:Walks prog w A.in1 I fp wr items.size (λi v=>items[i]?=some v) St)(hDf:D∉fp):∀(vs:List Uq) (ps:List (aK×Uq)) (j:Nat) (i:Int) (s:Ad) (kvs:List (aK×Uq)),items.toList.drop j=vs->j+vs.length=items.size->St j s.heap->s.heap.DictOf (aU prog w) D kvs->kvs.length+vs.length<=sizeLine->PrK prog w s.heap vs ps->(∀a,Ba a∈vs->a∉wr/\a≠D)->(∀g tk,g.DictOf (aU prog w) D (ps.foldl (λl p=>Tz l p.1 p.2) kvs)->(∀b o,b∉wr->b≠D->s.heap.get? b=some o->g.get? b=some o)->R (.ok (.ret .none)) {s with heap:=g,toks:=tk})->Fd (Uv prog w) A (.builtin "dict.update.loop" ⟨[.ref D,.ref I,rawInt i,.none],[]⟩) R s
 | [],ps,j,i,s,kvs,e,hj,hst,hd,hz,hp,ha,hR => by
  have nDw:D∉wr:=λz=>hDf (W.sub _ z);cases ps with
  |cons p ps=>exact hp.elim
  |nil=>
   refine Kc LD (by rw[Jn T7 _];show(Ut _ A.in1 (pyNext (.ref I)>>=_) _ _ s);refine(Aa (W.done s _ _ (by rw[show items.size=j by simpa using hj.symm];exact hst) λg tk kept=>?_));show(Ut _ A.in1 (Builtin.Dict.addKeywords D []>>=_) _ _ _);refine(Aa (Ag (Ag ?_)));obtain⟨o,es,ep,ho,r⟩:=hd;exact hR g tk ⟨o,es,ep,kept _ _ nDw ho,r⟩ λb o z1 _ e=>kept b o z1 e)
 | v :: vs,ps,j,i,s,kvs,e,hj,hst,hd,hz,hp,ha,hR => by
  have nDw:D∉wr:=λz=>hDf (W.sub _ z);cases ps with
  |nil=>exact hp.elim
  |cons p ps=>
   obtain⟨⟨a,key,rfl,ht,hk⟩,hp⟩:=hp;obtain⟨na,nD⟩:=ha a Ax;simp only[Bz] at hj hz;have ei:items[j]?=some (.ref a):=by have:=congrArg (λl=>l[0]?) e;simpa using this
   have ed:items.toList.drop (j+1)=vs:=by have:=congrArg List.tail e;simpa using this
   refine Kc LD (by
    rw[Jn T7 _];show(Ut _ A.in1 (pyNext (.ref I)>>=_) _ _ s);refine(Aa (W.item j s _ _ (by lia) hst λv g tk pv qk kept=>?_));obtain rfl:v=.ref a:=by rw[ei] at pv;cases pv;rfl
    obtain⟨o,ho,r⟩:=ht;obtain⟨o2,es,ep,ho2,r2⟩:=hd;refine(Aa (Bo (Aa (wpAny_tryCatch (FO (s:={s with heap:=g,toks:=tk}) ⟨o,kept _ _ na ho,r⟩ ?_)))));refine(Bo (wpAny_dictSet_pairs (s:={s with heap:=g,toks:=tk}) (kvs:=kvs) hk ⟨o2,es,ep,kept _ _ nDw ho2,r2⟩ (λg2 hd2 hs2=>?_) (by lia)));have k6:∀b o,b∉wr->b≠D->s.heap.get? b=some o->g2.get? b=some o:=λb o z1 z2 e=>(hs2.2 b z2).trans (kept b o z1 e);refine(Ag ⟨Pg T7 _,Yz W hDf vs ps (j+1) (i+1) _ (Tz kvs p.1 p.2) ed (by lia) (W.frame _ _ _ qk λb hb o e=>(hs2.2 b (λz=>hDf (by rw[<-z];exact hb))).trans e) hd2 ?_ (PrK.keep (C:=λb=>b∉wr/\b≠D) (λb o hb e=>k6 b o hb.1 hb.2 e) (λa h=>ha a (Ap _ h)) hp) (λa h=>ha a (Ap _ h)) ?_⟩)
    ·have:=stored_length_le kvs p.1 p.2
     lia
    ·exact λg3 tk3 hd3 ng=>hR g3 tk3 hd3 λb o z1 z2 e=>ng b o z1 z2 (k6 b o z1 z2 e))
end
section
variable{prog:Av}{w:Uy}{A:Br}{E:Uq->Ad->Prop}{s:Ad}
theorem E4{l:Ur}{vs:List Uq}{ps:List (aK×Uq)}{Q:Uq->Ad->Prop}(hh:A.handled=none)(pl:PlainL s.heap l vs.toArray)(hz:vs.length<=sizeLine)(hp:PrK prog w s.heap vs ps)(h:∀g tk,g.DictOf (aU prog w) s.heap.objs.size (ps.foldl (λl p=>Tz l p.1 p.2) [])->(∀b o,s.heap.get? b=some o->g.get? b=some o)->Q (.ref s.heap.objs.size) {s with heap:=g,toks:=tk}):Ut (Uv prog w) A (call (.type "dict") [.ref l]) Q E s:=by
 refine(callType_codes (Q₁:=λobj s₁=>obj=.ref s.heap.objs.size/\s₁={s with heap:=s.heap.push {cls:=.type "dict",data:=.dict #[]}}) F.kt_called_dict (F.kt_typeCall_dict_1 _) F.entry_dict_init (kt_code_dict_new _ ⟨rfl,rfl⟩) ?_);rintro obj s₁ ⟨rfl,rfl⟩;have gq:(s.heap.push {cls:=.type "dict",data:=.dict #[]}).DictOf (aU prog w) s.heap.objs.size []:=Rw s.heap;obtain⟨o,n,ho,hc,hd,bn⟩:=pl;have ho':(s.heap.push {cls:=.type "dict",data:=.dict #[]}).get? l=some o:=Ac _ ho;refine⟨gq.typeIs,F.args_dict_init_2 _ _,?_⟩;unfold Dq.«dict.__init__»;refine(Aa ?_);unfold Builtin.Dict.selfAndRest;refine(Aa (wpAny_notOrdered_dict gq.typeIs ?_));show(Ut _ _ (pure (s.heap.objs.size,[Ba l])) _ _ _);refine(Ag ?_);show(Ut _ _ (Lu "dict.__init__" s.heap.objs.size (.ref l) [] .none) _ _ _);unfold Lu;refine(Aa (Km (T:= "list") ⟨o,ho',hc⟩ ?_));rw[if_pos (by decide)];refine(Aa (BM ho' hc bn hd (by simp[hh]) λg1 tk1 k1=>?_));simp only[Option.isNone_none,if_true];refine(Aa (Gk ?_));have o1:g1.get? l=some o:=k1 _ _ ho';have od:g1.get? s.heap.objs.size=some {cls:=.type "dict",data:=.dict #[]}:=k1 _ _ (Ao _ rfl);have lts:s.heap.objs.size<g1.objs.size:=Aj od;have ltl:l<s.heap.objs.size:=Aj ho;have hl1:g1.IsList l vs.toArray:=⟨o,o1,hc,n,bn⟩;have me:∀b ob,s.heap.get? b=some ob->g1.get? b=some ob:=λb ob q=>k1 b ob (Ac _ q);have ne1:∀b ob,s.heap.get? b=some ob->b∉[g1.objs.size]/\b≠s.heap.objs.size:=λb ob q=>by have:=Aj q;exact⟨λz=>by rw[Ay.mp z] at this;exact absurd (Ql this lts) (Bq _),λz=>by rw[z] at this;exact Bq _ this⟩
 have hin:∀{vs:List Uq} {ps:List (aK×Uq)},PrK prog w s.heap vs ps->∀a,Ba a∈vs->∃ob,s.heap.get? a=some ob:=by
  intro vs;induction vs with
  |nil=>intro ps _ a ha;cases ha
  |cons v vs ih=>
   intro ps hp a ha;cases ps with
   |nil=>exact hp.elim
   |cons p ps=>
    rcases Al.mp ha with e|ha
    ·obtain⟨⟨b,key,e2,⟨ob,hob,_⟩,_⟩,_⟩:=hp
     rw[e2] at e;cases e;exact⟨ob,hob⟩
    ·exact ih hp.2 a ha
 refine(Aa (Fx (s:={s with heap:=g1,toks:=tk1}) hl1 ?_));have W:=Td (prog:=prog) (w:=w) (A:=A.in1.in1) (by simp[hh]) g1.objs.size l (Aw (Ql ltl lts)) vs.toArray;refine(Ag ⟨Pg T7 _,Yz (A:=A.in1) W (λz=>?_) vs ps 0 0 _ [] (by simp) (by simp) ⟨⟨_,Ao _ rfl,rfl,rfl⟩,hl1.push _⟩ ?_ (by simpa using hz) (PrK.keep (C:=λ_=>True) (λb ob _ q=>Ac _ (me b ob q)) (λ_ _=>trivial) hp) (λa ha=>?_) λg tk hdd kept=>⟨rfl,h g tk hdd λb ob q=>?_⟩⟩)
 ·rcases Al.mp z with z|z
  ·exact absurd lts (by rw[<-z];exact Bq _)
  ·rw[<- Ay.mp z] at ltl
   exact Bq _ ltl
 ·obtain⟨o2,es,ep,ho2,r2⟩:=gq
  exact⟨o2,es,ep,Ac _ (k1 _ _ ho2),r2⟩
 ·obtain⟨ob,hob⟩:=hin hp a ha
  exact ne1 a ob hob
 ·exact kept b ob (ne1 b ob q).1 (ne1 b ob q).2 (Ac _ (me b ob q))
end
variable{X:Cx}{K:Ai}{H:Hp}{σ:St}{s:Ad}{aa:List (Ur×Vc)}{ml:List Nat}{pa ta ia:Bool}{fa:VF}{a:Ux}{p' pos:Pos}
noncomputable def BN:cX->Option (aK×cX)
 |.tup [k,v]=>(WH k).map λkk=>(kk,v)
 |_=>none
noncomputable def UN:List cX->Option (List (aK×cX))
 |[]=>some []
 |d::ds=>(BN d).bind λp=>(UN ds).map λps=>p::ps
def IV(K:Ai)(H:Hp):List V->List (aK×V)->Prop
 |[],[]=>True
 |v::vs,p::ps=>(∃a,v=.ref a/\WM K H a [kV p.1,p.2])/\IV K H vs ps
 |_,_=>False
theorem iE{d:cX}{p:aK×cX}(h:BN d=some p):∃k,d=.tup [k,p.2]/\WH k=some p.1:=by
 unfold BN at h;split at h
 ·rename_i k v
  cases e:WH k with
  |none=>rw[e] at h;cases h
  |some kk=>rw[e] at h;cases h;exact⟨k,rfl,e⟩
 ·cases h
theorem G4{N:Ur->Prop}:∀{xs:List V} {ds:List cX} {kds:List (aK×cX)},cD K N H xs ds->UN ds=some kds->∃kvs:List (aK×V),IV K H xs kvs/\kvs.map Dn=kds.map Dn/\cD K N H (kvs.map Eo) (kds.map Eo)
 |_,_,_,.nil,h=>by cases h;exact⟨[],trivial,rfl,.nil⟩
 | _,_,kds,@cD.cons _ _ _ v vs d ds h t,e => by
  have e:(BN d).bind (λp=>(UN ds).map λps=>p::ps)=some kds:=e;cases h1:BN d with
  |none=>rw[h1] at e;cases e
  |some p=>
   rw[h1] at e;have e:(UN ds).map (λps=>p::ps)=some kds:=e;cases h2:UN ds with
   |none=>rw[h2] at e;cases e
   |some qs=>
    rw[h2] at e;cases e;obtain⟨kvs,r1,r2,r3⟩:=G4 t h2;obtain⟨k,rfl,hk⟩:=iE h1;cases h with
    |tup sq r=>
     cases r with
     |cons w1 r=>
      cases r with
      |cons w2 r=>
       cases r;have ek:=w1.key hk;subst ek;exact⟨(p.1,_)::kvs,⟨⟨_,rfl,sq⟩,r1⟩,by simp[r2],.cons w2 r3⟩
theorem IV.prK(I:cK X aa σ H s):∀{xs:List V} {us:List Uq} {kvs:List (aK×V)},IV X.K H xs kvs->bN xs us->∃ps:List (aK×Uq),KV kvs ps/\PrK X.prog X.w s.heap us ps
 |[],_,[],_,.nil=>⟨[],.nil,trivial⟩
 | _ :: _,_,p :: _,⟨⟨b,e,q⟩,r⟩,.cons h t => by
  subst e;cases h;obtain⟨ps,r1,r2⟩:=IV.prK I r t;obtain⟨its,rv,ht,_⟩:=I.tuple q;cases rv with
  |cons w1 rv=>
   cases rv with
   |cons w2 rv=>
    cases rv;exact⟨(p.1,_)::ps,.cons ⟨rfl,w2⟩ r1,⟨b,_,rfl,ht,LN w1⟩,r2⟩
 |[],_,_::_,h,_=>h.elim
 |_::_,_,[],h,_=>h.elim
theorem IV.len:∀{xs:List V} {ps:List (aK×V)},IV K H xs ps->xs.length=ps.length
 |[],[],_=>rfl
 |_::_,_::_,r=>by simp[IV.len r.2]
 |[],_::_,r=>r.elim
 |_::_,[],r=>r.elim
def Zb(K:Ai):RC:=λxs H Q=>∃(p:Ur) (ys:List V) (kvs:List (aK×V)),xs=[.ref p]/\YA K H p ys/\IV K H ys kvs/\(kvs.map Dn).Nodup/\∀l:Ur,H l=none->Q (.ref l) (upd H l (.dK kvs))
theorem kN(h:X.K=K)(hc:X.calm=true):aR X (.type "dict") (Zb K):=by subst h;intro aa s σ H xs us Q I r h;obtain⟨p,ys,kvs,rfl,hq,hp,nd,q⟩:=h;obtain⟨u,rfl,rx⟩:=U9 r;cases rx;obtain⟨its,rv,pl,hz⟩:=I.list hq;have ah:=rv.length;have hpl:=hp.len;obtain⟨ps,r1,r2⟩:=hp.prK I rv;refine E4 (I.ok.hd hc) pl (by lia) r2 λg tk hd kept=>?_;have hm:NV [] kvs=kvs:=LR (acc:=[]) (by simpa using nd);have rel:=KV.merge r1 (kvs:=[]) (vs:=[]) .nil;rw[hm] at rel;exact⟨.ref s.heap.objs.size,_,I.laid (a:=s.heap.objs.size) (o:=.dK kvs) (t':=tk) kept (Am _) (Ze (by lia) (beq_eq_false_iff_ne.mpr (Dk (Aw I.big))) rel hd),rfl,q _ (I.hok.fresh (Am _))⟩
noncomputable def DL:cX->Option cX
 |.lst ds=>(UN ds).bind λkds=>if(kds.map Dn).Nodup then some (.dct (kds.map Dn) (kds.map Eo)) else none
 |_=>none
def CalD(K:Ai)(r:RC)(o:cX->Option cX):Prop:=∀(H:Hp) (N M:Ur->Prop) (x:V) (d c:cX) (Q:VK),bI K N H M x d->o d=some c->
 (∀p (kvs:List (aK×V)) ds,H p=none->cD K N H (kvs.map Eo) ds->c=.dct (kvs.map Dn) ds->Q (.ref p) (upd H p (.dK kvs)))->r [x] H Q
theorem lV:CalD K (Zb K) DL:=by
 intro H N M x d c Q hx h k;cases d with
 |lst ds=>
  have h:((UN ds).bind λkds=>if(kds.map Dn).Nodup then some (cX.dct (kds.map Dn) (kds.map Eo)) else none)=some c:=h;cases h1:UN ds with
  |none=>rw[h1] at h;cases h
  |some kds=>
   rw[h1] at h;have h:(if(kds.map Dn).Nodup then some (cX.dct (kds.map Dn) (kds.map Eo)) else none)=some c:=h;split at h
   ·rename_i nd
    cases h;obtain⟨a,xs,rfl,sq,r⟩:=hx.lstE;obtain⟨kvs,r1,r2,r3⟩:=G4 r h1;exact⟨a,xs,kvs,rfl,sq,r1,by rw[r2];exact nd,λl hl'=>k l kvs _ hl' r3 (by rw[r2])⟩
   ·cases h
 |_=>cases h
theorem mkDK{B:Bs}{O:Nat->Option Ur}{H1:Hp}{δ':Ev}{p:Ur}{pu:Bool}{kvs:List (aK×V)}{ds:List cX}(S:aS K ml B O H1 σ δ')(f:Fr (OA O) H H1)(s:pu=true->aZ H H1)(hp:H1 p=none)(r:cD K (Nn B O) H1 (kvs.map Eo) ds):ResN K ml B O H σ pu (upd H1 p (.dK kvs)) δ' p (.dct (kvs.map Dn) ds):=
 ⟨S.laid hp,f.trans (cQ hp).fr,λz=>(s z).trans (cQ hp),.dct cF ((r.away hp _ _ WO).same (cQ hp)),S.new hp,S.fresh hp⟩
theorem CN(hK:X.K=K)(hc:X.calm=true)(hg:Gl X "dict")(hm:X.mg "dict"=none)(hv:Be "dict"=some (.type "dict"))(ha:PE X a (TV K ml pa ta true fa))(hn:("dict":Uw)≠ "__name__":=by decide)(hdb:(("dict":Uw)==("__debug__":Uw))=false:=by decide)(he:Us (a::[]) X.env=(false,eval a X.env)::Us [] X.env:=by rfl):PE X (.Call (.Name "dict" p') [a] [] pos) (TN K ml pa (f1 DL fa)):=
 (V8 (kN hK hc) hg hm hv (bM ha ZY he) hn hdb he).imp λσ H Q h=>by obtain⟨B,O,δ,d,δ',S,q,k⟩:=h;obtain⟨x,h1,h2⟩:=QM q;refine⟨B,O,δ,x,δ',S,h1,λv1 H1 R1=>lV H1 _ _ v1 x d Q R1.rep h2 λp kvs ds hp hr he=>?_⟩;subst he;exact k p _ (mkDK R1.sta R1.frm R1.pur hp hr)
end L2
namespace TS
open PySem PySem.W PyProof.Rows
section
variable{n:Nat}{ck:Nat->Nat->Bool}
theorem E9:(Ar 64).all (λn=>(sortPriv% PySem.Builtin.minRun) n n 0==n)=true:=by decide+kernel
theorem jQ{x:Pu}(h:Pm n x.p)(hp:x.pd= #[])(h64:n<64):X n ck (λ_=>sortRuns') x (λ(_:Unit) _=>()) (λ_ y=>Pm n y.p):=by
 refine X.go D.get ?_;have esz:∀e:En,(arrOf (stO e x)).size=n:=λe=>by show(e.of x.p).size=n;rw[gE,h.sz]
 have epd:∀(e:En) (y:Pu),pendingOf (stO e y)=y.pd:=λe y=>rfl;have emr:(sortPriv% PySem.Builtin.minRun) n n 0=n:=beq_iff_eq.mp (Ei.mp E9 n (Ca.mpr h64));simp only[esz];generalize (sortPriv% PySem.Builtin.minRun) n n 0=mr at emr;subst emr;refine X.bind (u:=λ(t:Nat) _=>(none,t)) (S:=λt y=>Pm mr y.p/\y.pd.size<=1) ?_ ?_
 ·refine X.range (I := λ_ t y => Pm mr y.p /\ (t = 0 /\ y.pd = #[] ∨ mr <= t /\ y.pd.size <= 1)) (t := 0) (λt y h => ⟨h.1,by
   rcases h.2 with q|q
   ·rw[q.2];decide
   ·exact q.2⟩) ⟨h,.inl ⟨rfl,hp⟩⟩ λi _ _ k lo y hw=>?_
  refine X.ite (λ_=>X.done lo ⟨hw.1,by
   rcases hw.2 with q|q
   ·rw[q.2];decide
   ·exact q.2⟩) λq=>?_
  dsimp only at q;obtain⟨rfl,hpd⟩:lo=0/\y.pd= #[]:=by
   rcases hw.2 with h|h
   ·exact h
   ·lia
  refine X.bind (count hw.1 (by dsimp only;lia) (by dsimp only;lia)) ?_;rintro m z ⟨m1,m2,hz⟩;dsimp only at m2;have ez:z.pd= #[]:=hz.2.trans hpd;refine X.ite (λ_=>X.go D.rule (X.bind (bin hz.1 (by dsimp only;lia)) λ_ z2 hz2=>X.ite (λhf=>absurd hf (by simp)) λ_=>?_)) λqm=>?_
  ·have ez2:z2.pd= #[]:=hz2.2.trans ez
   refine X.go D.get ?_;simp only[epd];rw[show z2.pd.back? =none by rw[ez2];rfl];exact X.go (D.modify (y:={z2 with pd:=z2.pd.push (0,(min (mr - 0) mr),0)}) λe=>rfl) (X.yield (0+(min (mr - 0) mr)) ⟨hz2.1,.inr ⟨by lia,by rw[ez2];exact Am 1⟩⟩)
  ·refine X.go D.get ?_
   simp only[epd];rw[show z.pd.back? =none by rw[ez];rfl];exact X.go (D.modify (y:={z with pd:=z.pd.push (0,m,0)}) λe=>rfl) (X.yield (0+m) ⟨hz.1,.inr ⟨by lia,by rw[ez];exact Am 1⟩⟩)
 ·intro lo y hw
  refine X.bind (u:=λ(_:Unit) _=>(none,())) (S:=λ_ y=>Pm mr y.p) ?_ λ_ y h=>X.ret () h;refine X.range (I:=λ_ _ y=>Pm mr y.p/\y.pd.size<=1) (t:=()) (λt y h=>h.1) hw λi _ _ k _ y hw=>?_;refine X.go D.get ?_;simp only[epd];refine X.ite (λ_=>X.done () hw.1) λq=>?_;exact absurd hw.2 (by lia)
theorem OD(n:Nat)(ck:Nat->Nat->Bool)(h64:n<64):∃y:Pu,Pm n y.p/\D n ck (λ_=>sortRuns') (xS n) (λ_=>()) y:=by obtain⟨t,y,h,d⟩:=jQ (n:=n) (ck:=ck) (x:=xS n) (Pm.id n) rfl h64;exact⟨y,h,d⟩
noncomputable def srt0(n:Nat)(ck:Nat->Nat->Bool):List Nat:=if h:2<=n/\n<64 then(OD n ck h.2).choose.p.toList else Ar n
theorem MC(n:Nat)(ck:Nat->Nat->Bool):(srt0 n ck).Perm (Ar n):=by
 unfold srt0;split
 ·rename_i h
  exact(OD n ck h.2).choose_spec.1
 ·exact .refl _
end
section
variable{prog:Av}{w:Uy}{A:Br}{E:Uq->Ad->Prop}{s:Ad}
theorem F5{a:Ur}{vs:List Uq}{nn:Nat}{κ:Rn}{ck:Nat->Nat->Bool}{P:PySem.Fin->Ad->Prop}(ho:s.heap.get? a=some (Hq "list" vs.toArray nn))(hz:vs.length<=sizeLine)(h64:vs.length<64)(hk:2<=vs.length->∀h':Va,(∀b o,b≠a->s.heap.get? b=some o->h'.get? b=some o)->∀Q':Rn->Ad->Prop,Q' κ {s with heap:=h'}->Ut (Uv prog w) A (keyKind' vs.toArray) Q' E {s with heap:=h'})(hc:∀h':Va,(∀b o,b≠a->s.heap.get? b=some o->h'.get? b=some o)->∀i j,i<vs.length->j<vs.length->∀C:Bool->Ad->Prop,C (ck i j) {s with heap:=h'}->Ut (Uv prog w) A (keyLt' κ (vs.getD i Value.none) (vs.getD j Value.none)) C (λ_ _=>False) {s with heap:=h'})(h:P (.done (.ret .none)) {s with heap:=sortedHeap s.heap a vs ((srt0 vs.length ck).map λi=>vs.getD i Value.none).toArray}):Ut (Uv prog w) A (Dq.«list.sort» ⟨[.ref a],[]⟩) P E s:=by
 have lt:=Aj ho;have hsz:vs.toArray.size=vs.length:=by simp
 obtain⟨e1,ho1⟩:∃k,(s.heap.update a (Fl λ_=> #[])).get? a=some (Hq "list" #[] k):=⟨_,get?_update_seq ho (λ_=> #[])⟩;have keep:∀b o,b≠a->s.heap.get? b=some o->(((s.heap.update a (Fl λ_=> #[])).push (Hq "tuple" vs.toArray 0)).push (Hq "list" #[] 0)).get? b=some o:=λb o hb hbo=>
  Ac _ (Ac _ (by rw[Oe _ _ _ _ hb];exact hbo))
 have ho6:(((s.heap.update a (Fl λ_=> #[])).push (Hq "tuple" vs.toArray 0)).push (Hq "list" #[] 0)).get? a=some (Hq "list" #[] e1):=Ac _ (Ac _ ho1);have rj:∀l:List Uq,l.length=vs.length->l.toArray.size<=sizeLine+1:=λl hl=>by rw[An];lia
 rw[list_sort_plain];refine(Aa (listItems_at ho rfl ?_));refine(Aa (Ph ho rfl ?_ (by rw[An];lia) (Di _)));refine(Aa (Sh ho1 rfl ?_));refine(Aa (wpAny_newTuple ?_ (by show vs.length<=_;exact hz)));refine(Aa (wpAny_newList (Bo ?_) (Di _)))
 ·show (Ut (Uv prog w) A _ P E { s with heap := (((s.heap.update a (Fl λ_ => #[])).push (Hq "tuple" vs.toArray 0)).push (Hq "list" #[] 0)) })
  dsimp only;have ah:((srt0 vs.length ck).map λi=>vs.getD i Value.none).length=vs.length:=by rw[By,(MC _ _).length_eq,Gy]
  by_cases h2:vs.toArray.size<2
  ·have he : ((srt0 vs.length ck).map λi => vs.getD i Value.none) = vs := by unfold srt0;rw[dif_neg (by lia)];exact B9 vs
   rw[he] at h;rw[if_pos h2,if_pos h2];refine(Aa (Ag ?_));rw[StateT.run_pure];refine(Aa (Ag ?_));dsimp only;have hm:(vs.toArray.zip vs.toArray).map (·.2)=vs.toArray:=by apply Ra.mp;simp;exact List.map_snd_zip (Am _)
   rw[hm];refine(Aa (Sh ho6 rfl (Aa (Ph ho6 rfl ?_ (hsz2:=by rw[An];lia)))));simp only[bne_self_eq_false,Fo,if_false];exact Ag h
  ·rw[if_neg h2,if_neg h2]
   refine(Aa (hk (by lia) _ keep _ ?_));have n2:2<=vs.length:=by lia
   have spec:=(OD vs.length ck h64).choose_spec;have nj:srt0 vs.length ck=(OD vs.length ck h64).choose.p.toList:=by unfold srt0;rw[dif_pos ⟨n2,h64⟩]
   generalize (OD vs.length ck h64).choose=y at spec nj;let e:En:=⟨prog,w,A,{s with heap:=(((s.heap.update a (Fl λ_=> #[])).push (Hq "tuple" vs.toArray 0)).push (Hq "list" #[] 0))},κ,Qc vs⟩
   have eok:e.Ok vs.length ck:=λi j hi hj C q=>by show Ut (Uv prog w) A (keyLt' κ (Ls (Qc vs) i).1 (Ls (Qc vs) j).1) C _ _;rw[Si,Si];exact hc _ keep i j hi hj C q
   have est:Le κ (vs.toArray.zip vs.toArray) #[] 7 none=stO e (xS vs.length):=by have q:=kas_range (Qc vs);rw[pairsOf_size] at q;show Le κ (Qc vs) #[] 7 none=Le κ ((List.toArray (Ar vs.length)).map (Ls (Qc vs))) #[] 7 none;rw[q]
   rw[est];have qo:(e.of y.p).map (·.2)=((srt0 vs.length ck).map λi=>vs.getD i Value.none).toArray:=by apply Ra.mp;rw[nj,Array.map_map,Array.toList_map];exact Jx λi _=>by show(Ls (Qc vs) i).2=_;rw[Si]
   have run:=spec.2 e eok E (λ_ st' s'=>st'=stO e y/\s'=e.s) ⟨rfl,rfl⟩;refine(Aa (Aq run ?_ λ_ _ x=>x));rintro ⟨⟨⟩,st'⟩ s' ⟨rfl,rfl⟩;show(Ut (Uv prog w) A _ P E {s with heap:=(((s.heap.update a (Fl λ_=> #[])).push (Hq "tuple" vs.toArray 0)).push (Hq "list" #[] 0))});dsimp only;rw[show(arrOf (stO e y))=e.of y.p from rfl,qo];refine(Aa (Sh ho6 rfl (Aa (Ph ho6 rfl ?_ (hsz2:=by rw[An];lia)))));rw[show failedOf (stO e y)=none from rfl];simp only[bne_self_eq_false,Fo,if_false];exact Ag h
theorem KI{l:Ur}{vs:List Uq}{κ:Rn}{ck:Nat->Nat->Bool}{Q:Uq->Ad->Prop}(hl:s.heap.IsList l vs.toArray)(hz:vs.length<=sizeLine)(h64:vs.length<64)(hk:2<=vs.length->∀(A:Br) (E:Uq->Ad->Prop) (h':Va),(∀b o,s.heap.get? b=some o->h'.get? b=some o)->∀Q':Rn->Ad->Prop,Q' κ {s with heap:=h'}->Ut (Uv prog w) A (keyKind' vs.toArray) Q' E {s with heap:=h'})(hc:∀(A:Br) (h':Va),(∀b o,s.heap.get? b=some o->h'.get? b=some o)->∀i j,i<vs.length->j<vs.length->∀C:Bool->Ad->Prop,C (ck i j) {s with heap:=h'}->Ut (Uv prog w) A (keyLt' κ (vs.getD i Value.none) (vs.getD j Value.none)) C (λ_ _=>False) {s with heap:=h'})(h:Q (.ref (s.heap.objs.size+1)) {s with heap:=sortedAll s.heap vs ((srt0 vs.length ck).map λi=>vs.getD i Value.none).toArray}):Ut (Uv prog w) A (call (.builtin "sorted") [.ref l]) Q E s:=by
 refine(Calls.call_function_entry kind_sorted plain_sorted entry_sorted (args_sorted1 _) ?_);unfold Dq.«sorted»;refine(Aa (m:=checkCount "sorted" 1 1 _) (Ag (Aa (collect_list hl (Aa (wpAny_newList ?_ (by exact hz))) hz))));have hs1:((s.heap.push (Hq "list" #[] 0)).update s.heap.objs.size (Fl (· ++vs.toArray))).objs.size=s.heap.objs.size+1:=by rw[Qz,size_push']
 have hoL:(((s.heap.push (Hq "list" #[] 0)).update s.heap.objs.size (Fl (· ++vs.toArray))).push (Hq "list" vs.toArray 0)).get? (s.heap.objs.size+1)=some (Hq "list" vs.toArray 0):=by rw[<-hs1];exact Ao _ rfl
 have keep:∀b o,s.heap.get? b=some o->(((s.heap.push (Hq "list" #[] 0)).update s.heap.objs.size (Fl (· ++vs.toArray))).push (Hq "list" vs.toArray 0)).get? b=some o/\b≠s.heap.objs.size+1:=λb o q=>by have hlt:b<s.heap.objs.size:=Aj q;refine⟨?_,Aw (Ld hlt)⟩;rw[Iw _ _ _ (by rw[hs1];exact(Aw (Ld hlt))),Oe _ _ _ _ (Aw hlt),Iw _ _ _ (Aw hlt)];exact q
 show(Ut _ _ _ _ _ {s with heap:=((s.heap.push (Hq "list" #[] 0)).update s.heap.objs.size (Fl (· ++vs.toArray))).push (Hq "list" vs.toArray 0)});rw[hs1];refine(Aa (Bo (Du slot_list_sort ⟨_,hoL,rfl⟩ entry_list_sort (F5 (κ:=κ) (ck:=ck) hoL hz h64 (λn2 h' k'=>hk n2 _ _ h' λb o q=>k' b o (keep b o q).2 (keep b o q).1) (λh' k'=>hc _ h' λb o q=>k' b o (keep b o q).2 (keep b o q).1) ⟨_,rfl,?_⟩) (args_list_sort _))));exact(Ag ⟨_,rfl,h⟩)
theorem MZ{l:Ur}{vs:List Uq}{ps:List (Int×Int)}{Q:Uq->Ad->Prop}(hl:s.heap.IsList l vs.toArray)(hz:vs.length<=sizeLine)(h64:vs.length<64)(hp:PrI s.heap vs ps)(h:Q (.ref (s.heap.objs.size+1)) {s with heap:=sortedAll s.heap vs ((srt0 vs.length (ckP ps)).map λi=>vs.getD i Value.none).toArray}):Ut (Uv prog w) A (call (.builtin "sorted") [.ref l]) Q E s:=by
 refine KI (κ:=tuples' true) hl hz h64 (λn2 A E h' k' Q' q=>?_) (λA h' k' i j hi hj C q=>?_) h
 ·obtain⟨fs,h1,h2,h3⟩:=(hp.keep k').tups
  refine kat_kind (s:={s with heap:=h'}) (T:=.type "int") h1 (by lia) (λv hv=>?_) (by decide) q;obtain⟨i,t,rfl⟩:=h3 v hv;exact Looks.now
 ·obtain⟨a,t,u,e1,t1⟩:=(hp.keep k').at hi
  obtain⟨b,t',u',e2,t2⟩:=(hp.keep k').at hj;rw[e1,e2];exact kQ (s:={s with heap:=h'}) t1 t2 q
end
end TS
namespace L2
open PySem PySem.Spec PyProof.Rows
variable{X:Cx}{K:Ai}
noncomputable def IB(ps:List (Int×Int)):List Nat:=TS.srt0 ps.length (TS.ckP ps)
theorem T9(ps:List (Int×Int)):(IB ps).Perm (Ar ps.length):=TS.MC _ _
def Xi(K:Ai):RC:=λxs H Q=>∃(p:Ur) (ys:List V) (ps:List (Int×Int)),xs=[.ref p]/\YA K H p ys/\ys.length<64/\PrV K H ys ps/\∀l:Ur,H l=none->Q (.ref l) (upd H l (.lst ((IB ps).map λi=>ys.getD i .non)))
theorem dI(h:X.K=K):aR X (.builtin "sorted") (Xi K):=by
 subst h;intro aa s σ H xs us Q I r h;obtain⟨p,ys,ps,rfl,hq,h64,hp,q⟩:=h;obtain⟨u,rfl,rx⟩:=U9 r;cases rx;obtain⟨its,rv,pl,hz⟩:=I.list hq;have ah:=rv.length;have hpl:=hp.len;have hn:H (s.heap.objs.size+1)=none:=I.hok.fresh (Dx _);refine TS.MZ pl.isList (by lia) (by lia) (hp.prI I rv) ?_;rw[show its.length=ps.length by lia];obtain⟨e,he⟩:=sortedAll_at s.heap its ((TS.srt0 ps.length (TS.ckP ps)).map λi=>its.getD i Value.none).toArray;refine⟨.ref (s.heap.objs.size+1),_,I.laid (a:=s.heap.objs.size+1) (o:=.lst ((IB ps).map λi=>ys.getD i .non)) (t':=s.toks) (λb o=>sortedAll_old) (Dx _) ?_,rfl,q _ hn⟩;refine⟨by rw[By,(T9 ps).length_eq,Gy];lia,(IB ps).map λi=>its.getD i Value.none,e,MI rv _ λi hi=>?_,?_⟩
 ·have:=Ca.mp ((T9 ps).mem_iff.mp hi)
  lia
 ·rw[he]
  rfl
noncomputable def FL:cX->Option cX
 |.lst ds=>if ds.length<64 then(N7 ds).bind λps=>some (.lst ((IB ps).map λi=>ds.getD i .non)) else none
 |_=>none
theorem kB:AH K (Xi K) FL:=by
 intro H N M x d c Q hx h k;cases d with
 |lst ds=>
  have h:(if ds.length<64 then(N7 ds).bind λps=>some (cX.lst ((IB ps).map λi=>ds.getD i .non)) else none)=some c:=h;split at h
  ·rename_i h64
   cases h1:N7 ds with
   |none=>rw[h1] at h;cases h
   |some ps=>
    rw[h1] at h;cases h;obtain⟨a,xs,rfl,sq,r⟩:=hx.lstE;exact⟨a,xs,ps,rfl,sq,by rw[r.length];exact h64,DV r h1,λl hl'=>k l _ _ hl' (L7 r _) rfl⟩
  ·cases h
 |_=>cases h
section
variable{prog:Av}{w:Uy}{A:Br}{E:Uq->Ad->Prop}{s:Ad}
theorem Q2:isSubtype (.type "range_iterator") (.type "reversed")=pure false:=by rw[isSubtype_type];kernel_rfl
theorem kP{r:Ur}{n:Int}{t u v:Vl}{Q:Uq->Ad->Prop}(hn: -(2 ^ 62)<=n/\n<2 ^ 62)(hr:s.heap.get? r=some {cls:=.type "range",data:=.fields #[.int 0 t,.int n u,.int 1 v]})(h:Q (.ref s.heap.objs.size) {s with heap:=s.heap.push {cls:=.type "range_iterator",data:=.fields #[rawInt ((n.toNat:Int) - 1),rawInt (n.toNat:Int),rawInt (-1)]}}):Ut (Uv prog w) A (call (.builtin "range.__reversed__") [.ref r]) Q E s:=by
 refine Du F.slot_range_reversed ⟨_,hr,rfl⟩ F.entry_range_reversed ?_ (F.args_range_reversed_1 _);unfold Dq.«range.__reversed__»;refine Aa (Hj (a:=Ba r) rfl ?_);have sz:Gh 0 n 1=(n.toNat:Int):=by rw[rangeSize_one];split<;>lia
 have fl:(Cr 0&&Cr n&&Cr 1&&Cr (-1)&&Cr (0 - 1)&&Cr (n.toNat:Int))=true:=by simp only[Cr,Ae,decide_eq_true_eq];lia
 obtain⟨hh,g,d,tk,os⟩:=s;unfold Sv;repeat (any_goals (first|with_reducible refine Dw hr rfl rfl ?_|wp_step))
 dsimp only;rw[sz,fl];refine Aa (Cm (Ag ⟨_,rfl,?_⟩));rw[show(0:Int)+((n.toNat:Int) - 1)*1=(n.toNat:Int) - 1 by lia];exact h
theorem JM{r:Ur}{n:Int}{t u v:Vl}{Q:Uq->Ad->Prop}(hn: -(2 ^ 62)<=n/\n<2 ^ 62)(hr:s.heap.get? r=some {cls:=.type "range",data:=.fields #[.int 0 t,.int n u,.int 1 v]})(h:Q (.ref s.heap.objs.size) {s with heap:=s.heap.push {cls:=.type "range_iterator",data:=.fields #[rawInt ((n.toNat:Int) - 1),rawInt (n.toNat:Int),rawInt (-1)]}}):Fd (Uv prog w) A (.call (.builtin "reversed.__new__") ⟨[.type "reversed",.ref r],[]⟩) (wants Q E) s:=by
 refine Mz (show Ut _ A.in1 (do Jj "reversed.__new__" ⟨[.type "reversed",.ref r],[]⟩;Sc (.builtin "reversed.__new__" ⟨[.type "reversed",.ref r],[]⟩)) _ _ s from ?_);refine Aa (Hj (F.newCall_reversed_1 _) (Ag ⟨Pg Nh _,Kc F.entry_reversed_new ?_⟩));rw[Jn Nh _];unfold Dq.«reversed.__new__»;refine Aa (Hj (newClass_reversed _) (Aa (Hj (a:=()) (by first|rfl|kernel_rfl) (Aa (Hj (a:=()) (by first|rfl|kernel_rfl) ?_)))));refine Aa (Mt (⟨_,hr,rfl⟩:s.TypeIs (.ref r) "range") F.slot_range_reversed.lookup ?_);refine Aa (Hj (F.slot_range_reversed.bind _) ?_);show Ut _ _ (if(Pa "range.__reversed__"==Value.none)=true then _ else _) _ _ _;rw[if_neg (by decide)];refine Aa (Gk (Aa (m:=runValue (.call (.builtin "range.__reversed__") ⟨[.ref r],[]⟩)) (show Ut _ _ (call (.builtin "range.__reversed__") [.ref r]) _ _ _ from kP hn hr ?_)));first
 |exact Ag h
 |exact Aa (Ag (Ag h))
theorem JH{r:Ur}{n:Int}{t u v:Vl}{Q:Uq->Ad->Prop}(hn: -(2 ^ 62)<=n/\n<2 ^ 62)(hr:s.heap.get? r=some {cls:=.type "range",data:=.fields #[.int 0 t,.int n u,.int 1 v]})(h:Q (.ref s.heap.objs.size) {s with heap:=s.heap.push {cls:=.type "range_iterator",data:=.fields #[rawInt ((n.toNat:Int) - 1),rawInt (n.toNat:Int),rawInt (-1)]}}):Ut (Uv prog w) A (call (.type "reversed") [.ref r]) Q E s:=
 callType_other (U:= "range_iterator") (Q₁:=λobj s₁=>s₁.TypeIs obj "range_iterator" /\Q obj s₁) (by decide+kernel) F.create_reversed ⟨_,_,F.mro_reversed⟩ F.made_reversed Q2 (F.typeCall_reversed_1 _) (JM hn hr ⟨⟨_,Ao _ rfl,rfl⟩,h⟩) λ_ _ z=>z
end
def ItB(n:Nat):It:=⟨λi _=>i<n,λi H x H'=>H'=H/\x=.int ((n:Int) - 1 - i),λi _=>n<=i⟩
theorem iL{P:Av}{w:Uy}{K:Ai}{tg:Ux}(it:Ur)(n:Nat):IZ P w K tg (ItB n) [it] it (λi h=>Lk h it ((n:Int) - 1+(i:Nat)*(-1)) ((n:Int) - (i:Nat)) (-1)) where
 mem:=by simp
 obj:=λi h st b hb=>by
  have e:b=it:=by simpa using hb
  subst e;exact⟨_,st,λv z=>by have z':Data.fields _=Data.cell v:=z;cases z'⟩
 keep:=λi h h' st k=>k it (by simp) _ st
 item:=by intro X hP hw hK hc i aa s σ H E I hf st hg;subst hP hw hK;obtain⟨f0,f1,f2,f3,f4,f5⟩:=hf it (by simp);refine(Uh (prog:=X.prog) (w:=X.w) (I.ok.hd hc) it ((n:Int) - 1) (-1) n).item i s _ _ hg st λv h' tk hv st' kk=>?_;obtain⟨t,rfl⟩:=hv;have I1:cK X aa σ H {s with heap:=h',toks:=tk}:=I.turned (λb o hb e=>kk b o (by simpa using hb) e) f0 f1 f3 f4 f5;exact⟨_,rfl,C9 (s:={s with heap:=h',toks:=tk}) (n:= "range_iterator") st' rfl rfl (by decide) ⟨.int ((n:Int) - 1 - i),H,I1,⟨t,by congr 1;lia⟩,⟨rfl,rfl⟩,st',λb hb=>(hf b hb).1⟩⟩
 done:=by intro X hP hw hK hc i aa s σ H E I hf st hg;subst hP hw hK;obtain⟨f0,f1,f2,f3,f4,f5⟩:=hf it (by simp);exact Me (I.ok.hd hc) st (by have:n<=i:=hg;lia) λh' eb=>⟨rfl,I.turned (t':=s.toks) (λb o hb e=>eb b o hb e) f0 f1 f3 f4 f5⟩
 self:=λ_ _ _ _ _ st h=>Il st h
theorem MQ:Be "reversed"=some (.type "reversed"):=by decide+kernel
section
variable{X:Cx}{K:Ai}{ml:List Nat}{a:Ux}{pa ta ia:Bool}{fa:VF}{pos ii:Pos}{tg:Ux}
def eA(ta:TA):TI:=λσ H R=>ta σ H λvs H1=>∃j:Int,vs=[.int j]/\ -(2 ^ 62)<=j/\j<2 ^ 62/\R (ItB j.toNat) H1
theorem iD{ta:TA}{p p2:Pos}(hg:Gl X "range")(hm:X.mg "range"=none)(hg2:Gl X "reversed")(hm2:X.mg "reversed"=none)(ha:PA X [a] ta)(hs:Us [a] X.env=[(false,eval a X.env)]:=by rfl)(hs2:Us [.Call (.Name "range" p) [a] [] pos] X.env=[(false,eval (.Call (.Name "range" p) [a] [] pos) X.env)]:=by rfl):PI X tg (.Call (.Name "reversed" p2) [.Call (.Name "range" p) [a] [] pos] [] ii) (eA ta):=by
 intro aa s σ H R I h;refine Call_ (VO I hg2 hm2 MQ (Cn ?_ hs2 rfl));rw[hs2];refine Ee (Call_ (VO I hg hm Tb (Cn (ZN (ha pos aa s σ H _ I h) λus s1 ⟨vs,H1,I1,r1,q1⟩=>?_) hs rfl)));obtain⟨j,e,q1,q2,q⟩:=q1;subst e;cases r1 with
 |cons r rr=>
  cases rr;obtain⟨t,rfl⟩:=r;refine Qj (Fy (JH ⟨q1,q2⟩ (Ao _ rfl) (Il (show Lk _ _ _ _ _ from Ao _ rfl) ?_)));have I2:cK X aa σ H1 {s1 with heap:=s1.heap.push {cls:=.type "range",data:=.fields #[.int 0 s1.toks,.int j t,.int 1 (s1.toks+1)]},toks:=s1.toks+1+1}:=I1.kept λb o e=>Ac _ e;refine⟨_,[_],_,_,H1,rfl,I2.kept (t':=s1.toks+1+1) λb o e=>Ac _ e,iL _ j.toNat,?_,λb hb=>?_,q⟩
  ·have e1 : ((j.toNat : Int) - 1) + ((0 : Nat) : Int) * (-1) = (j.toNat : Int) - 1 := by simp
   have e2:(j.toNat:Int) - ((0:Nat):Int)=(j.toNat:Int):=by simp
   show Lk _ _ (((j.toNat:Int) - 1)+((0:Nat):Int)*(-1)) ((j.toNat:Int) - ((0:Nat):Int)) (-1);rw[e1,e2];exact Ao _ rfl
  ·have e:=Ay.mp hb
   subst e;exact I2.fpOk (Am _) (I2.hok.fresh (Am _))
def rngB(n:Nat):List cX:=(Ar n).map λk:Nat=>.int ((n:Int) - 1 - k)
theorem CQ{n:Nat}:AS K (ItB n) [] (rngB n):=by
 intro N H _;refine⟨λi d e=>?_,by simp[ItB,rngB]⟩;unfold rngB at e;rw[Co] at e;cases h1:(Ar n)[i]? with
 |none=>rw[h1] at e;cases e
 |some k=>
  rw[h1] at e;cases e;obtain⟨hl,e⟩:=Ah.mp h1;rw[Gy] at hl;rw[Oq] at e;subst e;refine⟨hl,λx H' hy=>?_⟩;obtain⟨rfl,rfl⟩:=hy;exact⟨aZ.refl _,.int _⟩
noncomputable def iRB(f:VF):VI:=λδ=>(f δ).bind λp=>match p.1 with
 |.int j=>if -4611686018427387904<=j/\j<4611686018427387904 then some (rngB j.toNat,p.2) else none
 |_=>none
theorem fG{p' p2:Pos}(hg:Gl X "range")(hm:X.mg "range"=none)(hg2:Gl X "reversed")(hm2:X.mg "reversed"=none)(h:PE X a (TV K ml pa ta ia fa))(hs:Us [a] X.env=[(false,eval a X.env)]:=by rfl)(hs1:Us (a::[]) X.env=(false,eval a X.env)::Us [] X.env:=by rfl)(hs2:Us [.Call (.Name "range" p') [a] [] pos] X.env=[(false,eval (.Call (.Name "range" p') [a] [] pos) X.env)]:=by rfl):
  PI X tg (.Call (.Name "reversed" p2) [.Call (.Name "range" p') [a] [] pos] [] ii) (CY K ml pa (iRB fa)):=(iD hg hm hg2 hm2 (bM h ZY hs1) hs hs2).imp λσ H R ⟨B,O,δ,ds,δ',S,q,k⟩=>by
 unfold iRB at q;cases h1:fa δ with
 |none=>rw[h1] at q;cases q
 |some p=>
  obtain⟨x,δ1⟩:=p;rw[h1] at q;cases x with
  |int j=>
   have q:(if -4611686018427387904<=j/\j<4611686018427387904 then some (rngB j.toNat,δ1) else none)=some (ds,δ'):=q;split at q
   ·rename_i hj
    cases q;have p62:(2:Int) ^ 62=4611686018427387904:=by decide
    refine⟨B,O,δ,_,_,S,h1,λv H1 R1=>⟨j,?_,by rw[p62];exact hj.1,by rw[p62];exact hj.2,k _ [] H1 (R1.sta.keepV λ_ z=>nomatch z) R1.frm R1.pur CQ⟩⟩;have r:=R1.rep;cases r;rfl
   ·cases q
  |_=>cases q
end
theorem Z0.alive{P:Av}{w:Uy}{H:Hp}{h:Va}{a:Ur}{o:HO}(x:Z0 P w H h a o):∃u,h.get? a=some u:=by
 cases o with
 |lst xs=>obtain⟨_,_,_,_,e⟩:=x;exact⟨_,e⟩
 |tup xs=>obtain⟨_,_,_,ob,e,_⟩:=x;exact⟨_,e⟩
 |dK kvs=>obtain⟨_,_,_,_,o,_,_,e,_⟩:=x;exact⟨_,e⟩
 |dT kvs=>obtain⟨_,_,_,_,o,_,_,e,_⟩:=x;exact⟨_,e⟩
 |set S n=>obtain⟨o,_,_,_,e,_⟩:=x;exact⟨_,e⟩
 |ins C dx fs=>obtain⟨_,_,_,e,_⟩:=x;exact⟨_,e⟩
 |own y=>exact x
 |xd fs=>obtain⟨_,⟨_,_,_,e,_⟩,_⟩:=x;exact⟨_,e⟩
 |rng lo hi=>obtain⟨_,_,_,e⟩:=x;exact⟨_,e⟩
 |frz ob u=>obtain⟨e,_⟩:=x;exact⟨_,e⟩
 |tbl ps=>exact⟨_,(show h.get? a=some _ from x)⟩
 |met f y=>exact⟨_,(show h.get? a=some _ from x)⟩
 |ext φ=>exact x.2.1
structure XP(K:Ai)(C Cp:Ur):Prop where
 at_:Er K Uu "PackError"=some (some (.ref Cp))
 ty:W.typeIn K (.ref Cp)=some (.type "type")
 cls:(Sj K Cp).isSome=true
 base:Qa K (.ref Cp) (.type "BaseException")=some true
 sub:Qa K (.ref C) (.ref Cp)=some true
structure XC(K:Ai)(x:Uw)(C:Ur):Prop where
 at_:Er K Uu x=some (some (.ref C))
 att:XA K C
 cls:(Sj K C).isSome=true
 pk:∃Cp,XP K C Cp
structure XE(K:Ai)(x:Uw)(C:Ur):Prop where
 xc:XC K x C
 exc:W.excIn K C vbs "ValueError.__new__"=true
def ExcF(l:List Env)(g:Va)(H:Hp)(C:Ur)(p:Option Ur)(e:Uq)(h:Va):Prop:=
 ∃a a0 B,e=.ref a/\Ko B l a (.ref C) a0 h/\Dc a p h/\(∀b o,g.get? b=some o->b∉U7 l->∃o',h.get? b=some o'/\B.get? b=some o')/\∀b u,H b=some u->∃o,h.get? b=some o/\B.get? b=some o
def GH(P:Av)(w:Uy):AG:=λouter H s E e s'=>∃C p H1,s'.os=s.os/\Li s'.gens/\Un (U7 outer) [] H H1 s.heap s'.heap/\TF P w H1 s'.heap/\ExcF outer s.heap H1 C p e s'.heap/\E (.ref C) p H1
theorem DA{P:Av}{w:Uy}{H:Hp}{h h' B:Va}(ok:TF P w H h)(st:B.StaysIn h')(c2:∀b u,H b=some u->∃o,h.get? b=some o/\B.get? b=some o):TF P w H h':=λb u e=>
 (ok b u e).stay (λc v hc q => by
  have:∃u,H c=some u:=by
   rcases hc with rfl|hc
   ·exact⟨u,e⟩
   ·exact⟨_,hc⟩
  obtain⟨u',e'⟩:=this;obtain⟨o,e1,e2⟩:=c2 c u' e';rw[q] at e1;cases e1;exact st c v e2) (λ_ q=>q) λ_ _ q=>q
section
variable{X:Cx}{aa:List (Ur×Vc)}{σ:St}{H H1:Hp}{s s':Ad}{g h' B:Va}{C a:Ur}{a0:Uq}
theorem cK.fly(I:cK X aa σ H s)(st:B.StaysIn h')(up:s.heap.UpToSlots h')(c1:∀b o,X.s₀.heap.get? b=some o->b∉U7 X.stack->∃o',s.heap.get? b=some o'/\B.get? b=some o')(cp:∀p∈X.pn++aa,B.get? p.1=some p.2)(c2:∀b u,H b=some u->∃o,s.heap.get? b=some o/\B.get? b=some o):cK X aa σ H {s with heap:=h'}:=by
 have neL:∀b o,X.s₀.heap.get? b=some o->b≠X.env.locals:=λb o e=>Aw (At (Aj e) I.ok.above);have out:∀b o,X.s₀.heap.get? b=some o->b∉X.fs->b∉U7 X.stack:=λb o e hb z=>(Al.mp (I.stkSub b z)).elim (neL b o e) hb;have f9:∀b∈X.fs,∀o,s.heap.get? b=some o->∃sl,h'.get? b=some {o with slots:=sl}:=λb hb o e=>by obtain⟨_,o',e',nf⟩:=I.funs.mem hb;rw[e] at e';cases e';exact up b o e nf
 have gl:∀x c,X.env.cells.lookup x=some c->∀v,s.heap.IsCell c v->h'.IsCell c v:=λx c _ v q0=>by
  obtain⟨o,ho,hd⟩:=q0;obtain⟨sl,e⟩:=up c o ho λvs q=>by rw[hd] at q;cases q
  exact⟨_,e,hd⟩
 refine⟨I.ok,I.os,I.bare,⟨λb o e n hb hx=>?_,λb o e n hb hx=>?_,I.base.free,λb o e hx=>?_,I.base.tups,I.base.frzs,I.base.tbls⟩,?_,λx c e=>?_,I.free,I.freeC,λp hp=>?_,DA I.hok st c2,I.len⟩
 ·obtain⟨o',e1,e2⟩:=c1 b o e (out b o e hb)
  rw[I.base.keep b o e n hb hx] at e1;cases e1;exact st b o e2
 ·obtain⟨sl,e1⟩:=I.base.slot b o e n hb hx
  obtain⟨sl',e2⟩:=f9 b hb _ e1;exact⟨sl',e2⟩
 ·by_cases hb:b∈X.fs
  ·obtain⟨o',e1⟩:=I.base.there b o e hx
   obtain⟨sl',e2⟩:=f9 b hb _ e1;exact⟨_,e2⟩
  ·obtain⟨o',e1,e2⟩:=c1 b o e (out b o e hb)
   exact⟨o',st b o' e2⟩
 ·obtain⟨m,hn,hl⟩:=I.loc
  refine⟨m,up.ns hn,λi x v e1 e2 e3=>?_⟩;obtain⟨u,r,l⟩:=hl i x v e1 e2 e3;refine⟨u,r,?_⟩;rcases l with l|⟨k,c,e,z⟩
  ·exact .inl l
  ·exact .inr ⟨k,c,e,gl x c e _ z⟩
 ·obtain⟨v,z⟩:=I.cell x c e
  exact⟨v,gl x c e v z⟩
 ·obtain⟨e,n,ne,nf,d⟩:=I.pin p hp
  exact⟨st _ _ (cp p hp),n,ne,nf,d⟩
structure Low(X:Cx)(aa:List (Ur×Vc))(g:Va):Prop where
 s0:∀b o,X.s₀.heap.get? b=some o->b∉U7 X.stack->∃o',g.get? b=some o'
 pin:∀p∈X.pn++aa,∃o,g.get? p.1=some o
theorem cK.low(I:cK X aa σ H s)(hx:X.ex=[]):Low X aa s.heap:=
 ⟨λb o e _=>I.base.there b o e (by rw[hx];simp),λp hp=>⟨_,(I.pin p hp).1⟩⟩
theorem cK.flyG(I:cK X aa σ H s)(lo:Low X aa g)(st:B.StaysIn h')(up:s.heap.UpToSlots h')(c1:∀b o,g.get? b=some o->b∉U7 X.stack->∃o',s.heap.get? b=some o'/\B.get? b=some o')(c2:∀b u,H b=some u->∃o,s.heap.get? b=some o/\B.get? b=some o):cK X aa σ H {s with heap:=h'}:=by
 refine I.fly st up (λb o e hb=>?_) (λp hp=>?_) c2
 ·obtain⟨o',e'⟩:=lo.s0 b o e hb
  exact c1 b o' e' hb
 ·obtain⟨o,e⟩:=lo.pin p hp
  obtain⟨e1,_,ne,nf,_⟩:=I.pin p hp;obtain⟨o',e2,e3⟩:=c1 p.1 o e λz=>(Al.mp (I.stkSub _ z)).elim ne nf;rw[e1] at e2;cases e2;exact e3
def RzF(X:Cx)(R:Uw->Option Ur->St->Hp->Prop):Prop:=∀(aa:List (Ur×Vc)) (x:Uw) (C:Ur) (p:Option Ur) (σ:St) (H1:Hp) (e:Uq) (s':Ad) (g:Va),XC X.K x C->cK X aa σ H1 s'->ExcF X.stack g H1 C p e s'.heap->Low X aa g->R x p σ H1->X.xe e s'
def RzM(X:Cx)(R:Uw->Option Ur->St->Hp->Prop):Prop:=∀(aa:List (Ur×Vc)) (x:Uw) (C a:Ur) (args:List Uq) (σ:St) (H1:Hp) (h:Va) (s':Ad),XC X.K x C->cK X aa σ H1 {s' with heap:=h}->Heap.MadeExcOf h s'.heap a (.ref C) args->R x none σ H1->X.xe (.ref a) s'
def RzP(X:Cx)(R:Uw->Option Ur->St->Hp->Prop):Prop:=∀(aa:List (Ur×Vc)) (x nm:Uw) (C a:Ur) (v:V) (u:Uq) (σ:St) (H1:Hp) (h:Va) (s':Ad),XC X.K x C->cK X aa σ H1 {s' with heap:=h}->CV h s'.heap a C nm u->b5 v u->(∀D,H1 D=none->R x (some D) σ (upd H1 D (.xd [(nm,v)])))->X.xe (.ref a) s'
end
section
variable{P:Av}{w:Uy}{K:Ai}{mg:Uw->Option Uq}{base:Va}{N:List Uw}{qual:Uw}{scope:Vg}{f:Ur}{cd:Uq}{A:Br}{outer:List Env}{s:Ad}{H:Hp}{E:XK}
def rE(K:Ai)(E:XK):Uw->Option Ur->St->Hp->Prop:=λx p _ H1=>∀C,XC K x C->E (.ref C) p H1
theorem J5{aa:List (Ur×Vc)}{σ:St}{H1:Hp}{s':Ad}{g h' B:Va}{C a:Ur}{p:Option Ur}{a0:Uq}{d:Drawn}{tk:Nat}(dc:Dc a p h')(I:cK (TJ (GH P w) P w K mg base N qual scope f cd A outer s H E) aa σ H1 s')(lo:∀b o,s.heap.get? b=some o->b∉U7 (envOfC qual scope s.heap.objs.size f cd::outer)->∃o',g.get? b=some o')(fl:Ko B outer a (.ref C) a0 h')(up:s'.heap.UpToSlots h')(c1:∀b o,g.get? b=some o->b∉U7 (envOfC qual scope s.heap.objs.size f cd::outer)->∃o',s'.heap.get? b=some o'/\B.get? b=some o')(c2:∀b u,H1 b=some u->∃o,s'.heap.get? b=some o/\B.get? b=some o)(hE:E (.ref C) p H1):GH P w outer H s E (.ref a) {s' with heap:=h',drawn:=d,toks:=tk}:=by
 have bs:Un (U7 outer) [] H H1 s.heap s'.heap:=I.base;have stk:s'.heap.FunFrames base (envOfC qual scope s.heap.objs.size f cd::outer):=I.stack;have got:∀b o,s.heap.get? b=some o->b∉U7 outer->∃o',s'.heap.get? b=some o'/\B.get? b=some o':=λb o q hb=>by
  have nL:b∉U7 (envOfC qual scope s.heap.objs.size f cd::outer):=λz=>by
   rcases Al.mp (show b∈s.heap.objs.size::U7 outer from z) with z|z
   ·have:=Aj q
    rw[z] at this;exact absurd this (Bq _)
   ·exact hb z
  obtain⟨o',e⟩:=lo b o q nL;exact c1 b o' e nL
 have f9:∀b∈U7 outer,∀o,s'.heap.get? b=some o->∃sl,h'.get? b=some {o with slots:=sl}:=λb hb o e=>by obtain⟨_,o',e',nf⟩:=stk.mem (Ap _ hb:b∈s.heap.objs.size::U7 outer);rw[e] at e';cases e';exact up b o e nf
 refine⟨C,p,H1,I.os,I.bare,⟨λb o q n hb hx=>?_,λb o q n hb hx=>?_,bs.free,λb o q hx=>?_,bs.tups,bs.frzs,bs.tbls⟩,DA I.hok fl.1 c2,⟨a,a0,B,rfl,fl,dc,λb o e hn=>?_,λb u e=>?_⟩,hE⟩
 ·obtain⟨o',e1,e2⟩:=got b o q hb
  rw[bs.keep b o q n hb hx] at e1;cases e1;exact fl.1 b o e2
 ·obtain⟨sl,e1⟩:=bs.slot b o q n hb hx
  obtain⟨sl',e3⟩:=f9 b hb _ e1;exact⟨sl',e3⟩
 ·by_cases hb:b∈U7 outer
  ·obtain⟨o',e1⟩:=bs.there b o q hx
   obtain⟨sl',e3⟩:=f9 b hb _ e1;exact⟨_,e3⟩
  ·obtain⟨o',e1,e2⟩:=got b o q hb
   exact⟨o',fl.1 b o' e2⟩
 ·obtain⟨o',e1,e2⟩:=got b o e hn
  exact⟨o',fl.1 b o' e2,e2⟩
 ·obtain⟨o,e1,e2⟩:=c2 b u e
  exact⟨o,fl.1 b o e2,e2⟩
theorem D7:RzF (TJ (GH P w) P w K mg base N qual scope f cd A outer s H E) (rE K E):=by intro aa x C p σ H1 e s' g hx I F lo hR;obtain⟨a,a0,B,rfl,fl,dc,c1,c2⟩:=F;exact QH (KD.leave _ _) dc (wpAny_leaves_onW (I.ok.frames.trans rfl) rfl fl λh' fl' up dc'=>J5 (d:=s'.drawn) (tk:=s'.toks) dc' I lo.s0 fl' up c1 c2 (hR C hx))
theorem D8:RzM (TJ (GH P w) P w K mg base N qual scope f cd A outer s H E) (rE K E):=by
 intro aa x C a args σ H1 h s' hx I M hR;have stk:h.FunFrames base (envOfC qual scope s.heap.objs.size f cd::outer):=I.stack;have hin:∀env∈(envOfC qual scope s.heap.objs.size f cd::outer),∀b,env.frame=some b->b∈U7 (envOfC qual scope s.heap.objs.size f cd::outer):=λenv he b hb=>Hx.mpr ⟨env,he,hb⟩;have dc:Dc a none s'.heap:=by obtain⟨t,e,_⟩:=M.there;exact Dc.of e
 refine QH (KD.leave _ _) dc (wpAny_leaves_madeW (base:=Rr h (U7 (envOfC qual scope s.heap.objs.size f cd::outer))) (h:=h) (I.ok.frames.trans rfl) rfl (λb o q=>Qi _ q) (Rb stk hin) M λh' t fl _ _ up dc'=>?_);have up':h.UpToSlots h':=(Tt M.keeps).trans up;exact J5 (s':={s' with heap:=h}) (g:=h) (d:=s'.drawn) (tk:=s'.toks) dc' I (λb o q _=>I.base.there b o q (λz=>nomatch z)) fl up' (λb o e hb=>⟨o,e,Lh _ e hb⟩) (λb u e=>by obtain⟨o,q⟩:=(I.hok b u e).alive;exact⟨o,q,Lh _ q λz=>by have:=I.stkFree b z;rw[e] at this;cases this⟩) (hR C hx)
theorem gB:RzP (TJ (GH P w) P w K mg base N qual scope f cd A outer s H E) (rE K E):=by
 intro aa x nm C a v u σ H1 h s' hx I M rv hR;obtain⟨t,D,oe,ht,hD,hDa,nsD⟩:=M.there;have fD:H1 D=none:=I.hok.fresh hD;have I2:=I.laid (a:=D) (o:=.xd [(nm,v)]) (h':=s'.heap) (t':=s'.toks) M.keeps hD ⟨_,nsD,λf=>by
  show TH (Hi f [(nm,v)]) (if f=nm then some u else none);by_cases z:f=nm
  ·subst z
   simp[TH,rv]
  ·rw[if_neg z]
   simp[Hi,beq_eq_false_iff_ne.mpr z,TH]⟩
 have stk:s'.heap.FunFrames base (envOfC qual scope s.heap.objs.size f cd::outer):=I2.stack;have naf:a∉U7 (envOfC qual scope s.heap.objs.size f cd::outer):=λz=>by obtain⟨_,o',e',nf⟩:=stk.mem z;rw[oe] at e';cases e';exact nf _ rfl
 have hin:∀env∈(envOfC qual scope s.heap.objs.size f cd::outer),∀b,env.frame=some b->b∈a::U7 (envOfC qual scope s.heap.objs.size f cd::outer):=λenv he b hb=>Ap _ (Hx.mpr ⟨env,he,hb⟩);refine QH (KD.leave _ _) (Dc.of oe) (wpAny_leaving_firstW (base:=Rr s'.heap (a::U7 (envOfC qual scope s.heap.objs.size f cd::outer))) (I.ok.frames.trans rfl) (Rb stk hin) rfl oe (λb o q=>Qi _ q) (Nk _ (Ax ..)) rfl rfl rfl λh' L dc'=>?_);obtain⟨l1,⟨_,_,l2⟩,l3,l4⟩:=L;have o0:∀b o,s'.heap.get? b=some o->b≠a->b∉U7 (envOfC qual scope s.heap.objs.size f cd::outer)->(Rr s'.heap (a::U7 (envOfC qual scope s.heap.objs.size f cd::outer))).get? b=some o:=λb o e n1 n2=>Lh _ e λz=>(Al.mp z).elim n1 n2;refine J5 (s':=s') (g:=h) (d:=s'.drawn) (tk:=s'.toks) dc' I2 (λb o q _=>I.base.there b o q (λz=>nomatch z)) ⟨l1,Nk _ (Ax ..),l2,l3⟩ l4 (λb o e hb=>⟨o,M.keeps b o e,o0 b o (M.keeps b o e) (λz=>by rw[z,M.new] at e;cases e) hb⟩) (λb w e=>?_) (hR D fD C hx);obtain⟨o,q⟩:=(I2.hok b w e).alive;refine⟨o,q,o0 b o q (λz=>?_) λz=>by have:=I2.stkFree b z;rw[e] at this;cases this⟩;by_cases hb:b=D
 ·exact hDa (hb▸z)
 ·rw[b6 hb] at e
  obtain⟨o2,q2⟩:=(I.hok b w e).alive;rw[z,show({s' with heap:=h}:Ad).heap.get? a=none from M.new] at q2;cases q2
end
theorem BW{K:Ai}{h:Va}{C:Ur}{bmB:List Uq}{k4:String}(X:K.In h)(q:W.excIn K C bmB k4=true):∃bm N nm q bs hdct sn sub ab col dd k0 k1 k2 k3 k5 mN,h.get? C=some (Gs nm q C N bs bm hdct sn sub ab col dd k0 k1 k2 k3 k5 k4)/\h.Ns N mN/\mN "__init__"=none/\Ob h bmB bm:=by
 unfold W.excIn at q;split at q
 ·rename_i dd cd sl ho
  split at q
  ·rename_i C' bm k0 k1 k2 k3 n k5 hm hs
   simp only[Ae,beq_iff_eq,Qd] at q;obtain⟨⟨⟨⟨⟨rfl,rfl⟩,j6⟩,ht⟩,hok⟩,hni⟩:=q;obtain⟨nm,bs,mro,ns,qn,hd,sn,sub,ab,col,del⟩:=cd;dsimp only at hm j6 hok hni;subst hm j6;obtain⟨sl⟩:=sl;simp only at hs;subst hs;exact⟨bm,ns,nm,qn,bs,hd,sn,sub,ab,col,dd,k0,k1,k2,k3,k5,_,X _ _ ho,.of_isNs (W.isNs_of_in X hok),W.nsMap_none_of_in X hok hni,W.tail_of_in X ht⟩
  ·cases q
 ·cases q
abbrev Xw:=Uw×Option (Uw×cX)
abbrev VZ:=Ev->Option (Xw×Ev)
noncomputable def Pay(K:Ai)(N:Ur->Prop)(H:Hp):Option Ur->Option (Uw×cX)->Prop
 |none,none=>True
 |some D,some (n,d)=>∃v,H D=some (.xd [(n,v)])/\bI K N H N v d
 |_,_=>False
theorem Pay.mono{K:Ai}{N N':Ur->Prop}{H:Hp}{p:Option Ur}{y:Option (Uw×cX)}(h:Pay K N H p y)(hN:∀a,N' a->N a):Pay K N' H p y:=by
 unfold Pay at h⊢;split at h
 ·trivial
 ·obtain⟨v,e,r⟩:=h
  exact⟨v,e,r.mono hN hN⟩
 ·exact h
def TZ(R:Uw->Option Ur->St->Hp->Prop)(K:Ai)(ml:List Nat)(z:VZ)(σ:St)(H:Hp):Prop:=∃B O δ x δ',aS K ml B O H σ δ/\z δ=some (x,δ')/\∀σ' H' O' p,aS K ml B O' H' σ' δ'->Pay K (Nn B O') H' p x.2->R x.1 p σ' H'
abbrev ZE(R:Uw->Option Ur->St->Hp->Prop)(K:Ai)(ml:List Nat)(z:VZ):TE:=λσ H _=>TZ R K ml z σ H
abbrev ZS(R:Uw->Option Ur->St->Hp->Prop)(K:Ai)(ml:List Nat)(z:VZ):TS:=λ_ σ H=>TZ R K ml z σ H
section
variable{X:Cx}{K:Ai}{ml:List Nat}{e a b c:Ux}{es:List Ux}{pa ta ia pb tb ib pc tc ic pu bt bi ps bs:Bool}{fa fb fc f:VF}{B B':Bs}{O:Nat->Option Ur}{H H1 H':Hp}{σ:St}{δ δ':Ev}{v:V}{d:cX}{pos:Pos}{st:Vd}{rest:List Vd}{g g':VS}{z z':VZ}{R:Uw->Option Ur->St->Hp->Prop}
def zNo:VZ:=λ_=>none
theorem GF{sts:List Vd}:W2 X sts (ZS R K ml zNo):=λ_ _ _ _ _ _ h=>by obtain⟨_,_,_,_,_,_,q,_⟩:=h;cases q
def zAlt(z z':VZ):VZ:=λδ=>match z δ with
 |some r=>some r
 |none=>z' δ
theorem rN(h:TZ R K ml (zAlt z z') σ H):TZ R K ml z σ H∨TZ R K ml z' σ H:=by
 obtain⟨B,O,δ,x,δ',S,q,k⟩:=h;unfold zAlt at q;cases h1:z δ with
 |some r=>rw[h1] at q;exact .inl ⟨B,O,δ,x,δ',S,h1.trans q,k⟩
 |none=>rw[h1] at q;exact .inr ⟨B,O,δ,x,δ',S,q,k⟩
theorem nX{sts:List Vd}(h1:W2 X sts (ZS R K ml z))(h2:W2 X sts (ZS R K ml z')):W2 X sts (ZS R K ml (zAlt z z')):=λaa s σ H D I h=>
 (rN h).elim (h1 aa s σ H D I) (h2 aa s σ H D I)
noncomputable def zSeq(g:VS)(z:VZ):VZ:=λδ=>match g δ with
 |some (.nx δ')=>z δ'
 |_=>none
theorem EQ(h1:PS X st (WE K ml g))(h2:W2 X rest (ZS R K ml z)):W2 X (st::rest) (ZS R K ml (zSeq g z)):=(RU h1 h2).imp λD σ H q0=>by
 obtain⟨B,O,δ,x,δ',S,q,k⟩:=q0;unfold zSeq at q;split at q
 ·rename_i δ1 hg
  exact⟨B,O,δ,.nx δ1,S,hg,λσ' H' O' S'=>⟨B,O',δ1,x,δ',S',q,k⟩⟩
 ·cases q
theorem YN(h:PS X st (ZS R K ml z)):W2 X (st::rest) (ZS R K ml z):=(RU h B6).imp λ_ _ _ h=>h
def zIf(t:VB)(z z':VZ):VZ:=λδ=>(t δ).bind λp=>if p.1=true then z p.2 else z' p.2
theorem Vs{x y:List Vd}{t:VB}(ht:PT X c (TB K ml pc t))(ha:W2 X x (ZS R K ml z))(hb:W2 X y (ZS R K ml z')):PS X (.If c x y pos) (ZS R K ml (zIf t z z')):=(Yg ht ha hb).imp λD σ H q0=>by
 obtain⟨B,O,δ,x,δ',S,q,k⟩:=q0;unfold zIf at q;cases h1:t δ with
 |none=>rw[h1] at q;cases q
 |some p=>
  obtain⟨kk,δ1⟩:=p;rw[h1] at q;refine⟨B,O,δ,kk,δ1,S,h1,λH1 R1=>?_⟩;cases kk with
  |true=>exact RL ⟨B,O,δ1,x,δ',R1.sta,q,k⟩
  |false=>exact RK ⟨B,O,δ1,x,δ',R1.sta,q,k⟩
theorem gX{t:VB}(ht:PT X c (TB K ml pc t))(ha:PE X a (ZE R K ml z))(hb:PE X b (ZE R K ml z')):PE X (.IfExp c a b pos) (ZE R K ml (zIf t z z')):=(HI ht ha hb).imp λσ H Q q0=>by
 obtain⟨B,O,δ,x,δ',S,q,k⟩:=q0;unfold zIf at q;cases h1:t δ with
 |none=>rw[h1] at q;cases q
 |some p=>
  obtain⟨kk,δ1⟩:=p;rw[h1] at q;refine⟨B,O,δ,kk,δ1,S,h1,λH1 R1=>?_⟩;cases kk with
  |true=>exact RL ⟨B,O,δ1,x,δ',R1.sta,q,k⟩
  |false=>exact RK ⟨B,O,δ1,x,δ',R1.sta,q,k⟩
theorem Zt(h:PE X e (ZE R K ml z)):PS X (.Return (some e) pos) (ZS R K ml z):=(FU h).imp λ_ _ _ h=>h
theorem EO(h:PE X e (ZE R K ml z))(hs:Ve e none pos.line X.env=pure false:=by rfl):PS X (.Expr e pos) (ZS R K ml z):=(J6 h hs).imp λ_ _ _ h=>h
theorem IJ{x:Uw}{np af p1:Pos}{t:Uw}{j:Nat}(hK:X.K=K)(hz:RzM X R)(hc:X.calm=true)(hg:Gl X x)(hx:∃C,XE K x C/\X.mg x=some (.ref C))(hdb:(x==("__debug__":Uw))=false:=by decide)(hpl:(Dv af (Us [.Constant (.str t) j p1] X.env)).any (·.1)=false:=by rfl):PS X (.Raise (some (.Call (.Name x np) [.Constant (.str t) j p1] [] af)) none pos) (ZS R K ml λδ=>some ((x,none),δ)):=by intro aa s σ H D I h;obtain⟨B,O,δ,x',δ',S,q,k⟩:=h;cases q;subst hK;obtain⟨C,hC,hm⟩:=hx;obtain⟨bm,N,nm,q,bs,hdct,sn,sub,ab,col,dd,k0,k1,k2,k3,k5,mN,o1,o2,o3,o4⟩:=BW I.ok.mod.kin hC.exc;refine wpAny_Raise_call_subT (C:=C) (nm:=nm) (q:=q) (N:=N) (bs:=bs) (bm:=bm) (hdct:=hdct) (sn:=sn) (sub:=sub) (ab:=ab) (col:=col) (dd:=dd) (k0:=k0) (k1:=k1) (k2:=k2) (k3:=k3) (k5:=k5) (mN:=mN) Hc (o4.hasType (by decide)) (I.ok.hd hc) hpl o3 (VQ I hg hm ⟨rfl,?_⟩ hdb);have pa:PA X [.Constant (.str t) j p1] _:=bM Xv ZY;refine Eg (Aq (pa af aa s σ H (λvs H'=>H'=H/\vs.length=1) I ⟨rfl,rfl⟩) (λus s2 hq=>?_) λ_ _ z=>z);obtain⟨vs,H2,I2,rv,rfl,hl⟩:=hq;have kp:∀b o,X.base.get? b=some o->s2.heap.get? b=some o:=λb o e=>(I2.bs b o e).1;refine⟨rfl,?_,kp _ _ o1,o2.keeps kp,o4.keeps kp,λh' a hm'=>hz aa x C a us σ H2 s2.heap _ hC.xc I2 hm' (k σ H2 O none S trivial)⟩;show us.length<=sizeLine;rw[<-rv.length,hl];decide
theorem kJ{x:Uw}{kk:Nat}{qs:List Uw}{sp:Sp}{ff:Ur}{fd:Df}{p':Pos}{t:TA}{CX:AG}(F:aW X.prog X.w X.K X.mg X.base CX kk ff fd qs sp)(hr:ZG kk X.A)(hg:Gl X x)(hm:X.mg x=some (.ref ff))(hk:Hz X.K (.ref ff)=true)(hb:U5 X.K fd qs [])(ha:PA X (e::es) t)(hdb:(x==("__debug__":Uw))=false:=by decide)(he:Us (e::es) X.env=(false,eval e X.env)::Us es X.env:=by rfl)(hpl:(Dv pos (Us es X.env)).any (·.1)=false:=by rfl):PE X (.Call (.Name x p') (e::es) [] pos) (λσ H Q=>t σ H λvs H1=>∃E,(∀(aa:List (Ur×Vc)) (s:Ad) (e':Uq) (s':Ad),cK X aa σ H1 s->CX X.stack H1 s E e' s'->X.xe e' s')/\sp vs H1 Q E):=by
 intro aa s σ H Q I h;refine Es (VQ I hg hm (Kl (h₀:=X.base) I.ok.mod.kin hk (ZN (ha pos aa s σ H _ I h) λus s1 hq=>?_) he hpl) hdb);obtain⟨vs,H1,I1,rv,E,hE,hs⟩:=hq;have hl:us.length=qs.length:=by rw[<-rv.length];exact F.len _ _ _ _ hs
 have hb:=hb s1 us I1.kIn (by simpa using hl);rw[Cu] at hb;refine⟨I1.kIn,Hl (Gq (F.run X.A X.stack s1 H1 ⟨us,[]⟩ us vs Q E hr I1.env0 hb rv hs) λr s' hq=>?_)⟩;cases r with
 |error e'=>exact hE aa s1 e' s' I1 hq
 |ok fl=>cases fl with
  |ret u=>exact I1.after hq
  |next=>cases hq
  |brk=>cases hq
  |cont=>cases hq
def spX(K:Ai)(n:Nat)(XF:List cX->Option Xw):Sp:=λvs H _ E=>∃(Z:Ur->Prop) (ds:List cX) (x:Xw),ds.length=n/\Wc K [] Z H vs ds/\XF ds=some x/\∀C H' p,XC K x.1 C->aZ H H'->Pay K Z H' p x.2->E (.ref C) p H'
structure PM(P:Av)(w:Uy)(K:Ai)(mg:Uw->Option Uq)(base:Va)(x:Uw)(k:Nat)(ps:List Uw)(XF:List cX->Option Xw)(f:Ur):Prop where
 at_:mg x=some (.ref f)
 ok:∃fd,aW P w K mg base (GH P w) k f fd ps (spX K ps.length XF)/\U5 K fd ps []
 kp:Hz K (.ref f)=true
noncomputable def VU:List AV->Option (List cX)
 |[]=>some []
 |.d d::as=>(VU as).map λds=>d::ds
 |.o _::_=>none
theorem LY{N:Ur->Prop}:∀{vs:List V} {as:List AV} {ds:List cX},V4 K N H σ vs as->VU as=some ds->vs.length=ds.length/\∀(i:Nat) (d:cX),ds[i]?=some d->∃v,vs[i]?=some v/\bI K N H N v d
 |_,_,_,.nil,h=>by cases h;exact⟨rfl,λi d e=>by simp at e⟩
 | _,.d d0 :: as,_,.d r t,h => by
  unfold VU at h;cases e:VU as with
  |none=>rw[e] at h;cases h
  |some ds=>
   rw[e] at h;cases h;obtain⟨h1,h2⟩:=LY t e;refine⟨by simp[h1],λi d q=>?_⟩;cases i with
   |zero=>simp at q;subst q;exact⟨_,rfl,r⟩
   |succ i=>exact h2 i d (by simpa using q)
 |_,.o _::_,_,.o _ _,h=>by cases h
noncomputable def SA(n:Nat)(XF:List cX->Option Xw)(fs:PP):VZ:=λδ=>(fs δ).bind λp=>(VU p.1).bind λds=>if ds.length=n then(XF ds).map λx=>(x,p.2) else none
theorem EI{fs:PP}{XF:List cX->Option Xw}{n:Nat}{Q:VK}(hz:RzF X R)(hK:X.K=K)(hex:X.ex=[])(h:TZ R K ml (SA n XF fs) σ H):EU K ml ps fs σ H λvs H1=>∃E,(∀(aa:List (Ur×Vc)) (s:Ad) (e':Uq) (s':Ad),cK X aa σ H1 s->GH X.prog X.w X.stack H1 s E e' s'->X.xe e' s')/\spX K n XF vs H1 Q E:=by
 subst hK;obtain⟨B,O,δ,x,δ',S,q,k⟩:=h;unfold SA at q;cases h1:fs δ with
 |none=>rw[h1] at q;cases q
 |some p=>
  obtain⟨as,δ1⟩:=p;rw[h1,Af] at q;cases h2:VU as with
  |none=>rw[h2] at q;cases q
  |some ds=>
   rw[h2,Af] at q;split at q
   ·rename_i hn
    cases h3:XF ds with
    |none=>rw[h3] at q;cases q
    |some x'=>
     rw[h3] at q;cases q;refine⟨B,O,δ,as,δ1,S,h1,λvs H1 G=>⟨λv p H2=>∃x C,v=.ref C/\XC X.K x C/\R x p σ H2,λaa s e' s' I hc=>?_,?_⟩⟩
     ·obtain⟨C,p,H2,os,bare,un,ok,F,x1,C1,hv,hx,hR⟩:=hc
      cases hv;exact hz aa x1 C p σ H2 e' s' s.heap hx (I.call' os un ok bare λb hb=>nomatch hb) F (I.low hex) hR
     ·obtain⟨g1,g2⟩:=LY G.rep h2
      have zp:∀a,Zp (Nn B O) [] vs a->Nn B O a:=λa z=>z.elim id λ⟨i,hi,_⟩=>nomatch hi;refine⟨Nn B O,ds,x,hn,⟨g1,λi hi=>(nomatch hi),λi d _ e=>?_,λi d hi=>(nomatch hi),λi j a hi=>(nomatch hi),λa z=>G.sta.nin z⟩,h3,λC H2 p hx hs hp=>⟨x.1,C,rfl,hx,k σ H2 O p (G.sta.same hs) hp⟩⟩;obtain⟨v,e1,r⟩:=g2 i d e;exact⟨v,e1,r.mono zp zp⟩
   ·cases q
theorem KP{x:Uw}{kk j:Nat}{qs:List Uw}{XF:List cX->Option Xw}{ff:Ur}{p':Pos}{fs:PP}(hz:RzF X R)(hK:X.K=K)(D:PM X.prog X.w K X.mg X.base x kk qs XF ff)(hr:ZG j X.A)(hk:kk<=j)(hg:Gl X x)(hex:X.ex=[])(ha:PA X (e::es) (EU K ml ps fs))(hdb:(x==("__debug__":Uw))=false:=by decide)(he:Us (e::es) X.env=(false,eval e X.env)::Us es X.env:=by rfl)(hpl:(Dv pos (Us es X.env)).any (·.1)=false:=by rfl):PE X (.Call (.Name x p') (e::es) [] pos) (ZE R K ml (SA qs.length XF fs)):=by obtain⟨fd,F,Bd⟩:=D.ok;subst hK;exact(kJ F (hr.mono hk) hg D.at_ D.kp Bd ha hdb he hpl).imp λσ H Q h=>EI hz rfl hex h
end
noncomputable def MX(n:Nat)(z:VZ):List cX->Option Xw:=λds=>(z (bD [] n ds)).map (·.1)
theorem YZ.okX{P:Av}{w:Uy}{K:Ai}{mg:Uw->Option Uq}{base:Va}{x qual:Uw}{st:Vd}{f:Ur}{fd:Df}{N ps:List Uw}{k:Nat}{z:VZ}(F:YZ K x qual st f fd)(S:cG N ps (cU st))(hps:ps.length<=N.length)(ap:∀(cdv:Uq) (A:Br) (outer:List Env) (s:Ad) (H:Hp) (E:XK),ZG k (A.deeper (envOfC qual (cU st) s.heap.objs.size f cdv))->W2 (TJ (GH P w) P w K mg base N qual (cU st) f cdv A outer s H E) (aT st) (ZS (rE K E) K [] z)):aW P w K mg base (GH P w) (k+1) f fd ps (spX K ps.length (MX N.length z)):=by
 obtain⟨oc,od,kV,doc,pm,an,cdv,ct,osl,rfl,lk,hcd⟩:=F.ex;refine Wd lk hcd S (λvs H Q E h=>?_) λA outer s H vs Q E hr hsp=>⟨_,ap cdv A outer s H E hr,?_⟩
 ·obtain⟨Z,ds,x,hn,AV,_⟩:=h
  rw[AV.len,hn]
 ·obtain⟨Z,ds,x,hn,AV,hX,hE⟩:=hsp
  obtain⟨mu,hmu,S0⟩:=MD (N:=N) AV (by rw[hn];exact hps);unfold MX at hX;cases h1:z (bD [] N.length ds) with
  |none=>rw[h1] at hX;cases hX
  |some p=>
   obtain⟨x',δ'⟩:=p;rw[h1] at hX;cases hX;exact⟨_,mu,_,x',δ',S0,h1,λσ' H' O' p S' hp C hC=>hE C H' p hC (λb o q=>S'.frm b o q λ⟨i,hi,_⟩=>nomatch hi) (hp.mono λa z=>.inl z)⟩
end L2
namespace L2
open PySem PySem.Spec PyProof.Rows PySem.W PySem.Calls PySem.Builtin PySem.Builtin.ObjectAttr PySem.Builtin.Getset_descriptor
section
variable{prog:Av}{w:Uy}{A:Br}{E:Uq->Ad->Prop}{s:Ad}{K:Vj}{x C:Ur}{o:Vc}{R:Oj->Ad->Prop}
theorem qY{tp:Uq}(X:K.In s.heap)(hx:s.heap.get? x=some o)(hc:o.cls=.ref C)(F:XA K C)(h:R (.ok (.ret (.ref C))) s):Fd (Uv prog w) A (.call (.builtin "getset_descriptor.__get__") ⟨[.builtin "object.__class__",.ref x,tp],[]⟩) R s:=by
 obtain⟨hh,g,dr,t,os⟩:=s;have L0:Looks (Uv prog w) hh (Nl (.ref x)) (.ref C):=hc▸(Nd hx).andThen .now;have L1:=looks_mroIn (M:=Uv prog w) X F.mro;refine Ft KF.slot_gs.plain KF.entry_gs (KF.slot_gs.check _ _ _ _ _ _ _ _ KF.type_class (KF.args_gs _ _ _) ?_);unfold Dq.«getset_descriptor.__get__» descrGet;rw[dga_obj];refine Aa (Ag ?_);unfold descrGetter descrCheckInstance descrNameAndClass Lc;simp only[KF.owner_class];repeat lk
 refine⟨Kn _ (by decide+kernel),Kc KF.entry_class ?_⟩;unfold Dq.«object.__class__» shownTypeOf;repeat lk
 exact h
theorem A8{tk:Vl}{Q:Fin->Ad->Prop}(X:K.In s.heap)(hx:s.heap.get? x=some o)(hc:o.cls=.ref C)(F:XA K C)(h:Q (.done (.ret (.ref C))) s):Ut (Uv prog w) A (Dq.«object.__getattribute__» ⟨[.ref x,.str "__class__" tk],[]⟩) Q E s:=by
 obtain⟨hh,g,dr,t,os⟩:=s;have L0:Looks (Uv prog w) hh (Nl (.ref x)) (.ref C):=hc▸(Nd hx).andThen .now;have L1:=Ho (M:=Uv prog w) X F.cls;have L2:Looks (Uv prog w) hh (getOf (some (.builtin "object.__class__"))) (some (.builtin "getset_descriptor.__get__")):=looks_specialIn X F.get;have L3:=looks_takesIn (M:=Uv prog w) X F.tak;have LF:Looks (Uv prog w) hh (find (.ref x) (.ref C) "__class__") (.bind (.builtin "getset_descriptor.__get__") (.builtin "object.__class__")):=
  L1.andThen (L2.andThen ((show Looks (Uv prog w) hh (dataDescriptor? (some (.builtin "object.__class__")) (some (.builtin "getset_descriptor.__get__"))) (some (.builtin "getset_descriptor.__get__",.builtin "object.__class__")) from L3.andThen .now).andThen (Looks.tag .now)))
 unfold Dq.«object.__getattribute__»;repeat (any_goals (first|assumption|with_reducible refine Looks.at L0 ?_|with_reducible refine Looks.at LF ?_|wp_step))
 refine qY (s:=⟨hh,g,dr,t,os⟩) X hx hc F ?_;exact Ag h
theorem jD{tk:Vl}(X:K.In s.heap)(hx:s.heap.get? x=some o)(hc:o.cls=.ref C)(F:XA K C)(h:R (.ok (.ret (.ref C))) s):Fd (Uv prog w) A (.call (.builtin "BaseException.__getattribute__") ⟨[.ref x,.str "__class__" tk],[]⟩) R s:=by
 obtain⟨hh,g,dr,t,os⟩:=s;have L0:Looks (Uv prog w) hh (Nl (.ref x)) (.ref C):=hc▸(Nd hx).andThen .now;have L1:=looks_subIn (M:=Uv prog w) X F.sub;have hk:builtinKind "BaseException.__getattribute__"=some .slot:=by decide+kernel
 have hs:splitId "BaseException.__getattribute__"=some ("BaseException","__getattribute__"):=by decide+kernel
 have ha:=Ng (.ref x) (.str "__class__" tk);refine Ft PySem.F.excAttr_ValueError.ga.plain My (Aq (Q:=λ_ s'=>s'=⟨hh,g,dr,t,os⟩) ?_ (λ_ s' z=>?_) λ_ _ z=>z)
 ·simp only[Jj,hk,hs]
  unfold Lc;repeat (any_goals (first|rfl|assumption|with_reducible refine Looks.at L0 ?_|with_reducible refine Looks.at L1 ?_|wp_step))
 ·subst z
  refine A8 (s:=⟨hh,g,dr,t,os⟩) X hx hc F ?_;exact h
theorem A7{Q:Option Uq->Ad->Prop}(X:K.In s.heap)(hx:s.heap.get? x=some o)(hc:o.cls=.ref C)(F:XA K C)(h:Q (some (.ref C)) {s with toks:=s.toks+1}):Ut (Uv prog w) A (Ts (.ref x) "__class__") Q E s:=by
 obtain⟨hh,g,dr,t,os⟩:=s;have L0:Looks (Uv prog w) hh (Nl (.ref x)) (.ref C):=hc▸(Nd hx).andThen .now;have L1:=Ho (M:=Uv prog w) X F.ga;have L2:=Ho (M:=Uv prog w) X F.no;have fb:=PySem.F.excAttr_ValueError.ga.bind (.ref x);unfold Ts getAttrBy? getAttrBy;refine Aa (Qq (Aa (Lp (Bo (Aa (L0.at (Aa (L1.at ?_))))))));show Ut _ _ (Kb _ _ _ _ _ _) _ _ _;unfold Kb hookBefore callGetattribute boundAndCalled;repeat (any_goals (first|assumption|with_reducible refine Looks.at L0 ?_|with_reducible refine Looks.at L2 ?_|wp_step))
 refine jD (s:=⟨hh,g,dr,t+1,os⟩) X hx hc F ?_;refine handed_on rfl ?_;first|exact h|exact Ag h|exact Ag (Ag h)
theorem G2(F:XA K C)(hdct:(clsIn K C).isSome=true):KitX K (.ref x) (.ref C) (λh=>∃o,h.get? x=some o/\o.cls=.ref C) where
 ty:=λM h _ p=>by obtain⟨o,h1,h2⟩:=p;exact h2▸(Nd h1).andThen .now
 it:=λ_ _ X _=>by
  unfold clsIn at hdct;split at hdct
  ·rename_i ho
   intro A' Q' E' s' k q;unfold isType loadHead;exact Aa (Nr (k _ _ (X _ _ ho)) (Ag q))
  ·cases hdct
 ne:=λh tp dd its n sl X htp=>by
  refine Bool.eq_false_iff.mpr λq=>?_;have e:C=tp:=Value.ref.inj (beq_iff_eq.mp q);subst e;unfold clsIn at hdct;split at hdct
  ·rename_i ho
   have z:=(X _ _ ho).symm.trans htp;cases z
  ·cases hdct
 ca:=λX p k=>by obtain⟨o,h1,h2⟩:=p;exact A7 X h1 h2 F k
end
end L2
namespace L2
open PySem PySem.Spec PyProof.Rows
structure X9(k:Nat)(A:Br):Prop where
 dp:A.depth+3*k+5<Ez
 un:A.units+16*k+200<cLine
theorem ZG.h{k:Nat}{A:Br}(r:ZG k A):X9 k A:=⟨r.dp,r.un⟩
theorem X9.mono{j k:Nat}{A:Br}(r:X9 k A)(h:j<=k):X9 j A:=⟨by have:=r.dp;lia,by have:=r.un;lia⟩
theorem X9.deeper{k:Nat}{A:Br}(r:X9 (k+1) A)(env:Env):X9 k (A.deeper env):=
 ⟨by have:=r.dp;show A.depth+1+3*k+5<_;lia,by have:=r.un;show A.units+3+16*k+200<_;lia⟩
theorem X9.units{k:Nat}{A:Br}(r:X9 k A):A.units+64<cLine:=by have:=r.un;lia
theorem X9.unit{k:Nat}{A:Br}(r:X9 k A):A.units+1<cLine:=by have:=r.un;lia
noncomputable def cxH(P:Av)(w:Uy)(K:Ai)(mg:Uw->Option Uq)(base:Va)(N:List Uw)(qual:Uw)(scope:Vg)(f:Ur)(cd:Uq)(A:Br)(outer:List Env)(s:Ad)(H:Hp):Cx:=
 {TJ CX0 P w K mg base N qual scope f cd A outer s H E0 with calm:=false,xe:=λ_ _=>False}
structure FnH(P:Av)(w:Uy)(K:Ai)(mg:Uw->Option Uq)(base:Va)(k:Nat)(f:Ur)(fd:Df)(ps:List Uw)(sp:Sp):Prop where
 len:∀vs H Q E,sp vs H Q E->vs.length=ps.length
 run:∀(A:Br) (outer:List Env) (s:Ad) (H:Hp) (args:Args) (us:List Uq) (vs:List V) (Q:VK),X9 k A->AJ P w K mg base A outer s H->Pq s fd args (ps.zip us)->bN vs us->sp vs H Q E0->
  Fd (Uv P w) A (.call (.ref f) args) (CR CX0 outer P w H s Q E0) s
theorem cK.around{X:Cx}{A':Br}{aa:List (Ur×Vc)}{σ:St}{H:Hp}{s:Ad}{xe:Uq->Ad->Prop}(I:cK X aa σ H s)(hf:A'.frames=X.A.frames):cK {X with A:=A',calm:=false,xe:=xe} aa σ H s:=
 ⟨⟨I.ok.mod,I.ok.kind,I.ok.glob,I.ok.blt,I.ok.above,I.ok.inj,I.ok.has,I.ok.cab,λz=>(nomatch z),hf.trans I.ok.frames,I.ok.stk,I.ok.exf,I.ok.bs,I.ok.bsz,I.ok.noex,I.ok.exfs,I.ok.funs,I.ok.frf⟩,I.os,I.bare,I.base,I.loc,I.cell,I.free,I.freeC,I.pin,I.hok,I.len⟩
theorem cK.back{X:Cx}{A':Br}{aa:List (Ur×Vc)}{σ:St}{H:Hp}{s:Ad}{xe:Uq->Ad->Prop}(ok:X.Ok)(I:cK {X with A:=A',calm:=false,xe:=xe} aa σ H s):cK X aa σ H s:=
 ⟨ok,I.os,I.bare,I.base,I.loc,I.cell,I.free,I.freeC,I.pin,I.hok,I.len⟩
theorem YZ.okH{P:Av}{w:Uy}{K:Ai}{mg:Uw->Option Uq}{base:Va}{x qual:Uw}{st:Vd}{f:Ur}{fd:Df}{N ps:List Uw}{k:Nat}{sp:Sp}(F:YZ K x qual st f fd)(S:cG N ps (cU st))(len:∀vs H Q E,sp vs H Q E->vs.length=ps.length)(ap:∀(cdv:Uq) (A:Br) (outer:List Env) (s:Ad) (H:Hp) (vs:List V) (Q:VK),X9 k (A.deeper (envOfC qual (cU st) s.heap.objs.size f cdv))->sp vs H Q E0->∃t,W2 (cxH P w K mg base N qual (cU st) f cdv A outer s H) (aT st) t/\t {nx:=λ_ H'=>Q .non H',rt:=Q} (start N vs) H):FnH P w K mg base (k+1) f fd ps sp:=by
 obtain⟨oc,od,kV,doc,pm,an,cdv,ct,osl,rfl,lk,hcd⟩:=F.ex;refine⟨len,λA outer s H args us vs Q hr e0 hb r hsp=>?_⟩;have hl:=len _ _ _ _ hsp;have KX:K.In s.heap:=e0.mod.kin.keeps λb o e=>(e0.bs b o e).1;have lim:s.heap.NoLimit:=e0.mod.nolimit.keeps λb o e=>(e0.bs b o e).1;have g0:∀y∈ps.zip us,(cU st).names.lookup y.1=some .local∨((cU st).names.lookup y.1=some .cell/\((Vf (s.heap.objs.size+1) (cU st).names []).lookup y.1).isSome=true):=λ⟨n,v⟩ hy=>by
  rcases S.par n (Ia hy).1 with q|q
  ·exact .inl q
  ·exact .inr ⟨q,Lx _ _ _ (.inl q)⟩
 have j5:A.depth<Ez:=by have:=hr.dp;lia
 refine Jd j5 (KX _ _ lk) rfl S.co S.gen rfl (W.codeRec_of KX hcd) (hb _ _ _ _ ?_);refine Hb S.kind g0 λenv he s1 x=>?_;subst he;refine⟨lim.keeps x.toInCall.keep,Qk ?_⟩;obtain⟨t,ht,hq⟩:=ap cdv A outer s H vs Q (hr.deeper _) hsp;have e1:AJ P w K mg base {A with handled:=none} outer s H:=⟨e0.frames,e0.mod,e0.bs,e0.bsz,e0.funs,e0.frf,e0.hok,e0.bare⟩;have I0:cK (TJ CX0 P w K mg base N qual (cU st) f cdv {A with handled:=none} outer s H E0) [] (start N vs) H s1:=LK S rfl e1 hl r x;have I:cK (cxH P w K mg base N qual (cU st) f cdv A outer s H) [] (start N vs) H s1:=I0.around rfl;refine Aq (ht [] s1 (start N vs) H _ I hq) (λfl s' hs=>?_) λe s' hs=>(show False from hs).elim;have fin:∀{σ':St} {H':Hp} {v:V} {u:Uq},cK (cxH P w K mg base N qual (cU st) f cdv A outer s H) [] σ' H' s'->b5 v u->Q v H'->CE outer P w H s Q u s':=
  λ{σ' H' v u} J rv q=>⟨v,H',J.os,J.bare,J.base,J.hok,rv,q⟩
 cases fl with
 |ret u=>
  obtain⟨v,σ',H',J,rv,q⟩:=hs;exact fin J rv q
 |next=>
  obtain⟨σ',H',J,q⟩:=hs;exact fin (v:=V.non) (u:=Value.none) J rfl q
 |brk=>
  obtain⟨_,_,_,q⟩:=hs;cases q
 |cont=>
  obtain⟨_,_,_,q⟩:=hs;cases q
structure DefH(P:Av)(w:Uy)(K:Ai)(mg:Uw->Option Uq)(base:Va)(x:Uw)(k:Nat)(ps:List Uw)(sp:Sp)(f:Ur):Prop where
 at_:mg x=some (.ref f)
 ok:∃fd,FnH P w K mg base k f fd ps sp/\U5 K fd ps []
 kp:Hz K (.ref f)=true
section
variable{X:Cx}{K:Ai}{ml:List Nat}{e a b c:Ux}{es:List Ux}{ps:Bool}{pos:Pos}
theorem Xr{x:Uw}{kk j n:Nat}{qs:List Uw}{mF:List Nat}{F:bC}{ff:Ur}{p':Pos}{fs:PP}(D:DefH X.prog X.w K X.mg X.base x kk qs (spV K mF n F) ff)(hr:X9 j X.A)(ha:PA X (e::es) (EU K ml ps fs))(hK:X.K=K:=by rfl)(hk:kk<=j:=by decide)(hg:Gl X x:=by rfl)(hdb:(x==("__debug__":Uw))=false:=by decide)(he:Us (e::es) X.env=(false,eval e X.env)::Us es X.env:=by rfl)(hpl:(Dv pos (Us es X.env)).any (·.1)=false:=by rfl):PE X (.Call (.Name x p') (e::es) [] pos) (TV K ml (ps&&mF.isEmpty) true true (cL n mF F fs)):=by
 subst hK;obtain⟨fd,F',Bd⟩:=D.ok;refine PE.imp (t:=ED (spV X.K mF n F) [] E0 (EU X.K ml ps fs)) (λaa s σ H Q I h=>?_) λ_ _ _ h=>KM h;refine Es (VQ I hg D.at_ (Kl (h₀:=X.base) I.ok.mod.kin D.kp (ZN (ha pos aa s σ H _ I h) λus s1 hq=>?_) he hpl) hdb);obtain⟨vs,H1,I1,rv,hs⟩:=hq;rw[Cu] at hs;have hl:us.length=qs.length:=by rw[<-rv.length];exact F'.len _ _ _ _ hs
 have hb:=Bd s1 us I1.kIn (by simpa using hl);rw[Cu] at hb;refine⟨I1.kIn,Hl (Gq (F'.run X.A X.stack s1 H1 ⟨us,[]⟩ us vs Q (hr.mono hk) I1.env0 hb rv hs) λr s' hq=>?_)⟩;cases r with
 |error e'=>cases hq
 |ok fl=>cases fl with
  |ret u=>exact I1.after hq
  |next=>cases hq
  |brk=>cases hq
  |cont=>cases hq
end
theorem YZ.okVH{P:Av}{w:Uy}{K:Ai}{mg:Uw->Option Uq}{base:Va}{x qual:Uw}{st:Vd}{f:Ur}{fd:Df}{N ps:List Uw}{k:Nat}{ml:List Nat}{g:VS}(F:YZ K x qual st f fd)(S:cG N ps (cU st))(hps:ps.length<=N.length)(ap:∀(cdv:Uq) (A:Br) (outer:List Env) (s:Ad) (H:Hp),X9 k (A.deeper (envOfC qual (cU st) s.heap.objs.size f cdv))->W2 (cxH P w K mg base N qual (cU st) f cdv A outer s H) (aT st) (WE K ml g)):FnH P w K mg base (k+1) f fd ps (spV K ml ps.length (Z5 N.length ml g)):=by refine F.okH S (λvs H Q E h=>?_) (λcdv A outer s H vs Q hr h=>⟨_,ap cdv A outer s H hr,Yb (E:=E0) hps h⟩);obtain⟨Z,ds,r,os,hn,AV,_⟩:=h;rw[AV.len,hn]
structure XQ(K:Ai)(C Cp:Ur)(r:Bool):Prop where
 ty:W.typeIn K (.ref Cp)=some (.type "type")
 cls:(Sj K Cp).isSome=true
 base:Qa K (.ref Cp) (.type "BaseException")=some true
 sub:Qa K (.ref C) (.ref Cp)=some r
theorem XP.q{K:Ai}{C Cp:Ur}(h:XP K C Cp):XQ K C Cp true:=⟨h.ty,h.cls,h.base,h.sub⟩
theorem A9{r:Bool}{prog:Av}{w:Uy}{A:Br}{E:Uq->Ad->Prop}{s:Ad}{K:Ai}{x C Cp:Ur}{o:Vc}{Q:Bool->Ad->Prop}(X:K.In s.heap)(hx:s.heap.get? x=some o)(hc:o.cls=.ref C)(F:XQ K C Cp r)(h:Q r s):Ut (Uv prog w) A (excMatches (.ref x) (.ref Cp)) Q E s:=by
 obtain⟨hh,g,dr,t,os⟩:=s;cases r
 all_goals
  have L0:W.Looks (Uv prog w) hh (Nl (.ref x)) (.ref C):=hc▸(W.Looks.ld hx).andThen .now;have L1:=W.looks_typeIn (M:=Uv prog w) X F.ty;have L2:=W.looks_subIn (M:=Uv prog w) X F.base;have L3:=W.looks_subIn (M:=Uv prog w) X F.sub;have L4:W.Looks (Uv prog w) hh (isType (.ref Cp)) true:=by
   have hd:=F.cls;unfold Sj at hd;split at hd
   ·rename_i ho
    intro A' Q' E' s' k q;unfold isType loadHead;exact Aa (Nr (k _ _ (X _ _ ho)) (Ag q))
   ·cases hd
  have f:=tc_notTuple;unfold excMatches isExcClass Lc;repeat (any_goals (first|assumption|with_reducible refine W.Looks.at L0 ?_|with_reducible refine W.Looks.at L1 ?_|with_reducible refine W.Looks.at L2 ?_|with_reducible refine W.Looks.at L3 ?_|with_reducible refine W.Looks.at L4 ?_|wp_step))
def excP(a C:Ur):Option Ur->Va->Prop
 |none=>λh=>CU h a C
 |some D=>λh=>Yn h a C D
section
variable{X:Cx}{aa:List (Ur×Vc)}{σ:St}{H:Hp}{s:Ad}{h':Va}{a C:Ur}
theorem cK.track{o:Vc}{vs:Array Uq}{p:Option Ur}(I:cK X aa σ H s)(ha:H a=none)(he:s.heap.get? a=some o)(hc:o.cls=.ref C)(hd:o.data=.fields vs)(hdc:o.dict=p)(hs:X.s₀.heap.get? a=none)(hp:∀p∈X.pn++aa,p.1≠a):cK X aa σ (upd H a (.ext (excP a C p))) s:=by
 have neS:∀b o,X.s₀.heap.get? b=some o->b≠a:=λb o e z=>by rw[z,hs] at e;cases e
 have neH:∀b u,H b=some u->b≠a:=λb u e z=>by rw[z,ha] at e;cases e
 refine⟨I.ok,I.os,I.bare,⟨I.base.keep,I.base.slot,λb o e n hx=>?_,I.base.there,λb xs e=>?_,λb o u e=>?_,λb ps e=>?_⟩,I.loc,I.cell,?_,λx c e=>?_,λp hq=>?_,λb u e=>?_,I.len⟩
 ·rw[b6 (neS b o e)];exact I.base.free b o e n hx
 ·have q:=I.base.tups b xs e
  rw[b6 (neH b _ q)];exact q
 ·have q:=I.base.frzs b o u e
  rw[b6 (neH b _ q)];exact q
 ·obtain⟨more,q⟩:=I.base.tbls b ps e
  exact⟨more,by rw[b6 (neH b _ q)];exact q⟩
 ·obtain⟨m,⟨oL,_,_,hoL,hdL,_⟩,_⟩:=I.loc
  have:X.env.locals≠a:=λz=>by rw[z,he] at hoL;cases hoL;rw[hd] at hdL;cases hdL
  rw[b6 this];exact I.free
 ·obtain⟨v,oc,hoc,hdc⟩:=I.cell x c e
  have:c≠a:=λz=>by rw[z,he] at hoc;cases hoc;rw[hd] at hdc;cases hdc
  rw[b6 this];exact I.freeC x c e
 ·obtain⟨e,n,ne,nf,d⟩:=I.pin p hq
  exact⟨e,by rw[b6 (hp p hq)];exact n,ne,nf,d⟩
 ·by_cases hb:b=a
  ·subst hb
   rw[cF] at e;cases e;cases p with
   |none=>exact⟨⟨o,vs,he,hc,hd⟩,⟨o,he⟩,λh1 h2 q k=>by obtain⟨o1,vs1,e1,e2,e3⟩:=q;exact⟨o1,vs1,k o1 e1,e2,e3⟩⟩
   |some D0=>exact⟨⟨o,vs,he,hc,hd,hdc⟩,⟨o,he⟩,λh1 h2 q k=>by obtain⟨o1,vs1,e1,e2,e3,e4⟩:=q;exact⟨o1,vs1,k o1 e1,e2,e3,e4⟩⟩
  ·rw[b6 hb] at e
   exact(I.hok b u e).stay (λ_ _ _ q=>q) (λc q=>by rw[b6 (neH c _ q)];exact q) λc xs q=>by rw[b6 (neH c _ q)];exact q
theorem cK.unbound{m':Uw->Option Uq}{t':Nat}(I:cK X aa σ H s)(ns:h'.Ns X.env.locals m')(sb:Ey X.env.locals s.heap h'):cK X aa (As X.N.length none) H {s with heap:=h',toks:=t'}:=by
 have neL:∀b o,X.s₀.heap.get? b=some o->b≠X.env.locals:=λb o e=>Aw (At (Aj e) I.ok.above);have neH:∀b u,H b=some u->b≠X.env.locals:=λb u e z=>by rw[z,I.free] at e;cases e
 refine⟨I.ok,I.os,I.bare,⟨λb o e n hb hx=>(sb.2 b (neL b o e)).trans (I.base.keep b o e n hb hx),λb o e n hb hx=>?_,I.base.free,λb o e hx=>?_,I.base.tups,I.base.frzs,I.base.tbls⟩,⟨m',ns,λi x v _ e2 _=>?_⟩,λx c e=>?_,I.free,I.freeC,λp hp=>?_,λb u e=>?_,by simp⟩
 ·obtain⟨sl,e1⟩:=I.base.slot b o e n hb hx
  exact⟨sl,(sb.2 b (neL b o e)).trans e1⟩
 ·obtain⟨o',e1⟩:=I.base.there b o e hx
  exact⟨o',(sb.2 b (neL b o e)).trans e1⟩
 ·rw[Cj] at e2
  split at e2<;>cases e2
 ·obtain⟨v,z⟩:=I.cell x c e
  exact⟨v,z.sameBut sb (I.cne x c e)⟩
 ·obtain⟨e,n,ne,nf,d⟩:=I.pin p hp
  exact⟨(sb.2 p.1 ne).trans e,n,ne,nf,d⟩
 ·refine (I.hok b u e).stay (λc v hc q => (sb.2 c ?_).trans q) (λ_ q => q) λ_ _ q => q
  rcases hc with rfl|hc
  ·exact neH _ u e
  ·exact neH c _ hc
end
theorem Cx.Ok.pns{X:Cx}(ok:X.Ok)(pn:List (Ur×Vc))(xe:Uq->Ad->Prop):Cx.Ok {X with pn:=pn,xe:=xe}:=
 ⟨ok.mod,ok.kind,ok.glob,ok.blt,ok.above,ok.inj,ok.has,ok.cab,ok.hd,ok.frames,ok.stk,ok.exf,ok.bs,ok.bsz,ok.noex,ok.exfs,ok.funs,ok.frf⟩
abbrev Cx.hnd(X:Cx)(a:Ur):Cx:={X with A:=X.A.mark (some (.ref a)),calm:=false,xe:=λ_ _=>False}
noncomputable def GW:Xw->cX
 |(x,none)=>.exn x
 |(x,some (n,d))=>.exr x n d
section
variable{X:Cx}{K:Ai}{ml:List Nat}{pos:Pos}{g k kA:VS}{z:VZ}
theorem Zj{n:Uw}{cg:Pos}{b0:Vd}{cv:List Vd}{i:Nat}{aa:List (Ur×Vc)}{D:MM}{B:Bs}{O':Nat->Option Ur}{δ1 δ2:Ev}{d:cX}{x0:Xw}{C a:Ur}{a0:Uq}{p:Option Ur}{σ2:St}{H2:Hp}{s':Ad}{gh h5 Bh:Va}(hN:X.N.Nodup)(hi:X.N[i]?=some n)(hl:X.env.kindOf n=some .local)(him:i∉ml)(hst:X.stack=X.env::X.outer)(hk:∀a,W2 (X.hnd a) (b0::cv) (WE X.K ml k))(hx:XC X.K x0.1 C)(J':cK X aa σ2 H2 s')(lo':Low X aa gh)(fl5:Ko Bh (X.env::X.outer) a (.ref C) a0 h5)(dc5:Dc a p h5)(up5:s'.heap.UpToSlots h5)(c1:∀b o,gh.get? b=some o->b∉U7 X.stack->∃o',s'.heap.get? b=some o'/\Bh.get? b=some o')(c2:∀b u,H2 b=some u->∃o,s'.heap.get? b=some o/\Bh.get? b=some o)(S1:aS X.K ml B O' H2 σ2 δ1)(pay:Pay X.K (Nn B O') H2 p x0.2)(h3:k (δ1.set i (.va (GW x0)))=some (.rt d δ2))(post:Post X.K ml B D (.rt d δ2)):Fd (Uv X.prog X.w) (X.A.mark (some (.ref a))) (.handlers (.ref a) [.ExceptHandler none (some n) (b0::cv) cg] X.env) (λr s₂=>match r with
   |.ok f=>Ut (Uv X.prog X.w) X.A (do Iy X.env n .none;unbindBehindTheSuite X.env n cg) (λ_ s₃=>SP X aa D f s₃) X.xe s₂
   |.error x=>cameBackBy (Uv X.prog X.w) X.A X.env X.xe x s₂) {s' with heap:=h5}:=by
 refine codeAny_handlers_suite_as (QH (KD.flight _ _) dc5 (lands_againW fl5 λh6 fl6 up6 dc6=>?_));have I6:cK X aa σ2 H2 {s' with heap:=h6}:=J'.flyG lo' fl6.1 (up5.trans up6) c1 c2;obtain⟨oe,vs,_,_,_,he,hcl,hdt,_⟩:=id fl6.2.2.2;have dct:oe.dict=p:=dc6.at he;have Bn:Bh.get? a=none:=fl6.2.1;have nfr:a∉U7 X.stack:=λhb=>by rw[hst] at hb;obtain⟨_,o',e',nf⟩:=fl6.2.2.1.mem hb;rw[he] at e';cases e';exact nf vs hdt
 have na:∀b o,gh.get? b=some o->b≠a:=λb o e z=>by subst z;obtain⟨o',_,e2⟩:=c1 b o e nfr;rw[Bn] at e2;cases e2
 have ha:H2 a=none:=by
  cases e:H2 a with
  |none=>rfl
  |some u=>
   obtain⟨o',_,e2⟩:=c2 a u e;rw[Bn] at e2;cases e2
 have hs0:X.s₀.heap.get? a=none:=by
  cases e:X.s₀.heap.get? a with
  |none=>rfl
  |some o'=>
   obtain⟨o2,e2⟩:=lo'.s0 a o' e nfr;exact absurd rfl (na a o2 e2)
 have I7:=I6.track (p:=p) (C:=C) ha he hcl.1 hdt dct hs0 λq hq=>by obtain⟨o2,e2⟩:=lo'.pin q hq;exact na _ o2 e2
 have S7:aS X.K ml B O' (upd H2 a (.ext (excP a C p))) σ2 δ1:=S1.same (cQ ha);refine Y2 (X:=X.hnd a) (I7.around rfl) hN hi (.inl hl) (v:=.ref a) rfl (λs8 I8=>?_) (.inr hl);have rx:∀M,bI X.K (Nn B O') (upd H2 a (.ext (excP a C p))) M (.ref a) (GW x0):=λM=>by
  obtain⟨xn,y⟩:=x0;cases p with
  |none=>
   cases y with
   |none=>exact .exn hx.at_ cF λh z=>z
   |some y=>exact pay.elim
  |some D0=>
   cases y with
   |none=>exact pay.elim
   |some y=>
    obtain⟨yn,yd⟩:=y;obtain⟨v,e,r⟩:=pay;have nD:D0≠a:=λq=>by rw[q,ha] at e;cases e
    exact .exr hx.at_ cF (λh z=>z) (by rw[b6 nD];exact e) (r.same (cQ ha))
 have S8:=S7.setVa (i:=i) (v:=.ref a) (d:=GW x0) him (rx _);refine Aq (hk a aa s8 _ _ ⟨λ_ _=>False,D.rt,λ_ _=>False,λ_ _=>False⟩ I8 ⟨B,_,_,.rt d δ2,S8,h3,post⟩) (λf s9 hf=>?_) λe s9 he=>(show False from he).elim;cases f with
 |next=>obtain⟨_,_,_,z⟩:=hf;cases z
 |brk=>obtain⟨_,_,_,z⟩:=hf;cases z
 |cont=>obtain⟨_,_,_,z⟩:=hf;cases z
 |ret u=>
  obtain⟨v,σ9,H9,I9,r9,hD⟩:=hf;have I9:=I9.back J'.ok;obtain⟨m,hn,_⟩:=id I9.loc;refine wpAny_nameGoes hl hn (by rw[I9.ok.kind];rfl) λh' m' ns' sb=>?_;exact⟨v,_,H9,I9.unbound ns' sb,r9,hD⟩
noncomputable def HX(g:VS)(z:VZ)(i:Nat)(kk:Uw->VS):VS:=λδ=>match g δ with
 |some o=>some o
 | none => match z δ with
  |some (x,δ1)=>match kk x.1 (δ1.set i (.va (GW x))) with
   |some (.rt d δ2)=>some (.rt d δ2)
   |_=>none
  |none=>none
noncomputable def EA(g:VS)(z:VZ)(i:Nat)(cs:List Uw)(y:Uw)(kA k:VS):VS:=HX g z i λx=>if x∈cs then(if x=y then kA else k) else λ_=>none
structure Wi(X:Cx)(ml:List Nat)(i:Nat)(kk:Uw->VS)(aa:List (Ur×Vc))(D:MM)(C a:Ur)(x:Xw)(s':Ad)(h5:Va):Prop where
 xc:XC X.K x.1 C
 ex:∃B O' δ1 δ2 d a0 p σ2 H2 gh Bh,cK X aa σ2 H2 s'/\Low X aa gh/\Ko Bh (X.env::X.outer) a (.ref C) a0 h5/\Dc a p h5/\s'.heap.UpToSlots h5/\(∀b o,gh.get? b=some o->b∉U7 X.stack->∃o',s'.heap.get? b=some o'/\Bh.get? b=some o')∧
  (∀b u,H2 b=some u->∃o,s'.heap.get? b=some o/\Bh.get? b=some o)/\aS X.K ml B O' H2 σ2 δ1/\Pay X.K (Nn B O') H2 p x.2/\kk x.1 (δ1.set i (.va (GW x)))=some (.rt d δ2)/\Post X.K ml B D (.rt d δ2)
theorem fE{body:List Vd}{h0:Pj}{hs:List Pj}{i:Nat}{kk:Uw->VS}(hK:X.K=K)(hst:X.stack=X.env::X.outer)(hfr:X.env.frame=some X.env.locals)(hg:W2 X.nox body (WE K ml g))(hz:∀(pn:List (Ur×Vc)) (xe:Uq->Ad->Prop) (R:Uw->Option Ur->St->Hp->Prop),RzF {X with pn:=pn,xe:=xe} R->W2 {X with pn:=pn,xe:=xe} body (ZS R K ml z))(hh:∀aa D C a x s' h5,Wi X ml i kk aa D C a x s' h5->Ut (Uv X.prog X.w) X.A (handleBy (.ref a) X.env (h0::hs)) (λf s=>SP X aa D f s) X.xe {s' with heap:=h5}):PS X (.Try body (h0::hs) [] [] pos) (WE K ml (HX g z i kk)):=by
 intro aa s σ H D I h;obtain⟨B,O,δ,o,S,q,post⟩:=h;refine wpAny_Try_except ?_;unfold HX at q;cases h1:g δ with
 |some o'=>
  rw[h1] at q;cases q;refine Aq (hg aa s σ H D (I.wish _) ⟨B,O,δ,o,S,h1,post⟩) (λf s1 hf=>?_) λe s1 he=>(show False from he).elim;have hf:=hf.unwish;cases f with
  |next=>exact Hv hf
  |_=>exact hf
 |none=>
  rw[h1] at q;dsimp only at q;cases h2:z δ with
  |none=>rw[h2] at q;cases q
  |some p=>
   obtain⟨x0,δ1⟩:=p;rw[h2] at q;dsimp only at q;cases h3:kk x0.1 (δ1.set i (.va (GW x0))) with
   |none=>rw[h3] at q;cases q
   |some ok=>
    rw[h3] at q;cases ok with
    |nx _=>cases q
    |bk _=>cases q
    |ct _=>cases q
    |rt d δ2=>
     cases q;subst hK;have I1:∀{xe:Uq->Ad->Prop} {σ:St} {H:Hp} {s:Ad},cK X aa σ H s->cK {X with pn:=X.pn++aa,xe:=xe} [] σ H s:=λI=>⟨I.ok.pns _ _,I.os,I.bare,I.base,I.loc,I.cell,I.free,I.freeC,λp hp=>I.pin p (by simpa using hp),I.hok,I.len⟩;have I2:∀{xe:Uq->Ad->Prop} {ps:List (Ur×Vc)} {σ:St} {H:Hp} {s:Ad},cK {X with pn:=X.pn++aa,xe:=xe} ps σ H s->cK X aa σ H s:=λJ=>⟨I.ok,J.os,J.bare,J.base,J.loc,J.cell,J.free,J.freeC,λp hp=>J.pin p (Bk _ hp),J.hok,J.len⟩;refine Aq (hz (X.pn++aa) _ (λx p σ' H'=>x=x0.1/\∃O',aS X.K ml B O' H' σ' δ1/\Pay X.K (Nn B O') H' p x0.2) (λps x C p σ2 H2 e s' gh hx J F lo hR=>?_) [] s σ H ⟨λ_ _=>False,λ_ _=>False,λ_ _=>False,λ_ _=>False⟩ (I1 I) ⟨B,O,δ,x0,δ1,S,h2,λσ' H' O' p S' hp=>⟨rfl,O',S',hp⟩⟩) (λf s1 hf=>?_) λe s1 he=>he;rotate_left
     ·cases f with
      |next=>obtain⟨_,_,_,z⟩:=hf;cases z
      |brk=>obtain⟨_,_,_,z⟩:=hf;cases z
      |cont=>obtain⟨_,_,_,z⟩:=hf;cases z
      |ret u=>obtain⟨_,_,_,_,_,z⟩:=hf;cases z
     obtain⟨rfl,O',S1,pay⟩:=hR;have J':=I2 J;have lo':Low X aa gh:=⟨lo.s0,λp hp=>lo.pin p (Bk _ hp)⟩;obtain⟨a,a0,Bh,rfl,fl,dc,c1,c2⟩:=F;have fl:Ko Bh (X.env::X.outer) a (.ref C) a0 s'.heap:=hst▸fl;refine QH (KD.note _ _) dc (wpAny_looks_onW (J'.ok.frames.trans (by rw[hst])) hfr fl λh4 hd4 up4 dc4=>QH (KD.flight _ _) dc4 (wpAny_landsW hd4 λh5 fl5 up5 dc5=>?_));exact hh aa D C a x0 s' h5 ⟨hx,B,O',δ1,δ2,d,a0,p,σ2,H2,gh,Bh,J',lo',fl5,dc5,up4.trans up5,c1,c2,S1,pay,h3,post⟩
theorem K9{n yn:Uw}{np cg:Pos}{b0:Vd}{cv:List Vd}{rest:List Pj}{i:Nat}{kk:Uw->VS}{aa:List (Ur×Vc)}{D:MM}{C a Cy:Ur}{x:Xw}{s':Ad}{h5:Va}{r:Bool}(hst:X.stack=X.env::X.outer)(hN:X.N.Nodup)(hi:X.N[i]?=some n)(hl:X.env.kindOf n=some .local)(him:i∉ml)(hg0:Gl X yn)(hm:X.mg yn=some (.ref Cy))(hq:XQ X.K C Cy r)(hdb:(yn==("__debug__":Uw))=false)(L:Wi X ml i kk aa D C a x s' h5)(hk:r=true->(∀a,W2 (X.hnd a) (b0::cv) (WE X.K ml k))/\kk x.1=k)(hr:r=false->Ut (Uv X.prog X.w) X.A (handleBy (.ref a) X.env rest) (λf s=>SP X aa D f s) X.xe {s' with heap:=h5}):Ut (Uv X.prog X.w) X.A (handleBy (.ref a) X.env (.ExceptHandler (some (.Name yn np)) (some n) (b0::cv) cg::rest)) (λf s=>SP X aa D f s) X.xe {s' with heap:=h5}:=by
 obtain⟨hx,B,O',δ1,δ2,d,a0,p,σ2,H2,gh,Bh,J',lo',fl5,dc5,up5,c1,c2,S1,pay,h3,post⟩:=L;have I5:cK X aa σ2 H2 {s' with heap:=h5}:=J'.flyG lo' fl5.1 up5 c1 c2;have I5h:cK (X.hnd a) aa σ2 H2 {s' with heap:=h5}:=I5.around rfl;refine wpAny_handleBy_cons (codeAny_handlers_test (VQ (X:=X.hnd a) I5h hg0 hm ?_ hdb)) (by intro q;cases q);obtain⟨oe5,vs5,_,_,_,he5,ri,_⟩:=id fl5.2.2.2;refine A9 I5.kIn he5 ri.1 hq ?_;cases r with
 |false=>exact hr rfl
 |true=>
  obtain⟨hk,ek⟩:=hk rfl;rw[ek] at h3;exact Zj hN hi hl him hst hk hx J' lo' fl5 dc5 up5 c1 c2 S1 pay h3 post
theorem jH{body:List Vd}{n y:Uw}{cs:List Uw}{np cg np2 nq:Pos}{b0 b2:Vd}{cv iu:List Vd}{i:Nat}(hK:X.K=K)(hst:X.stack=X.env::X.outer)(hfr:X.env.frame=some X.env.locals)(hN:X.N.Nodup)(hi:X.N[i]?=some n)(hl:X.env.kindOf n=some .local)(him:i∉ml)(hg0:Gl X "PackError")(hm:∀C,Er K Uu "PackError"=some (some (.ref C))->X.mg "PackError"=some (.ref C))(hy:Gl X y)(hdy:(y==("__debug__":Uw))=false)(hY:∃Cy,X.mg y=some (.ref Cy)/\∀x∈cs,∀C,Er K Uu x=some (some (.ref C))->XQ K C Cy (decide (x=y)))(hg:W2 X.nox body (WE K ml g))(hz:∀(pn:List (Ur×Vc)) (xe:Uq->Ad->Prop) (R:Uw->Option Ur->St->Hp->Prop),RzF {X with pn:=pn,xe:=xe} R->W2 {X with pn:=pn,xe:=xe} body (ZS R K ml z))(hkA:∀a,W2 (X.hnd a) (b0::cv) (WE K ml kA))(hk:∀a,W2 (X.hnd a) (b2::iu) (WE K ml k)):PS X (.Try body [.ExceptHandler (some (.Name y np)) (some n) (b0::cv) cg,.ExceptHandler (some (.Name "PackError" np2)) (some n) (b2::iu) nq] [] [] pos) (WE K ml (EA g z i cs y kA k)):=by
 subst hK;refine fE rfl hst hfr hg hz λaa D C a x s' h5 L=>?_;obtain⟨Cp,hP⟩:=L.xc.pk;obtain⟨Cy,hmy,hQ⟩:=hY;have hc:x.1∈cs:=by
  obtain⟨_,_,_,_,_,_,_,_,_,_,_,_,_,_,_,_,_,_,_,_,q,_⟩:=L.ex;by_cases z:x.1∈cs
  ·exact z
  ·rw[if_neg z] at q
   cases q
 refine K9 (r:=decide (x.1=y)) (k:=kA) hst hN hi hl him hy hmy (hQ _ hc _ L.xc.at_) hdy L (λz=>⟨hkA,by rw[if_pos hc,if_pos (of_decide_eq_true z)]⟩) λz=>?_;exact K9 (r:=true) (k:=k) hst hN hi hl him hg0 (hm Cp hP.at_) hP.q (by decide) L (λ_=>⟨hk,by rw[if_pos hc,if_neg (of_decide_eq_false z)]⟩) λz=>nomatch z
end
section
variable{X:Cx}{K:Ai}{ml:List Nat}{e a b c fx:Ux}{es:List Ux}{pa ta ia pb tb ib pf ft fi ps:Bool}{fa fb fe:VF}{B:Bs}{O:Nat->Option Ur}{H H1 H':Hp}{σ:St}{δ δ':Ev}{v:V}{d:cX}{pos:Pos}{R:Uw->Option Ur->St->Hp->Prop}
noncomputable def WX:List cX->Option (List Bool)
 |[]=>some []
 |.bl i::ds=>(WX ds).map λns=>i::ns
 |_=>none
theorem K3{N:Ur->Prop}:∀{xs:List V} {ds:List cX} {ns:List Bool},cD K N H xs ds->WX ds=some ns->xs=ns.map V.bl
 |_,_,_,.nil,h=>by cases h;rfl
 | _,_,_,@cD.cons _ _ _ v vs d ds h t,e => by
  cases d with
  |bl k=>
   cases h;have e:(WX ds).map (λks=>k::ks)=some _:=e;cases h2:WX ds with
   |none=>rw[h2] at e;cases e
   |some ks=>
    rw[h2] at e;cases e;rw[K3 t h2];rfl
  |_=>cases e
noncomputable def FS(n:Bool):List Bool->Option Nat
 |[]=>none
 |i::ns=>if i=n then some 0 else(FS n ns).map (· +1)
theorem LZ{n:Bool}:∀{ns:List Bool} {j:Nat},FS n ns=some j->ns[j]?=some n/\∀m,m<j->ns[m]? ≠some n
 |[],_,h=>by cases h
 | i :: ns,j,h => by
  unfold FS at h;split at h
  ·rename_i hi
   cases h;exact⟨by rw[hi];rfl,λm hm=>absurd hm (Mw _)⟩
  ·rename_i hi
   cases h1:FS n ns with
   |none=>rw[h1] at h;cases h
   |some k=>
    rw[h1] at h;cases h;obtain⟨h2,h3⟩:=LZ h1;refine⟨by simpa using h2,λm hm=>?_⟩;cases m with
    |zero=>simpa using hi
    |succ m=>simpa using h3 m (Mg hm)
noncomputable def G0(n:Bool):Uq->Bool
 |.bool i=>i==n
 |_=>false
theorem M8:∀{ns:List Bool} {us:List Uq},bN (ns.map V.bl) us->us=ns.map Hk
 |[],_,.nil=>rfl
 |i::ns,_,.cons r t=>by rw[M8 t];cases r;rfl
def J8(K:Ai):V->List V->Hp->VK->Prop:=λx vs H Q=>∃(l:Ur) (ns:List Bool) (n:Bool) (j:Nat),x=.ref l/\vs=[.bl n]/\YA K H l (ns.map V.bl)/\FS n ns=some j/\Q (.int j) H
def J7(K:Ai):V->List V->Hp->VK->Prop:=λx vs H Q=>∃(l:Ur) (ns:List Bool) (n:Bool),x=.ref l/\vs=[.bl n]/\YA K H l (ns.map V.bl)/\Q (.int (ns.count n:Nat)) H
theorem Yo{us:List Uq}{n:Bool}(r:bN [V.bl n] us):us=[.bool n]:=by
 cases r with
 |cons r t=>cases t;cases r;rfl
theorem BS:MtM X "list.index" (J8 X.K):=by
 intro aa s σ H x vs v us Q I rx rv h;obtain⟨l,ns,n,j,rfl,rfl,hq,hj,q⟩:=h;cases rx;obtain rfl:=Yo rv;obtain⟨its,r,⟨o,c,e,hc,hd,bn⟩,hz⟩:=I.list hq;obtain⟨cls,dd,data,sl⟩:=o;simp only at hc hd bn;subst hc hd bn;have hl:=r.length;obtain rfl:=M8 r;obtain⟨h1,h2⟩:=LZ hj;have hj':j<ns.length:=(Ah.mp h1).1;have hsz:ns.length<=16777216:=by rw[By] at hz;rw[<-Bt];exact hz
 refine Gb Pz ⟨_,e,rfl⟩ Ov (Ny _ _) (Ow l (ns.map Hk).toArray c none sl (.bool n) (G0 n) j (by simpa using hj') (by lia) ?_ ?_) ⟨e,?_,?_⟩
 ·have : ns[j] = n := by have := Dg hj';rw [h1] at this;exact (Bx this).symm
  simp[G0,this]
 ·intro m hm hmj
  have hm':m<ns.length:=by simpa using hm
  have:=h2 m hmj;rw[Dg hm'] at this;simp only[List.getElem_toArray,List.getElem_map,G0];exact beq_eq_false_iff_ne.mpr λz=>this (by rw[z])
 ·intro y hy
  have hy:y∈ns.map Hk:=by simpa using hy
  obtain⟨i,_,rfl⟩:=Dj.mp hy;exact Ni i n
 ·exact⟨.int j,H,I.tok _,⟨_,rfl⟩,q⟩
theorem BQ:MtM X "list.count" (J7 X.K):=by
 intro aa s σ H x vs v us Q I rx rv h;obtain⟨l,ns,n,rfl,rfl,hq,q⟩:=h;cases rx;obtain rfl:=Yo rv;obtain⟨its,r,⟨o,c,e,hc,hd,bn⟩,hz⟩:=I.list hq;obtain⟨cls,dd,data,sl⟩:=o;simp only at hc hd bn;subst hc hd bn;obtain rfl:=M8 r;refine Gb F.slot_list_count ⟨_,e,rfl⟩ F.entry_list_count (F.args_list_count_2 _ _) (SeqAt.list_countAt l (ns.map Hk).toArray c none sl (.bool n) (G0 n)) ⟨e,?_,?_⟩
 ·intro y hy
  have hy:y∈ns.map Hk:=by simpa using hy
  obtain⟨i,_,rfl⟩:=Dj.mp hy;exact Ni i n
 ·have rf:(ns.map Hk).toArray.toList.countP (G0 n)=ns.count n:=by rw[List.toList_toArray,List.countP_map];rfl
  refine⟨.int (ns.count n:Nat),H,I.tok _,⟨s.toks,?_⟩,q⟩;rw[rf]
noncomputable def J1:cX->cX->Option cX
 |.lst ds,.bl n=>(WX ds).bind λns=>(FS n ns).map λj=>.int j
 |_,_=>none
noncomputable def JZ:cX->cX->Option cX
 |.lst ds,.bl n=>(WX ds).map λns=>.int (ns.count n:Nat)
 |_,_=>none
theorem Yl{ao af:Pos}{name:Uw}{id:String}{r:V->List V->Hp->VK->Prop}{o:cX->cX->Option cX}(hK:X.K=K)(sl:Slot "list" name id)(ty:Nl (.builtin id)=pure (.type "method_descriptor"))(mt:MtM X id r)(ho:∀{x y d:cX},o x y=some d->∃ds n ns i,x=.lst ds/\y=.bl n/\WX ds=some ns/\d=.int i/\∀(H:Hp) (l:Ur) (Q:VK),YA K H l (ns.map V.bl)->Q (.int i) H->r (.ref l) [.bl n] H Q)(ha:PE X a (TV K ml pa ta ia fa))(hb:PE X b (TV K ml pb tb ib fb))(cj:Fn a name X.env (eval a X.env)=eval a X.env:=by rfl)(eo:((Dv af (Us (b::[]) X.env)).all (λx=> !x.1)&&(Ic af (Fe [] X.env)).all (λx=>x.1.isSome)&&decide ((b::([]:List Ux)).length+([]:List Iv).length+(if([]:List Iv).isEmpty then 0 else 1)<30))=true:=by rfl)(ci:(ao.endLine==af.line)=true:=by rfl)(hs:Us (b::[]) X.env=(false,eval b X.env)::Us [] X.env:=by rfl)(bp:(Dv af (Us [] X.env)).any (·.1)=false:=by rfl)(hl:(pb || (ta&&ia))=true:=by rfl):PE X (.Call (.Attribute a name ao) [b] [] af) (TV K ml (pa&&pb) true true (f2 o fa fb)):=
 (kBm (K := K) hK Ii sl ty mt ha (bM hb ZY hs) cj eo ci hs bp).imp λσ H Q q0 => by
  obtain⟨B,O,δ,d,δ2,S,q,k⟩:=q0;obtain⟨x,δ1,y,h1,h2,h3⟩:=SE q;obtain⟨ds,n,ns,i,rfl,rfl,h4,rfl,h5⟩:=ho h3;refine⟨B,O,δ,_,δ1,S,h1,λv1 H1 R1=>?_⟩;obtain⟨l,xs,rfl,sq,_⟩:=R1.rep.lstE;refine⟨.inl ⟨rfl,xs,sq⟩,B,O,δ1,_,δ2,R1.sta,h2,λv2 H2 R2=>?_⟩;have r2:=R2.rep;cases r2;obtain⟨l',xs',e1,sq',r'⟩:=(R2.live hl R1.rep).lstE;cases e1;have:=K3 r' h4;subst this;exact h5 H2 l Q sq' (k _ H2 ⟨R2.sta,R1.frm.trans R2.frm,λz=>by obtain⟨z1,z2⟩:=(Ae _ _).mp z;exact(R1.pur z1).trans (R2.pur z2),.int _⟩)
theorem gD{x y d:cX}(h:J1 x y=some d):∃ds n ns i,x=.lst ds/\y=.bl n/\WX ds=some ns/\d=.int i/\∀(H:Hp) (l:Ur) (Q:VK),YA K H l (ns.map V.bl)->Q (.int i) H->J8 K (.ref l) [.bl n] H Q:=by
 unfold J1 at h;split at h
 ·rename_i ds n
  cases h1:WX ds with
  |none=>rw[h1] at h;cases h
  |some ns=>
   rw[h1,Af] at h;cases h2:FS n ns with
   |none=>rw[h2] at h;cases h
   |some j=>
    rw[h2] at h;cases h;exact⟨ds,n,ns,j,rfl,rfl,h1,rfl,λH l Q sq q=>⟨l,ns,n,j,rfl,rfl,sq,h2,q⟩⟩
 ·cases h
theorem mW{x y d:cX}(h:JZ x y=some d):∃ds n ns i,x=.lst ds/\y=.bl n/\WX ds=some ns/\d=.int i/\∀(H:Hp) (l:Ur) (Q:VK),YA K H l (ns.map V.bl)->Q (.int i) H->J7 K (.ref l) [.bl n] H Q:=by
 unfold JZ at h;split at h
 ·rename_i ds n
  cases h1:WX ds with
  |none=>rw[h1] at h;cases h
  |some ns=>
   rw[h1] at h;cases h;exact⟨ds,n,ns,_,rfl,rfl,h1,rfl,λH l Q sq q=>⟨l,ns,n,rfl,rfl,sq,q⟩⟩
 ·cases h
theorem gC(h:X.K=K):MtM X "list.index" (J8 K):=by subst h;exact BS
theorem oE(h:X.K=K):MtM X "list.count" (J7 K):=by subst h;exact BQ
def rIsx(K:Ai):RC:=λxs H Q=>∃a C φ u k,xs=[.ref a,u]/\H a=some (.ext φ)/\(∀h,φ h->CU h a C)/\XA K C/\(Sj K C).isSome=true/\((∃D,u=.ref D/\Hh K (.ref C) (.ref D)=some k)∨∃n,u=.ty n/\Hh K (.ref C) (.type n)=some k)/\Q (.bl k) H
theorem nY:aR X (.builtin "isinstance") (rIsx X.K):=by
 intro aa s σ H xs us Q I r h;obtain⟨a,C,φ,u,k,rfl,hH,hφ,xa,hc,hk,q⟩:=h;obtain⟨v,c,rfl,rx,rc⟩:=IF r;cases rx;obtain⟨o,vs,e1,e2,_⟩:=hφ _ (I.hok a _ hH).1;have fin:∀tk,EP X aa σ Q (.bool k) {s with toks:=tk}:=λtk=>⟨.bl k,H,I.tok tk,rfl,q⟩;rcases hk with⟨D,rfl,hk⟩|⟨n,rfl,hk⟩
 ·cases rc
  exact Fc (G2 xa hc) I.kIn ⟨o,e1,e2⟩ hk (λz=>nomatch z) fin
 ·cases rc
  exact Fc (G2 xa hc) I.kIn ⟨o,e1,e2⟩ hk (λz=>nomatch z) fin
theorem TK(h:X.K=K):aR X (.builtin "isinstance") (rIsx K):=by subst h;exact nY
structure XI(K:Ai)(cs all:List Uw):Prop where
 own:∀c∈cs,∃C,XC K c C
 isi:∀c∈cs,∀C,Er K Uu c=some (some (.ref C))->∀x∈all,∃D,Er K Uu x=some (some (.ref D))/\Hh K (.ref C) (.ref D)=some (decide (c=x))
 val:∀c∈cs,∀C,Er K Uu c=some (some (.ref C))->Hh K (.ref C) (.type "ValueError")=some true
 pke:∀c∈cs,∀C,Er K Uu c=some (some (.ref C))->∃D,Er K Uu "PackError"=some (some (.ref D))/\Hh K (.ref C) (.ref D)=some true
noncomputable def LV(cs all:List Uw)(c:Uw):cX->Option cX
 |.fn x=>if c∈cs/\x∈all then some (.bl (decide (c=x))) else if c∈cs/\x= "PackError" then some (.bl true) else none
 |.ty n=>if c∈cs/\n= "ValueError" then some (.bl true) else none
 |_=>none
noncomputable def V7(cs all:List Uw):cX->cX->Option cX
 |.exn c,y=>LV cs all c y
 |.exr c _ _,y=>LV cs all c y
 |_,_=>none
theorem Wp{cs all:List Uw}(F:XI K cs all){N M:Ur->Prop}{c0:Uw}{C a:Ur}{φ:Va->Prop}{y d:cX}{u:V}{Q:VK}(hn:Er K Uu c0=some (some (.ref C)))(hH:H a=some (.ext φ))(hφ:∀h,φ h->CU h a C)(hy:bI K N H M u y)(h:LV cs all c0 y=some d)(k:∀b:Bool,d=.bl b->Q (.bl b) H):rIsx K [.ref a,u] H Q:=by
 unfold LV at h;split at h
 ·rename_i x0
  cases hy with
  |fn hf=>
   split at h
   ·rename_i hm
    cases h;obtain⟨C',hC⟩:=F.own _ hm.1;have:=hn.symm.trans hC.at_;cases this;obtain⟨D,hD,hk⟩:=F.isi _ hm.1 _ hn _ hm.2;have:=hf.symm.trans hD;cases this;exact⟨_,_,_,_,_,rfl,hH,hφ,hC.att,hC.cls,.inl ⟨_,rfl,hk⟩,k _ rfl⟩
   ·split at h
    ·rename_i hm
     cases h;obtain⟨hm,rfl⟩:=hm;obtain⟨C',hC⟩:=F.own _ hm;have:=hn.symm.trans hC.at_;cases this;obtain⟨D,hD,hk⟩:=F.pke _ hm _ hn;have:=hf.symm.trans hD;cases this;exact⟨_,_,_,_,_,rfl,hH,hφ,hC.att,hC.cls,.inl ⟨_,rfl,hk⟩,k _ rfl⟩
    ·cases h
 ·rename_i n0
  cases hy;split at h
  ·rename_i hm
   cases h;obtain⟨hm,rfl⟩:=hm;obtain⟨C',hC⟩:=F.own _ hm;have:=hn.symm.trans hC.at_;cases this;exact⟨_,_,_,_,_,rfl,hH,hφ,hC.att,hC.cls,.inr ⟨_,rfl,F.val _ hm _ hn⟩,k _ rfl⟩
  ·cases h
 ·cases h
theorem XJ{cs all:List Uw}(F:XI K cs all):M0 K (rIsx K) (V7 cs all):=by
 intro H N N' M M' x y d e c Q hx hy h k;unfold V7 at h;split at h
 ·cases hx with
  |exn hn hH hφ=>exact Wp F hn hH hφ hy h λb e=>k (.bl b) λ_ _ _=>by rw[e];exact .bl b
 ·cases hx with
  |exr hn hH hφ _ _=>exact Wp F hn hH (λh z=>by obtain⟨o,vs,e1,e2,e3,_⟩:=hφ h z;exact⟨o,vs,e1,e2,e3⟩) hy h λb e=>k (.bl b) λ_ _ _=>by rw[e];exact .bl b
 ·cases h
noncomputable def NX(cs:List Uw)(nm:Uw):cX->Option cX
 |.exr x n d=>if x∈cs/\n=nm then some d else none
 |_=>none
theorem iU{v:V}{u:Uq}(h:b5 v u):W.handedIn u=true:=by
 cases v<;>first|(cases h;rfl)|(obtain⟨_,h⟩:=h;cases h;rfl)
theorem lX{cs:List Uw}{nm:Uw}(hK:X.K=K)(hG:∀x∈cs,∀C,Er K Uu x=some (some (.ref C))->∃Cp,XG K C Cp nm/\XA K C)(ha:PE X a (TV K ml pa ta ia fa))(hb:Fn a nm X.env (eval a X.env)=eval a X.env:=by rfl):PE X (.Attribute a nm pos) (TV K ml pa ia ia (f1 (NX cs nm) fa)):=by
 subst hK;intro aa s σ H Q I h;obtain⟨B,O,δ,d,δ',S,q,k⟩:=h;obtain⟨x,h1,h2⟩:=QM q;unfold NX at h2;split at h2
 ·rename_i xn n y
  split at h2
  ·rename_i hc
   cases h2;obtain⟨hc,rfl⟩:=hc;refine lG hb (Aq (ha aa s σ H (λv H1=>∃B O δ',Res X.K ml B O H σ pa ta ia H1 δ' v (.exr xn n d)/\∀v H',Res X.K ml B O H σ pa ia ia H' δ' v d->Q v H') I ⟨B,O,δ,_,δ',S,h1,λv H1 R=>⟨B,O,δ',R,k⟩⟩) (λu s1 hq=>?_) λ_ _ z=>z);obtain⟨v,H1,I1,rv,B,O,δ',R,k⟩:=hq;have r:=R.rep;cases r with
   |exr hn hH hφ hD rp=>
    cases rv;obtain⟨Cp,hXG,hXA⟩:=hG _ hc _ hn;obtain⟨o,vs,e1,e2,e3,e4⟩:=hφ _ (I1.hok _ _ hH).1;obtain⟨mA,ns,hr⟩:=(I1.hok _ _ hD);have hr:=hr n;have el:∀y:V,Hi n [(n,y)]=some y:=λy=>by unfold Hi;rw[beq_self_eq_true]
    rw[el] at hr;cases hm:mA n with
    |none=>rw[hm] at hr;cases hr
    |some u=>
     rw[hm] at hr;have hr:b5 _ u:=hr;exact Zl I1.kIn e1 e2 e3 e4 ns hm (iU hr) hXG hXA ⟨_,H1,I1.tok _,hr,k _ H1 ⟨R.sta,R.frm,R.pur,rp.mono (λ_ z=>z) Vx⟩⟩
  ·cases h2
 ·cases h2
theorem dC{tf:TE}{t:TA}(hf:PE X fx tf)(ha:PA X (e::es) t)(hc:eval (.Call fx (e::es) [] pos) X.env=(do Pb pos (<-eval fx X.env) [] (Dv pos (Us (e::es) X.env)) (Ic pos (Fe [] X.env))):=by rfl)
  (he:Us (e::es) X.env=(false,eval e X.env)::Us es X.env:=by rfl) (hpl:(Dv pos (Us es X.env)).any (·.1)=false:=by rfl):
  PE X (.Call fx (e::es) [] pos) (rO X tf t):=by
 intro aa s σ H Q I h;rw[hc];refine Aa (ZN (hf aa s σ H _ I h) λu s1 ⟨x,H1,I1,rx,f,sp,ex,F,q⟩=>?_);subst ex;obtain rfl:u=Ba f:=rx;obtain⟨k,fd,qs,F,hr,hk,hb⟩:=F;refine Kl (h₀:=X.base) I.ok.mod.kin hk (ZN (ha pos aa s1 σ H1 _ I1 q) λus s2 ⟨vs,H2,I2,r,q2⟩=>⟨I2.kIn,Wh (dvs:=[]) (ds:=[]) F hr hb .nil Xa I2 r ?_⟩) he hpl;rwa[Cu]
noncomputable def NG(n:Nat)(mF:List Nat)(tb:List (Uw×bC))(fe:VF)(fs:PP):VF:=λδ=>match fe δ with
 |some (.fn x,δ1)=>(OL tb x).bind λF=>cL n mF F fs δ1
 |_=>none
theorem eP{n:Nat}{mF:List Nat}{tb:List (Uw×bC)}{fs:PP}(ht:CZ X K mF n tb)(hf:PE X fx (TV K ml pf ft fi fe))(ha:PA X (e::es) (EU K ml ps fs))(hc:eval (.Call fx (e::es) [] pos) X.env=(do Pb pos (<-eval fx X.env) [] (Dv pos (Us (e::es) X.env)) (Ic pos (Fe [] X.env))):=by rfl)
  (he:Us (e::es) X.env=(false,eval e X.env)::Us es X.env:=by rfl) (hpl:(Dv pos (Us es X.env)).any (·.1)=false:=by rfl):
  PE X (.Call fx (e::es) [] pos) (TV K ml false true true (NG n mF tb fe fs)):=(dC hf ha hc he hpl).imp λσ H Q h=>by
 obtain⟨B,O,δ,d,δ',S,q,k⟩:=h;unfold NG at q;split at q
 ·rename_i x δ1 hx
  cases hF:OL tb x with
  |none=>rw[hF] at q;cases q
  |some F=>
   rw[hF] at q;refine⟨B,O,δ,_,δ1,S,hx,λv H1 R1=>?_⟩;have r:=R1.rep;cases r with
   |fn h=>
    refine⟨_,_,rfl,ht x F _ hF h,?_⟩;obtain⟨B',O',δ2,as,δ3,S',q',k'⟩:=KM (F:=F) (fs:=fs) (K:=K) (ml:=ml) (ps:=ps) (n:=n) (mF:=mF) (σ:=σ) (H:=H1) (Q:=Q) ⟨B,O,δ1,d,δ',R1.sta,q,λv H' R'=>k v H' ⟨R'.sta,R1.frm.trans R'.frm,(λz=>nomatch z),R'.rep⟩⟩;exact⟨B',O',δ2,as,δ3,S',q',λvs H' R=>by have z:spV K mF n F (vs++[]) H' Q E0:=k' vs H' R;rwa[Cu] at z⟩
 ·cases q
noncomputable def SY:List (Uw×(List cX->Option Xw))->Uw->Option (List cX->Option Xw)
 |[],_=>none
 |(y,F)::r,x=>if y=x then some F else SY r x
def TabX(X:Cx)(K:Ai)(n:Nat)(tb:List (Uw×(List cX->Option Xw))):Prop:=∀x F a,SY tb x=some F->Er K Uu x=some (some (.ref a))->
 ∃(k:Nat) (fd:Df) (qs:List Uw),aW X.prog X.w X.K X.mg X.base (GH X.prog X.w) k a fd qs (spX K n F)/\ZG k X.A/\Hz X.K (.ref a)=true/\U5 X.K fd qs []
theorem pO{n:Nat}:TabX X K n []:=λ_ _ _ h=>nomatch h
theorem MF{x:Uw}{kk j:Nat}{qs:List Uw}{F:List cX->Option Xw}{ff:Ur}{tb:List (Uw×(List cX->Option Xw))}(hK:X.K=K)(hm:∀x a,Er K Uu x=some (some (.ref a))->X.mg x=some (.ref a))(hr:ZG j X.A)
  (D:PM X.prog X.w K X.mg X.base x kk qs F ff) (hk:kk<=j) (t:TabX X K qs.length tb):TabX X K qs.length ((x,F)::tb):=λy G a h1 h2=>by
 unfold SY at h1;split at h1
 ·rename_i hxy
  subst hxy;cases h1;have e:=(hm x a h2).symm.trans D.at_;cases e;subst hK;obtain⟨fd,F,Bd⟩:=D.ok;exact⟨kk,fd,qs,F,hr.mono hk,D.kp,Bd⟩
 ·exact t y G a h1 h2
noncomputable def OT(n:Nat)(tb:List (Uw×(List cX->Option Xw)))(fe:VF)(fs:PP):VZ:=λδ=>match fe δ with
 |some (.fn x,δ1)=>(SY tb x).bind λF=>SA n F fs δ1
 |_=>none
theorem pR{n:Nat}{tb:List (Uw×(List cX->Option Xw))}{fs:PP}(hz:RzF X R)(hK:X.K=K)(hex:X.ex=[])(ht:TabX X K n tb)(hf:PE X fx (TV K ml pf ft fi fe))(ha:PA X (e::es) (EU K ml ps fs))(hc:eval (.Call fx (e::es) [] pos) X.env=(do Pb pos (<-eval fx X.env) [] (Dv pos (Us (e::es) X.env)) (Ic pos (Fe [] X.env))):=by rfl)
  (he:Us (e::es) X.env=(false,eval e X.env)::Us es X.env:=by rfl) (hpl:(Dv pos (Us es X.env)).any (·.1)=false:=by rfl):
  PE X (.Call fx (e::es) [] pos) (ZE R K ml (OT n tb fe fs)):=by
 intro aa s σ H Q I h;obtain⟨B,O,δ,x0,δ',S,q,k⟩:=h;unfold OT at q;split at q
 ·rename_i x δ1 hx
  cases hF:SY tb x with
  |none=>rw[hF] at q;cases q
  |some XF=>
   rw[hF,Af] at q;rw[hc];refine Aa (ZN (hf aa s σ H (λv H1=>∃a,v=.ref a/\Er K Uu x=some (some (.ref a))/\aS K ml B O H1 σ δ1) I ⟨B,O,δ,_,δ1,S,hx,λv H1 R1=>?_⟩) λu s1 hq=>?_)
   ·have r:=R1.rep
    cases r with
    |fn h=>exact⟨_,rfl,h,R1.sta⟩
   ·obtain⟨v,H1,I1,rx,a,rfl,hn,S1⟩:=hq
    obtain rfl:u=Ba a:=rx;obtain⟨kk,fd,qs,F,hr,hkp,hb⟩:=ht x XF a hF hn;refine Kl (h₀:=X.base) I.ok.mod.kin hkp (ZN (ha pos aa s1 σ H1 _ I1 (EI (ps:=ps) (Q:=Q) hz hK hex ⟨B,O,δ1,x0,δ',S1,q,k⟩)) λus s2 hq=>?_) he hpl;obtain⟨vs,H2,I2,rv,E,hE,hs⟩:=hq;have hl:us.length=qs.length:=by rw[<-rv.length];exact F.len _ _ _ _ hs
    have hb:=hb s2 us I2.kIn (by simpa using hl);rw[Cu] at hb;refine⟨I2.kIn,Hl (Gq (F.run X.A X.stack s2 H2 ⟨us,[]⟩ us vs Q E hr I2.env0 hb rv hs) λr s' hq=>?_)⟩;cases r with
    |error e'=>exact hE aa s2 e' s' I2 hq
    |ok fl=>cases fl with
     |ret u=>exact I2.after hq
     |next=>cases hq
     |brk=>cases hq
     |cont=>cases hq
 ·cases q
end
end L2
namespace L2
open PySem PySem.Spec PyProof.Rows PySem.W
theorem FI{K:Vj}{h:Va}{N:Ur}{m:Uw->Option Uq}{n:Uw}{v:Uq}(X:K.In h)(G:h.Ns N m)(e:nsIn K N n=some (some v)):m n=some v:=by
 obtain⟨o,es,ep,ho,hd,_,hf⟩:=G;unfold nsIn at e;split at e
 ·rename_i c d es' n' sl q
  have:=X _ _ q;rw[ho] at this;cases this;cases hd;split at e
  ·rename_i he
   cases e;rw[<-hf];unfold nsFind findBy;rw[<-Oi,he];rfl
  ·split at e<;>cases e
 ·cases e
noncomputable def excI(K:Vj)(C fI:Ur):Bool:=match K.lookup C with
 |some ⟨.type t,_,.cls cd,sl⟩=>t== "type"&&(match cd.mro,sl.toList with
  |.ref C'::bm,[_,_,_,_,some (.builtin n),_]=>C'==C&&(n== "ValueError.__new__"&&(!cd.hasDel&&(tailIn K vbs bm&&(nsOkIn K cd.ns&&nsIn K cd.ns "__init__"==some (some (.ref fI))))))
  |_,_=>false)
 |_=>false
theorem pB{K:Vj}{h:Va}{C fI:Ur}(X:K.In h)(q:excI K C fI=true):∃bm N nm q bs hdct sn sub ab col dd k0 k1 k2 k3 k5 mN,h.get? C=some (Gs nm q C N bs bm hdct sn sub ab col dd k0 k1 k2 k3 k5 "ValueError.__new__")/\h.Ns N mN/\mN "__init__"=some (.ref fI)/\Ob h vbs bm:=by
 unfold excI at q;split at q
 ·rename_i t dd cd sl ho
  rw[Ae,beq_iff_eq] at q;obtain⟨rfl,q⟩:=q;split at q
  ·rename_i C' bm k0 k1 k2 k3 n k5 hm hs
   simp only[Ae,beq_iff_eq,Qd] at q;obtain⟨rfl,rfl,j6,ht,hok,hni⟩:=q;obtain⟨nm,bs,mro,ns,qn,hd,sn,sub,ab,col,del⟩:=cd;dsimp only at hm j6 hok hni;subst hm j6;obtain⟨sl⟩:=sl;simp only at hs;subst hs;have G:=Heap.Ns.of_isNs (isNs_of_in X hok);exact⟨bm,ns,nm,qn,bs,hd,sn,sub,ab,col,dd,k0,k1,k2,k3,k5,_,X _ _ ho,G,FI X G hni,tail_of_in X ht⟩
  ·cases q
 ·cases q
structure XZ(K:Vj)(x nm:Uw)(C:Ur):Prop where
 xc:XC K x C
 mak:∃Cp fI qual st txt fd,nsIn K Uu "PackError"=some (some (.ref Cp))/\excI K C fI=true/\typeIn K (.ref fI)=some (.type "function")/\KS K qual st nm txt fI fd/\XG K C Cp nm/\XH K Cp
noncomputable def PL(x nm:Uw)(fs:PP):VZ:=λδ=>(fs δ).bind λp=>match p.1 with
 |[.d d]=>some ((x,some (nm,d)),p.2)
 |_=>none
section
variable{X:Cx}{K:Vj}{ml:List Nat}{R:Uw->Option Ur->St->Hp->Prop}{pos:Pos}
theorem CP{x nm:Uw}{np af:Pos}{e:Ux}{ps:Bool}{fs:PP}{j:Nat}(hK:X.K=K)(hz:RzP X R)(hc:X.calm=true)(hr:ZG j X.A)(hg:Gl X x)(hx:∃C,XZ K x nm C/\X.mg x=some (.ref C))(hm:∀C,nsIn K Uu "PackError"=some (some (.ref C))->X.mg "PackError"=some (.ref C))(ha:PA X [e] (EU K ml ps fs))(hdb:(x==("__debug__":Uw))=false:=by decide)(he:Us [e] X.env=[(false,eval e X.env)]:=by rfl):PS X (.Raise (some (.Call (.Name x np) [e] [] af)) none pos) (ZS R K ml (PL x nm fs)):=by
 intro aa s σ H D I h;obtain⟨B,O,δ,x',δ',S,q,k⟩:=h;subst hK;unfold PL at q;cases h1:fs δ with
 |none=>rw[h1] at q;cases q
 |some p=>
  obtain⟨as,δ1⟩:=p;rw[h1,Af] at q;dsimp only at q;split at q
  ·rename_i d
   cases q;obtain⟨C,hC,hmC⟩:=hx;obtain⟨Cp,fI,qual,st,txt,fd,hPk,hE,hf,hI,hG,hH⟩:=hC.mak;obtain⟨bm,N,nm',q,bs,hdct,sn,sub,ab,col,dd,k0,k1,k2,k3,k5,mN,o1,o2,o3,o4⟩:=pB I.ok.mod.kin hE;have tr:Dv af (Us [e] X.env)=[(false,eval e X.env)]:=by rw[he];rfl
   refine BA (C:=C) (cn:=nm') (q:=q) (N:=N) (bs:=bs) (bm:=bm) (hdct:=hdct) (sn:=sn) (sub:=sub) (ab:=ab) (col:=col) (dd:=dd) (k0:=k0) (k1:=k1) (k2:=k2) (k3:=k3) (k5:=k5) (mN:=mN) (mg:=X.mg) (Cp:=Cp) (fI:=fI) (K:=X.K) (nm:=nm) (qual:=qual) (st:=st) (txt:=txt) (fd:=fd) (o4.hasType (by decide)) (I.ok.hd hc) (by have:=hr.dp;lia) (by rw[tr];rfl) (VQ I hg hmC ⟨rfl,?_⟩ hdb);rw[tr];refine Eg ?_;rw[<-tr];refine Aq (ha af aa s σ H (λvs H'=>aS X.K ml B O H' σ δ'/\V4 X.K (Nn B O) H' σ vs [.d d]) I ⟨B,O,δ,_,δ',S,h1,λvs H' G=>⟨G.sta,G.rep⟩⟩) (λus s2 hq=>?_) λ_ _ z=>z;obtain⟨vs,H2,I2,rv,S2,rg⟩:=hq;cases rg with
   |d r t=>
    cases t;obtain⟨u,rfl,ru⟩:∃u,us=[u]/\b5 _ u:=by
     cases rv with
     |cons a b=>cases b;exact⟨_,rfl,a⟩
    have kp:∀b o,X.base.get? b=some o->s2.heap.get? b=some o:=I2.bk;refine⟨u,rfl,I2.kIn,I2.nolimit,I2.mod.glob.keeps kp,hm Cp hPk,kp _ _ o1,o2.keeps kp,o3,hf,o4.keeps kp,hI,hG,hH,λh' a tk M=>hz aa x nm C a _ u σ H2 s2.heap _ hC.xc (I2.tok tk) M ru λD hD=>?_⟩;exact k σ _ O (some D) (S2.same (cQ hD)) ⟨_,cF,r.same (cQ hD)⟩
  ·cases q
end
end L2
namespace L2
open PySem PySem.Spec PyProof.Rows
theorem BC(l b:Ur)(u v:Array Uq)(n m:Nat)(sl:Array (Option Uq))(h0:¬(!u.isEmpty&&Ga (u.size+v.size))=true)(h1:u.size<=sizeLine)(h2:(u++v).size<=sizeLine+1):Meets (Dq.«list.extend» ⟨[.ref l,.ref b],[]⟩) (λ_ R s=>s.heap.get? l=some ⟨.type "list",none,.seq u n,#[]⟩/\s.heap.get? b=some ⟨.type "list",none,.seq v m,sl⟩/\R (.ok (.ret .none)) {s with heap:=s.heap.update l (Fl λx=>x++v)}):=
 .of_wp λprog w A R s h=>by
  obtain⟨hp,g,d,tk,os⟩:=s;obtain⟨hl,hb,h⟩:=h;have f1:=Mb;have f2:=AutoSeq1.sub_tuple_tuple;have f3:=AutoSeq1.sub_list_list;have f4:=AutoSeq1.sub_tuple_list;have f5:=AutoSeq1.sub_list_tuple;wp_walk using(wpAny_updateSeq hl rfl (hz:=h1) (_hz':=h2)),Cq hl,Cq hb
  exact⟨_,rfl,h⟩
def Vn(K:Ai):V->List V->Hp->VK->Prop:=λx vs H Q=>∃l b xs zs,x=.ref l/\vs=[.ref b]/\H l=some (.lst xs)/\YA K H b zs/\xs.length+zs.length<=sizeLine/\Q .non (upd H l (.lst (xs++zs)))
theorem mI{X:Cx}:MtM X "list.extend" (Vn X.K):=by
 intro aa s σ H x vs v us Q I rx rv h;obtain⟨l,b,xs,zs,rfl,rfl,hH,hB,hz,q⟩:=h;cases rx;obtain⟨u,rfl,ru⟩:=rv.one;cases ru;obtain⟨z,its,n,r,hl,e⟩:=I.lstM hH;obtain⟨en,r2,⟨⟨cls,dd,data,sl⟩,n2,e2,hc,hd,bn⟩,_⟩:=I.list hB;simp only at hc hd bn;subst hc hd bn;have hl2:=r2.length;have hsz:its.toArray.size+en.toArray.size<=sizeLine:=by rw[An,An];lia
 refine Gb F.slot_list_extend ⟨_,e,rfl⟩ F.entry_list_extend (F.args_list_extend_2 _ _) (BC l b its.toArray en.toArray n n2 sl (by rw[cZ hsz,Bool.and_false];exact Cs) (by rw[An];lia) (by rw[Array.size_append];lia)) ⟨e,e2,?_⟩
 refine⟨.non,_,I.lset (its':=its++en) hH e (by simp) (r.append r2) ?_,rfl,q⟩;rw[Cc];lia
theorem Wb{X:Cx}{K:Ai}(h:X.K=K):MtM X "list.extend" (Vn K):=by subst h;exact mI
noncomputable def mExt:List cX->List cX->Option (List cX)
 |ds,[.lst es]=>if ds.length+es.length<=16777216 then some (ds++es) else none
 |_,_=>none
theorem FA{K:Ai}:MuV K (Vn K) mExt:=by
 intro H N l xs vs ds es ds' Q hl hN rx re h k;cases re with
 |nil=>cases h
 | @cons v vs d es hd t=>
  cases t with
  |cons _ _=>cases d<;>cases h
  |nil=>
   cases d with
   |lst es=>
    simp only[mExt] at h;split at h
    ·rename_i hz
     cases h;obtain⟨b,zs,rfl,sq,r⟩:=hd.lstE;exact⟨l,b,xs,zs,rfl,rfl,hl,sq,by rw[rx.length,r.length,Bt];exact hz,k _ _ (rx.append r)⟩
    ·cases h
   |_=>cases h
theorem MR:Be "ValueError"=some (.type "ValueError"):=by decide+kernel
theorem X9.mark{k:Nat}{A:Br}(r:X9 k A)(h:Option Uq):X9 k (A.mark h):=⟨r.dp,r.un⟩
noncomputable def xiOk(K:Ai)(cs all:List Uw):Bool:=cs.all λc=>match Er K Uu c with
 |some (some (.ref C))=>all.all (λx=>match Er K Uu x with
  |some (some (.ref D))=>Hh K (.ref C) (.ref D)==some (decide (c=x))
  |_=>false)&&(Hh K (.ref C) (.type "ValueError")==some true&&match Er K Uu "PackError" with
  |some (some (.ref D))=>Hh K (.ref C) (.ref D)==some true
  |_=>false)
 |_=>false
theorem XI.of{K:Ai}{cs all:List Uw}(own:∀c∈cs,∃C,XC K c C)(h:xiOk K cs all=true):XI K cs all:=by
 have key:∀c∈cs,∀C,Er K Uu c=some (some (.ref C))->(∀x∈all,∃D,Er K Uu x=some (some (.ref D))/\Hh K (.ref C) (.ref D)=some (decide (c=x)))/\Hh K (.ref C) (.type "ValueError")=some true/\∃D,Er K Uu "PackError"=some (some (.ref D))/\Hh K (.ref C) (.ref D)=some true:=by
  intro c hc C hn;have:=Ei.mp h c hc;rw[hn] at this;simp only[Ae,beq_iff_eq] at this;refine⟨λx hx=>?_,this.2.1,?_⟩;rotate_left
  ·have h2:=this.2.2
   split at h2
   ·rename_i D hD
    exact⟨D,hD,beq_iff_eq.mp h2⟩
   ·cases h2
  have h2:=Ei.mp this.1 x hx;split at h2
  ·rename_i D hD
   exact⟨D,hD,beq_iff_eq.mp h2⟩
  ·cases h2
 exact⟨own,λc hc C hn=>(key c hc C hn).1,λc hc C hn=>(key c hc C hn).2.1,λc hc C hn=>(key c hc C hn).2.2⟩
noncomputable def xqOk(K:Ai)(cs:List Uw)(y:Uw)(Cy:Ur):Bool:=W.typeIn K (.ref Cy)==some (.type "type")&&((Sj K Cy).isSome&&(Qa K (.ref Cy) (.type "BaseException")==some true&&cs.all λc=>match Er K Uu c with
 |some (some (.ref C))=>Qa K (.ref C) (.ref Cy)==some (decide (c=y))
 |_=>false))
theorem XQ.of{K:Ai}{cs:List Uw}{y:Uw}{Cy:Ur}(h:xqOk K cs y Cy=true):∀x∈cs,∀C,Er K Uu x=some (some (.ref C))->XQ K C Cy (decide (x=y)):=by intro x hx C hn;unfold xqOk at h;simp only[Ae,beq_iff_eq] at h;have h2:=Ei.mp h.2.2.2 x hx;rw[hn] at h2;exact⟨h.1,h.2.1,h.2.2.1,beq_iff_eq.mp h2⟩
theorem oS{K:Ai}{mg:Uw->Option Uq}{x nm:Uw}(h:∃C,XZ K x nm C/\mg x=some (.ref C)):∀y∈[x],∀C,Er K Uu y=some (some (.ref C))->∃Cp,XG K C Cp nm/\XA K C:=by intro y hy C hn;obtain⟨C',hz,_⟩:=h;cases Ay.mp hy;have:=hn.symm.trans hz.xc.at_;cases this;obtain⟨Cp,_,_,_,_,_,_,_,_,_,hG,_⟩:=hz.mak;exact⟨Cp,hG,hz.xc.att⟩
theorem DI{P:Av}{w:Uy}{K:Ai}{mg:Uw->Option Uq}{base h:Va}{x:Uw}{st:Vd}{f:Ur}{ps:List Uw}{XF:List cX->Option Xw}{k:Nat}(X:K.In h)(G:h.Ns Uu mg)(p:A4 K x st f)(ok:∀{fd:Df},YZ K x x st f fd->aW P w K mg base (GH P w) k f fd ps (spX K ps.length XF))(hb:∀{kV doc pm:Uq} {an:Option Ur} {cdv ct:Uq} (us:List Uq),us.length=ps.length->Rj (Ly x x (YW st) (aT st) (cU st) .none kV doc pm an cdv ct) ⟨us,[]⟩=pure (ps.zip us)):PM P w K mg base x k ps XF f:=by obtain⟨oc,od,kV,doc,pm,an,cdv,ct,osl,a,b,c,d⟩:=p;have U:=JQ (st:=st) b c d;exact⟨Ds X G a,⟨_,ok U,U.binds λ_ _ _ _ _ _=>hb⟩,d⟩
theorem lS{P:Av}{w:Uy}{K:Ai}{mg:Uw->Option Uq}{base h:Va}{x:Uw}{st:Vd}{f:Ur}{ps:List Uw}{sp:Sp}{k:Nat}(X:K.In h)(G:h.Ns Uu mg)(p:A4 K x st f)(ok:∀{fd:Df},YZ K x x st f fd->FnH P w K mg base k f fd ps sp)(hb:∀{kV doc pm:Uq} {an:Option Ur} {cdv ct:Uq} (us:List Uq),us.length=ps.length->Rj (Ly x x (YW st) (aT st) (cU st) .none kV doc pm an cdv ct) ⟨us,[]⟩=pure (ps.zip us)):DefH P w K mg base x k ps sp f:=by obtain⟨oc,od,kV,doc,pm,an,cdv,ct,osl,a,b,c,d⟩:=p;have U:=JQ (st:=st) b c d;exact⟨Ds X G a,⟨_,ok U,U.binds λ_ _ _ _ _ _=>hb⟩,d⟩
theorem okZ(P:Av)(w:Uy)(K:Ai)(mg:Uw->Option Uq)(base:Va){x qual:Uw}{st:Vd}{f:Ur}{fd:Df}(N ps:List Uw)(k:Nat)(z:VZ)(F:YZ K x qual st f fd)(S:cG N ps (cU st))(ap:∀(cdv:Uq) (A:Br) (outer:List Env) (s:Ad) (H:Hp) (E:XK) (hr:ZG k (A.deeper (envOfC qual (cU st) s.heap.objs.size f cdv))) (_:(A.deeper (envOfC qual (cU st) s.heap.objs.size f cdv)).units+64<cLine) (_:(A.deeper (envOfC qual (cU st) s.heap.objs.size f cdv)).units+1<cLine),W2 (TJ (GH P w) P w K mg base N qual (cU st) f cdv A outer s H E) (aT st) (ZS (rE K E) K [] z))(hps:ps.length<=N.length:=by decide):aW P w K mg base (GH P w) (k+1) f fd ps (spX K ps.length (MX N.length z)):=
 YZ.okX F S hps λcdv A outer s H E hr=>ap cdv A outer s H E hr hr.units (Yv hr)
theorem okWH(P:Av)(w:Uy)(K:Ai)(mg:Uw->Option Uq)(base:Va){x qual:Uw}{st:Vd}{f:Ur}{fd:Df}(N ps:List Uw)(k:Nat)(g:VS)(ml:List Nat)(F:YZ K x qual st f fd)(S:cG N ps (cU st))(ap:∀(cdv:Uq) (A:Br) (outer:List Env) (s:Ad) (H:Hp) (hr:X9 k (A.deeper (envOfC qual (cU st) s.heap.objs.size f cdv))) (_:(A.deeper (envOfC qual (cU st) s.heap.objs.size f cdv)).units+64<cLine) (_:(A.deeper (envOfC qual (cU st) s.heap.objs.size f cdv)).units+1<cLine),W2 (cxH P w K mg base N qual (cU st) f cdv A outer s H) (aT st) (WE K ml g))(hps:ps.length<=N.length:=by decide):FnH P w K mg base (k+1) f fd ps (spV K ml ps.length (Z5 N.length ml g)):=
 YZ.okVH F S hps λcdv A outer s H hr=>ap cdv A outer s H hr hr.units hr.unit
def WJ{α:Type}(k:Nat)(xs:List α):List α:=(As k xs).flatten
theorem OB{α:Type}(k:Nat)(xs:List α):(WJ k xs).length=xs.length*k:=by
 unfold WJ;induction k with
 |zero=>simp
 |succ k ih=>rw[Dz,Gc,Cc,ih,Nat.mul_succ,Qn]
theorem bN.repV{xs:List V}{us:List Uq}(r:bN xs us)(k:Nat):bN (WJ k xs) (WJ k us):=by
 unfold WJ;induction k with
 |zero=>exact .nil
 |succ k ih=>rw[Dz,Dz,Gc,Gc];exact r.append ih
theorem cD.rep{K:Ai}{N:Ur->Prop}{H:Hp}{xs:List V}{ds:List cX}(r:cD K N H xs ds)(k:Nat):cD K N H (WJ k xs) (WJ k ds):=by
 unfold WJ;induction k with
 |zero=>exact .nil
 |succ k ih=>rw[Dz,Dz,Gc,Gc];exact r.append ih
theorem QV:fillsNumberSlot (.type "tuple") "mul"=pure false:=
 PySem.fillsNumberSlot_seq (id:= "tuple.__mul__") (r:=some (.builtin "tuple.__rmul__")) F.slot_tuple_mul.lookup (by decide+kernel) F.slot_tuple_rmul.lookup (by decide+kernel)
theorem KA:seqRepeat? (.type "tuple")=pure (some (.builtin "tuple.__mul__")):=by unfold seqRepeat?;rw[Rc (T:= "tuple") (name:= "__mul__") (id:= "tuple.__mul__") F.slot_tuple_mul.lookup (by decide+kernel),Rc (T:= "tuple") (name:= "__rmul__") (id:= "tuple.__rmul__") F.slot_tuple_rmul.lookup (by decide+kernel)];rfl
theorem FZ(a:Int)(t:Vl)(l:Ur)(u:Array Uq)(n:Nat)(dd:Option Ur)(sl:Array (Option Uq)):Meets (Dq.«int.__rmul__» ⟨[.int a t,.ref l],[]⟩) (λ_ R s=>s.heap.get? l=some ⟨.type "tuple",dd,.seq u n,sl⟩/\R (.ok (.ret Value.notImplemented)) s):=
 .of_wp λprog w A R s h=>by obtain⟨hp,g,d,tk,os⟩:=s;obtain⟨hl,h⟩:=h;wp_walk;exact⟨_,rfl,h⟩
theorem FC(l:Ur)(t:Vl)(u:Array Uq)(n:Nat)(dd:Option Ur)(sl:Array (Option Uq)):Meets (Dq.«tuple.__mul__» ⟨[.ref l,.int 1 t],[]⟩) (λ_ R s=>s.heap.get? l=some ⟨.type "tuple",dd,.seq u n,sl⟩/\R (.ok (.ret (.ref l))) s):=
 .of_wp λprog w A R s h=>by
  obtain⟨hp,g,d,tk,os⟩:=s;obtain⟨hl,h⟩:=h;have f1:=Mb;unfold Dq.«tuple.__mul__»;wp_walk using Cq hl
  exact⟨_,rfl,h⟩
theorem FD(l:Ur)(x:Int)(t:Vl)(u:Array Uq)(n:Nat)(dd:Option Ur)(sl:Array (Option Uq))(h1:1<x)(h2:x<2 ^ 62)(hu:u.isEmpty=false)(hz:u.size*x.toNat<=16777216):Meets (Dq.«tuple.__mul__» ⟨[.ref l,.int x t],[]⟩) (λ_ R s=>s.heap.get? l=some ⟨.type "tuple",dd,.seq u n,sl⟩/\R (.ok (.ret (.ref s.heap.objs.size))) {s with heap:=s.heap.push {cls:=.type "tuple",data:=.seq ((As x.toNat u).foldl (· ++ ·) #[])}}):=
 .of_wp λprog w A R s h=>by
  obtain⟨hp,g,d,tk,os⟩:=s;obtain⟨hl,h⟩:=h;have f1:=Mb;unfold Dq.«tuple.__mul__»;have e1:(decide (x< -2 ^ 63) || decide (x≥2 ^ 63))=false:=by simp;lia
  have e2:(x==1)=false:=by simp;lia
  have e3:decide (x<=0)=false:=by simp;lia
  have e4:(u.size:Int)*x=((u.size*x.toNat:Nat):Int):=by rw[Int.natCast_mul,Int.toNat_of_nonneg (by lia)]
  have e5:¬((u.size:Int)*x>(2 ^ 63 - 1)/8):=by rw[e4];lia
  have e6:Kk ((u.size:Int)*x)=false:=by rw[e4];unfold Kk;simp only[Bt,decide_eq_false_iff_not];lia
  wp_walk using Cq hl
  rw[e1];wp_walk using Cq hl
  simp only[hu,e2,e3,Tk];wp_walk;rw[e6,if_neg e5];have e7:¬(List.foldl (λx1 x2=>x1++x2) #[] (As x.toNat u)).size>sizeLine:=by have:=OB x.toNat u.toList;unfold WJ at this;rw[listMul_foldl,An];show¬([]++(As x.toNat u.toList).flatten).length>sizeLine;rw[Fg,this,Ge,Bt];lia
  wp_walk;exact⟨_,rfl,h⟩
section
variable{X:Cx}{K:Ai}
def Xu(K:Ai):R2:=λx y H Q=>∃l xs k,x=.ref l/\y=.int k/\YA K H l xs/\(0<=k/\k<2 ^ 62)/\xs.length*k.toNat<=16777216/\∀p,H p=none->Q (.ref p) (upd H p (.lst (WJ k.toNat xs)))
theorem zEM:W5 X (Fm .Mult) (Xu X.K):=by
 intro aa s σ H x y v u Q I rx ry h;obtain⟨l,xs,x,rfl,rfl,hq,⟨x0,x1⟩,hz,q⟩:=h;cases rx;obtain⟨t,rfl⟩:=ry;obtain⟨its,r,⟨⟨cls,dd,data,sl⟩,n,ho,hc,hd,bn⟩,_⟩:=I.list hq;simp only at hc hd bn;subst hc hd bn;have hl:=r.length;have hsz:its.toArray.size*x.toNat<=16777216:=by rw[An,<-hl];exact hz
 refine Kt (T:= "list") (U:= "int") (by decide) ⟨_,ho,rfl⟩ (λs'=>Nb s' x t) noFill_list_mul Sk Ke repeat_list F.slot_int_index.lookup
  (Gb Ke (Nb s x t) Rf (Qe _ _) (lm_int_rmul_list_any x t l its.toArray n none sl) ⟨ho,rfl,⟨_,ho,rfl⟩,?_⟩)
 refine Gb F.slot_list_mul ⟨_,ho,rfl⟩ F.entry_list_mul (F.args_list_mul_2 _ _) (lm_list_mul_any l its.toArray n none sl x t (by simp[Builtin.List.listFitsIndex];lia) (by lia) (by simp[Ga,sizeLine];lia)) ⟨ho,?_⟩;rw[listMul_foldl_if];refine⟨.ref s.heap.objs.size,_,I.laid (t':=s.toks) (o:=.lst (WJ x.toNat xs)) (λb ob e=>Ac _ e) (Am _) ?_,rfl,q _ (I.hok.fresh (Am _))⟩;exact⟨by rw[OB,Bt];exact hz,WJ x.toNat its,0,r.repV _,Ao _ rfl⟩
def Wt(K:Ai):R2:=λx y H Q=>∃l xs k,x=.ref l/\y=.int k/\WM K H l xs/\xs≠[]/\(1<=k/\k<2 ^ 62)/\xs.length*k.toNat<=16777216/\(k=1->Q (.ref l) H)/\∀p,H p=none->Q (.ref p) (upd H p (.tup (WJ k.toNat xs)))
theorem lQ:W5 X (Fm .Mult) (Wt X.K):=by
 intro aa s σ H x y v u Q I rx ry h;obtain⟨l,xs,x,rfl,rfl,hq,hne,⟨x0,x1⟩,hz,q1,q⟩:=h;cases rx;obtain⟨t,rfl⟩:=ry;obtain⟨its,r,⟨⟨cls,dd,data,sl⟩,ho,hc,n,hd⟩,_⟩:=I.tuple hq;simp only at hc hd;subst hc hd;have hl:=r.length;have hsz:its.toArray.size*x.toNat<=16777216:=by rw[An,<-hl];exact hz
 have hu:its.toArray.isEmpty=false:=by
  cases its with
  |nil=>exact absurd (r.nil_iff.mp rfl) hne
  |cons a b=>rfl
 refine Kt (T:= "tuple") (U:= "int") (by decide) ⟨_,ho,rfl⟩ (λs'=>Nb s' x t) QV Sk Ke KA F.slot_int_index.lookup
  (Gb Ke (Nb s x t) Rf (Qe _ _) (FZ x t l its.toArray n dd sl) ⟨ho,rfl,⟨_,ho,rfl⟩,?_⟩)
 by_cases hk:x=1
 ·subst hk
  exact Gb Rg ⟨_,ho,rfl⟩ Qf (Pk _ _) (FC l t its.toArray n dd sl) ⟨ho,⟨.ref l,H,I,rfl,q1 rfl⟩⟩
 ·refine Gb Rg ⟨_,ho,rfl⟩ Qf (Pk _ _) (FD l x t its.toArray n dd sl (by lia) x1 hu hsz) ⟨ho,?_⟩
  rw[listMul_foldl];refine⟨.ref s.heap.objs.size,_,I.laid (t':=s.toks) (o:=.tup (WJ x.toNat xs)) (λb ob e=>Ac _ e) (Am _) ?_,rfl,q _ (I.hok.fresh (Am _))⟩;exact⟨by rw[OB,Bt];exact hz,WJ x.toNat its,r.repV _,Ju _ _⟩
def Xo(K:Ai):R2:=λx y H Q=>Xu K x y H Q∨Wt K x y H Q
theorem kRep(h:X.K=K):W5 X (Fm .Mult) (Xo K):=by subst h;exact zEM.or lQ
noncomputable def RP:cX->cX->Option cX
 |.lst ds,.int k=>if(0<=k/\k<2 ^ 62)/\ds.length*k.toNat<=16777216 then some (.lst (WJ k.toNat ds)) else none
 |.tup (d::ds),.int k=>if(1<=k/\k<2 ^ 62)/\(ds.length+1)*k.toNat<=16777216 then some (.tup (WJ k.toNat (d::ds))) else none
 |_,_=>none
theorem Vt:OpC K (Xo K) RP:=by
 intro H N M M' x y d e c Q hx hy h k;cases d with
 |lst ds=>
  cases e with
  |int i=>
   simp only[RP] at h;split at h
   ·rename_i hz
    cases h;obtain⟨a,xs,rfl,q1,r1⟩:=hx.lstE;cases hy;exact .inl ⟨a,xs,i,rfl,rfl,q1,hz.1,by rw[r1.length];exact hz.2,λp hp=>k _ _ (cQ hp) λM hM=>.lst cF (λz=>by obtain⟨o,q⟩:=hM _ z;rw[hp] at q;cases q) ((r1.rep _).same (cQ hp))⟩
   ·cases h
  |_=>cases h
 |tup ds=>
  cases ds with
  |nil=>cases h
  |cons d ds=>
   cases e with
   |int i=>
    simp only[RP] at h;split at h
    ·rename_i hz
     cases h;obtain⟨a,xs,rfl,q1,r1⟩:=hx.tupE;cases hy;refine .inr ⟨a,xs,i,rfl,rfl,q1,λz=>?_,hz.1,by rw[r1.length];exact hz.2,λz=>?_,λp hp=>k _ _ (cQ hp) λM hM=>.tup (WM.of cF) ((r1.rep _).same (cQ hp))⟩
     ·subst z
      cases r1
     ·subst z
      refine k _ _ (aZ.refl _) λM hM=>?_;rw[show WJ (1:Int).toNat (d::ds)=d::ds by simp[WJ]];exact .tup q1 r1
    ·cases h
   |_=>cases h
 |_=>cases h
end
noncomputable def BO:Ux->Option cX
 |.Constant (.int i) _ _=>some (.int i)
 |.Constant (.bool i) _ _=>some (.bl i)
 |.Constant (.str i) _ _=>some (.str i)
 |.Constant .none _ _=>some .non
 |.UnaryOp .USub (.Constant (.int i) _ _) _=>some (.int (-i))
 |_=>none
noncomputable def MW(f:Ux->Option cX):List Ux->Option (List cX)
 |[]=>some []
 |e::es=>(f e).bind λd=>(MW f es).map λds=>d::ds
noncomputable def G7:Nat->Ux->Option cX
 |0,e=>BO e
 |k+1,e=>match e with
  |.Tuple es _ _=>(MW (G7 k) es).bind λds=>if ds.length<=16777216 then some (.tup ds) else none
  |.List es _=>(MW (G7 k) es).bind λds=>if ds.length<=16777216 then some (.lst ds) else none
  |e=>BO e
section
variable{X:Cx}{K:Ai}{ml:List Nat}
theorem DG{e:Ux}{d:cX}(h:BO e=some d):PE X e (TV K ml true true true (fC d)):=by
 unfold BO at h;split at h
 ·cases h;exact cV
 ·cases h;exact YJ
 ·cases h;exact cI
 ·cases h;exact UV
 ·cases h;exact V0 cV
 ·cases h
theorem LP{e:Ux}{es:List Ux}{d:cX}(h:BO e=some d):Us (e::es) X.env=(false,eval e X.env)::Us es X.env:=by
 unfold BO at h;split at h<;>first
  |rfl
  |cases h
theorem JX{f:Ux->Option cX}(hf:∀e d,f e=some d->PE X e (TV K ml true true true (fC d))/\∀es,Us (e::es) X.env=(false,eval e X.env)::Us es X.env):∀{es:List Ux} {ds:List cX},MW f es=some ds->PA X es (TAV K ml true true λδ=>some (ds,δ))
 |[],_,h=>by
  cases h;exact cM
 | e :: es,ds,h => by
  have h:((f e).bind λd=>(MW f es).map λds=>d::ds)=some ds:=h;cases h1:f e with
  |none=>rw[h1] at h;cases h
  |some d=>
   rw[h1] at h;have h:(MW f es).map (λds=>d::ds)=some ds:=h;cases h2:MW f es with
   |none=>rw[h2] at h;cases h
   |some ds'=>
    rw[h2] at h;cases h;obtain⟨a,b⟩:=hf e d h1;exact cW a (JX hf h2) (b es)
theorem JW:∀{k:Nat} {e:Ux} {d:cX},G7 k e=some d->PE X e (TV K ml true true true (fC d))/\∀es,Us (e::es) X.env=(false,eval e X.env)::Us es X.env
 |0,e,d,h=>⟨DG h,λes=>LP h⟩
 | k + 1,e,d,h => by
  have hl:∀(es:List Ux) (g:List cX->cX) (fg:OW->VF),(∀fs δ,fg fs δ=(fs δ).bind λp=>if p.1.length<=16777216 then some (g p.1,p.2) else none)->((MW (G7 k) es).bind λds=>if ds.length<=16777216 then some (g ds) else none)=some d->∃ds,PA X es (TAV K ml true true λδ=>some (ds,δ))/\fg (λδ=>some (ds,δ))=fC d:=by
   intro es g fg hg h;cases h1:MW (G7 k) es with
   |none=>rw[h1] at h;cases h
   |some ds=>
    rw[h1] at h;have h:(if ds.length<=16777216 then some (g ds) else none)=some d:=h;split at h
    ·rename_i hz
     cases h;refine⟨ds,JX (λe d=>JW) h1,funext λδ=>?_⟩;rw[hg];show(if ds.length<=16777216 then some (g ds,δ) else none)=_;rw[if_pos hz];rfl
    ·cases h
  unfold G7 at h;split at h
  ·rename_i es x1 pos
   obtain⟨ds,a,b⟩:=hl es .tup Z1 (λ_ _=>rfl) h;exact⟨b▸bL a,λ_=>rfl⟩
  ·rename_i es pos
   obtain⟨ds,a,b⟩:=hl es .lst aA (λ_ _=>rfl) h;exact⟨b▸lN a,λ_=>rfl⟩
  ·exact⟨DG h,λes=>LP h⟩
theorem OQ{k:Nat}{e:Ux}{d:cX}(h:G7 k e=some d):PE X e (TV K ml true true true (fC d)):=(JW h).1
theorem OR{k:Nat}{es:List Ux}{pos:Pos}{ds:List cX}(h:MW (G7 k) es=some ds)(hz:ds.length<=16777216):PE X (.List es pos) (TN K ml true (fC (.lst ds))):=by
 have a:=bH (pos:=pos) (JX (X:=X) (K:=K) (ml:=ml) (λe d=>JW (k:=k)) h);have b:aA (λδ=>some (ds,δ))=fC (.lst ds):=funext λδ=>by show(if ds.length<=16777216 then some (cX.lst ds,δ) else none)=_;rw[if_pos hz];rfl
 exact b▸a
end
end L2
namespace L2
open PySem
section
variable{α β:Type}{d x y z c:cX}{δ δ1 δ':Ev}{fa fb fc:VF}{o o':cX->cX->Option cX}{i j k n:Nat}{s:Sl}{b:Bool}{ds:List cX}
def q0(r:Option α)(δ:Ev):Option (α×Ev):=r.map λc=>(c,δ)
@[simp] theorem q0_s{a:α}:q0 (some a) δ=some (a,δ):=rfl
@[simp] theorem fC_e:fC d δ=some (d,δ):=rfl
noncomputable def qV:Option Sl->Ev->Option (cX×Ev)
 |some (.va d),δ=>some (d,δ)
 |_,_=>none
noncomputable def qO:Option Sl->Ev->Option (cX×Ev)
 |some (.va d),δ=>some (d,δ)
 |some (.ow d),δ=>some (d,δ)
 |_,_=>none
@[simp] theorem fV_e:fV i δ=qV δ[i]? δ:=by unfold fV qV;split<;>simp_all
@[simp] theorem fO_e:fO i δ=qO δ[i]? δ:=by unfold fO qO;split<;>simp_all
@[simp] theorem qV_s:qV (some (.va d)) δ=some (d,δ):=rfl
@[simp] theorem qO_v:qO (some (.va d)) δ=some (d,δ):=rfl
@[simp] theorem qO_o:qO (some (.ow d)) δ=some (d,δ):=rfl
def q1(o:cX->Option cX)(r:Option (cX×Ev)):Option (cX×Ev):=r.bind λp=>q0 (o p.1) p.2
@[simp] theorem f1_e{o:cX->Option cX}:f1 o fa δ=q1 o (fa δ):=rfl
@[simp] theorem q1_s{o:cX->Option cX}:q1 o (some (x,δ))=q0 (o x) δ:=rfl
def q2(o:cX->cX->Option cX)(r:Option (cX×Ev))(fb:VF):Option (cX×Ev):=r.bind λp=>(fb p.2).bind λq=>q0 (o p.1 q.1) q.2
def q2b(o:cX->cX->Option cX)(x:cX)(r:Option (cX×Ev)):Option (cX×Ev):=r.bind λq=>q0 (o x q.1) q.2
@[simp] theorem f2_e:f2 o fa fb δ=q2 o (fa δ) fb:=rfl
@[simp] theorem q2_s:q2 o (some (x,δ)) fb=q2b o x (fb δ):=rfl
@[simp] theorem vD:q2b o x (some (y,δ))=q0 (o x y) δ:=rfl
noncomputable def q3(o o':cX->cX->Option cX)(r:Option (cX×Ev))(fb fc:VF):Option (cX×Ev):=r.bind λp=>(fb p.2).bind λq=>(o p.1 q.1).bind λz=>match z with
 |.bl true=>(fc q.2).bind λs=>(o' q.1 s.1).map λu=>(u,s.2)
 |.bl false=>some (.bl false,q.2)
 |_=>none
def q3b(o o':cX->cX->Option cX)(x:cX)(r:Option (cX×Ev))(fc:VF):Option (cX×Ev):=q3 o o' (some (x,[])) (λ_=>r) fc
noncomputable def q3c(o':cX->cX->Option cX)(y:cX)(δ:Ev)(fc:VF):Option cX->Option (cX×Ev)
 |some (.bl true)=>q2b o' y (fc δ)
 |some (.bl false)=>some (.bl false,δ)
 |_=>none
@[simp] theorem f3_e:f3 o o' fa fb fc δ=q3 o o' (fa δ) fb fc:=rfl
@[simp] theorem q3_s:q3 o o' (some (x,δ)) fb fc=q3b o o' x (fb δ) fc:=rfl
@[simp] theorem vm:q3b o o' x (some (y,δ)) fc=q3c o' y δ fc (o x y):=by
 simp only[q3b,q3,Af];cases o x y with
 |none=>rfl
 |some z=>cases z with
  |bl b=>cases b<;>rfl
  |_=>rfl
@[simp] theorem sN:q3c o' y δ fc (some (.bl true))=q2b o' y (fc δ):=rfl
@[simp] theorem sI:q3c o' y δ fc (some (.bl false))=some (.bl false,δ):=rfl
noncomputable def qc(r:Option (cX×Ev))(fs:OW):Option (List cX×Ev):=r.bind λp=>(fs p.2).map λq=>(p.1::q.1,q.2)
noncomputable def qcb(x:cX)(r:Option (List cX×Ev)):Option (List cX×Ev):=r.map λq=>(x::q.1,q.2)
@[simp] theorem vg:b9 δ=some ([],δ):=rfl
@[simp] theorem sB{fs:OW}:cS fa fs δ=qc (fa δ) fs:=rfl
@[simp] theorem qc_s{fs:OW}:qc (some (x,δ)) fs=qcb x (fs δ):=rfl
@[simp] theorem vk:qcb x (some (ds,δ))=some (x::ds,δ):=rfl
noncomputable def qT(g:List cX->cX)(r:Option (List cX×Ev)):Option (cX×Ev):=r.bind λp=>if p.1.length<=16777216 then some (g p.1,p.2) else none
@[simp] theorem tD{fs:OW}:Z1 fs δ=qT .tup (fs δ):=rfl
@[simp] theorem uq{fs:OW}:aA fs δ=qT .lst (fs δ):=rfl
@[simp] theorem qT_s{g:List cX->cX}:qT g (some (ds,δ))=if ds.length<=16777216 then some (g ds,δ) else none:=rfl
noncomputable def qB:Option (cX×Ev)->Option (Bool×Ev)
 |some (.bl k,δ)=>some (k,δ)
 |_=>none
@[simp] theorem fB_e:fB fa δ=qB (fa δ):=by
 unfold fB qB;cases fa δ with
 |none=>rfl
 |some p=>
  obtain⟨d,e⟩:=p;cases d<;>rfl
@[simp] theorem qB_s:qB (some (.bl b,δ))=some (b,δ):=rfl
variable{tb tb':VB}{g g':VS}
noncomputable def qAnd(r:Option (Bool×Ev))(y:VB):Option (Bool×Ev):=r.bind λp=>if p.1=true then y p.2 else some (false,p.2)
noncomputable def qOr(r:Option (Bool×Ev))(y:VB):Option (Bool×Ev):=r.bind λp=>if p.1=true then some (true,p.2) else y p.2
noncomputable def qNot(r:Option (Bool×Ev)):Option (Bool×Ev):=r.map λp=>(!p.1,p.2)
@[simp] theorem w5:PQ tb tb' δ=qAnd (tb δ) tb':=rfl
@[simp] theorem uY:EX tb tb' δ=qOr (tb δ) tb':=rfl
@[simp] theorem wl:VC tb δ=qNot (tb δ):=rfl
@[simp] theorem oQ:U1 δ=some (true,δ):=rfl
@[simp] theorem we:qAnd (some (true,δ)) tb=tb δ:=rfl
@[simp] theorem wo:qAnd (some (false,δ)) tb=some (false,δ):=rfl
@[simp] theorem sM:qOr (some (true,δ)) tb=some (true,δ):=rfl
@[simp] theorem w4:qOr (some (false,δ)) tb=tb δ:=rfl
@[simp] theorem wu:qNot (some (b,δ))=some (!b,δ):=rfl
noncomputable def qA(r:Option (cX×Ev))(y:VF):Option (cX×Ev):=r.bind λp=>match p.1 with
 |.bl true=>y p.2
 |.bl false=>some (.bl false,p.2)
 |_=>none
noncomputable def qR(r:Option (cX×Ev))(y:VF):Option (cX×Ev):=r.bind λp=>match p.1 with
 |.bl false=>y p.2
 |.bl true=>some (.bl true,p.2)
 |_=>none
noncomputable def qN(r:Option (cX×Ev)):Option (cX×Ev):=r.bind λp=>match p.1 with
 |.bl k=>some (.bl (!k),p.2)
 |_=>none
@[simp] theorem vV:U2 fa fb δ=qA (fa δ) fb:=rfl
@[simp] theorem tW:fOr fa fb δ=qR (fa δ) fb:=rfl
@[simp] theorem tK:fNot fa δ=qN (fa δ):=rfl
@[simp] theorem qA_t:qA (some (.bl true,δ)) fb=fb δ:=rfl
@[simp] theorem qA_f:qA (some (.bl false,δ)) fb=some (.bl false,δ):=rfl
@[simp] theorem qR_t:qR (some (.bl true,δ)) fb=some (.bl true,δ):=rfl
@[simp] theorem qR_f:qR (some (.bl false,δ)) fb=fb δ:=rfl
@[simp] theorem qN_s:qN (some (.bl b,δ))=some (.bl (!b),δ):=rfl
def qI(r:Option (Bool×Ev))(x y:VF):Option (cX×Ev):=r.bind λp=>if p.1=true then x p.2 else y p.2
@[simp] theorem uT:fIf tb fa fb δ=qI (tb δ) fa fb:=rfl
@[simp] theorem qI_t:qI (some (true,δ)) fa fb=fa δ:=rfl
@[simp] theorem qI_f:qI (some (false,δ)) fa fb=fb δ:=rfl
def qS(r:Option Ou)(g:VS):Option Ou:=r.bind λo=>match o with
 |.nx δ'=>g δ'
 |o=>some o
@[simp] theorem uM:Z3 δ=some (.nx δ):=rfl
@[simp] theorem US:cE g g' δ=qS (g δ) g':=rfl
@[simp] theorem HL:qS (some (.nx δ)) g=g δ:=rfl
@[simp] theorem qS_r:qS (some (.rt d δ)) g=some (.rt d δ):=rfl
@[simp] theorem qS_b:qS (some (.bk δ)) g=some (.bk δ):=rfl
@[simp] theorem qS_c:qS (some (.ct δ)) g=some (.ct δ):=rfl
def qJ(r:Option (Bool×Ev))(x y:VS):Option Ou:=r.bind λp=>if p.1=true then x p.2 else y p.2
@[simp] theorem ur:WR tb g g' δ=qJ (tb δ) g g':=rfl
@[simp] theorem qJ_t:qJ (some (true,δ)) g g'=g δ:=rfl
@[simp] theorem qJ_f:qJ (some (false,δ)) g g'=g' δ:=rfl
noncomputable def qRet(r:Option (cX×Ev)):Option Ou:=r.map λp=>.rt p.1 p.2
def Yu(r:Option (cX×Ev)):Option Ou:=r.map λp=>.nx p.2
@[simp] theorem vW:bO fa δ=qRet (fa δ):=rfl
@[simp] theorem sV:qRet (some (d,δ))=some (.rt d δ):=rfl
@[simp] theorem v7:HU fa δ=Yu (fa δ):=rfl
@[simp] theorem uv:Yu (some (d,δ))=some (.nx δ):=rfl
noncomputable def qx(f:cX->Sl)(r:Option (cX×Ev)):Option (Sl×Ev):=r.map λp=>(f p.1,p.2)
@[simp] theorem xV_e:xV fa δ=qx .va (fa δ):=rfl
@[simp] theorem xO_e:xO fa δ=qx .ow (fa δ):=rfl
@[simp] theorem qx_s{f:cX->Sl}:qx f (some (d,δ))=some (f d,δ):=rfl
noncomputable def qSet(i:Nat)(r:Option (Sl×Ev)):Option Ou:=r.bind λp=>if i<p.2.length then some (.nx (p.2.set i p.1)) else none
@[simp] theorem vc{x:VX}:aG i x δ=qSet i (x δ):=rfl
@[simp] theorem su:qSet i (some (s,δ))=if i<δ.length then some (.nx (δ.set i s)) else none:=rfl
noncomputable def qP2(i j:Nat)(r:Option (Sl×Ev))(y:VX):Option Ou:=r.bind λp=>(y p.2).bind λq=>if i<q.2.length/\j<q.2.length then some (.nx ((q.2.set j q.1).set i p.1)) else none
noncomputable def qP2b(i j:Nat)(s:Sl)(r:Option (Sl×Ev)):Option Ou:=r.bind λq=>if i<q.2.length/\j<q.2.length then some (.nx ((q.2.set j q.1).set i s)) else none
@[simp] theorem vU{x y:VX}:HW i j x y δ=qP2 i j (x δ) y:=rfl
@[simp] theorem wg{y:VX}:qP2 i j (some (s,δ)) y=qP2b i j s (y δ):=rfl
@[simp] theorem tE{s':Sl}:qP2b i j s (some (s',δ))=if i<δ.length/\j<δ.length then some (.nx ((δ.set j s').set i s)) else none:=rfl
noncomputable def qP3(i j k:Nat)(r:Option (Sl×Ev))(y z:VX):Option Ou:=r.bind λp=>(y p.2).bind λq=>(z q.2).bind λr=>if i<r.2.length/\j<r.2.length/\k<r.2.length then some (.nx (((r.2.set k r.1).set j q.1).set i p.1)) else none
noncomputable def qP3b(i j k:Nat)(s:Sl)(r:Option (Sl×Ev))(z:VX):Option Ou:=r.bind λq=>(z q.2).bind λr=>if i<r.2.length/\j<r.2.length/\k<r.2.length then some (.nx (((r.2.set k r.1).set j q.1).set i s)) else none
noncomputable def qP3c(i j k:Nat)(s s':Sl)(r:Option (Sl×Ev)):Option Ou:=r.bind λr=>if i<r.2.length/\j<r.2.length/\k<r.2.length then some (.nx (((r.2.set k r.1).set j s').set i s)) else none
@[simp] theorem sw{x y z:VX}:OE i j k x y z δ=qP3 i j k (x δ) y z:=rfl
@[simp] theorem vK{y z:VX}:qP3 i j k (some (s,δ)) y z=qP3b i j k s (y δ) z:=rfl
@[simp] theorem sJ{s':Sl}{z:VX}:qP3b i j k s (some (s',δ)) z=qP3c i j k s s' (z δ):=rfl
@[simp] theorem tw{s' s'':Sl}:qP3c i j k s s' (some (s'',δ))=if i<δ.length/\j<δ.length/\k<δ.length then some (.nx (((δ.set k s'').set j s').set i s)) else none:=rfl
@[simp] theorem BH:gN i d δ=some (δ.set i (.va d)):=rfl
def qg(r:Option Ev)(gs:VGs)(ds:List cX):Option Ev:=r.bind λδ1=>gs ds δ1
@[simp] theorem uL:WY [] δ=some δ:=rfl
@[simp] theorem tG{gg:VG}{gs:VGs}:aY gg gs (d::ds) δ=qg (gg d δ) gs ds:=rfl
@[simp] theorem qg_s{gs:VGs}:qg (some δ) gs ds=gs ds δ:=rfl
@[simp] theorem sL{gs:VGs}:GY n gs (.tup ds) δ=if ds.length=n then gs ds δ else none:=rfl
@[simp] theorem vH{gs:VGs}:GY n gs (.lst ds) δ=if ds.length=n then gs ds δ else none:=rfl
noncomputable def qAsg(r:Option (cX×Ev))(gg:VG):Option Ou:=r.bind λp=>(gg p.1 p.2).map Ou.nx
@[simp] theorem wm{gg:VG}:CC fa gg δ=qAsg (fa δ) gg:=rfl
@[simp] theorem tz{gg:VG}:qAsg (some (d,δ)) gg=(gg d δ).map Ou.nx:=rfl
noncomputable def qM(i:Nat)(m:List cX->List cX->Option (List cX))(r:Option (List cX))(δ:Ev)(fs:OW):Option Ou:=r.bind λ_=>(fs δ).bind λp=>(RQ p.2 i).bind λds=>(m ds p.1).map λds'=>.nx (p.2.set i (.ow (.lst ds')))
noncomputable def qMb(i:Nat)(m:List cX->List cX->Option (List cX))(r:Option (List cX×Ev)):Option Ou:=r.bind λp=>(RQ p.2 i).bind λds=>(m ds p.1).map λds'=>.nx (p.2.set i (.ow (.lst ds')))
noncomputable def qMc(i:Nat)(m:List cX->List cX->Option (List cX))(es:List cX)(δ:Ev)(r:Option (List cX)):Option Ou:=r.bind λds=>(m ds es).map λds'=>.nx (δ.set i (.ow (.lst ds')))
noncomputable def qMd(i:Nat)(δ:Ev)(r:Option (List cX)):Option Ou:=r.map λds'=>.nx (δ.set i (.ow (.lst ds')))
@[simp] theorem tX{m:List cX->List cX->Option (List cX)}{fs:OW}:WA i m fs δ=qM i m (RQ δ i) δ fs:=rfl
@[simp] theorem qM_s{m:List cX->List cX->Option (List cX)}{fs:OW}:qM i m (some ds) δ fs=qMb i m (fs δ):=rfl
@[simp] theorem uG{m:List cX->List cX->Option (List cX)}{es:List cX}:qMb i m (some (es,δ))=qMc i m es δ (RQ δ i):=rfl
@[simp] theorem sy{m:List cX->List cX->Option (List cX)}{es:List cX}:qMc i m es δ (some ds)=qMd i δ (m ds es):=rfl
@[simp] theorem sg:qMd i δ (some ds)=some (.nx (δ.set i (.ow (.lst ds)))):=rfl
noncomputable def qOl:Option Sl->Option (List cX)
 |some (.ow (.lst ds))=>some ds
 |_=>none
@[simp] theorem uQ:RQ δ i=qOl δ[i]? :=by unfold RQ qOl;split<;>simp_all
@[simp] theorem u9:qOl (some (.ow (.lst ds)))=some ds:=rfl
@[simp] theorem rX:TL ds [d]=if ds.length<16777216 then some (ds++[d]) else none:=rfl
noncomputable def qOd:Option Sl->Option (List aK×List cX)
 |some (.ow (.dct ks ds))=>some (ks,ds)
 |_=>none
@[simp] theorem sH:XN δ i=qOd δ[i]? :=by unfold XN qOd;split<;>simp_all
@[simp] theorem uP{ks:List aK}:qOd (some (.ow (.dct ks ds)))=some (ks,ds):=rfl
noncomputable def qi(r:Option (cX×Ev)):Option (List cX×Ev):=r.bind λp=>(YG p.1).map λds=>(ds,p.2)
@[simp] theorem vI:U3 fa δ=qi (fa δ):=rfl
@[simp] theorem qi_t:qi (some (.tup ds,δ))=some (ds,δ):=rfl
@[simp] theorem qi_l:qi (some (.lst ds,δ))=some (ds,δ):=rfl
noncomputable def qr1:Option (cX×Ev)->Option (List cX×Ev)
 |some (.int j,δ)=>if -4611686018427387904<=j/\j<4611686018427387904 then some (ZC 0 j.toNat,δ) else none
 |_=>none
@[simp] theorem tV:iR1 fa δ=qr1 (fa δ):=by
 unfold iR1 qr1;cases fa δ with
 |none=>rfl
 |some p=>
  obtain⟨d,e⟩:=p;cases d<;>rfl
@[simp] theorem wj{j:Int}:qr1 (some (.int j,δ))=if -4611686018427387904<=j/\j<4611686018427387904 then some (ZC 0 j.toNat,δ) else none:=rfl
noncomputable def qe(r:Option (cX×Ev)):Option (List cX×Ev):=r.bind λp=>(YG p.1).map λds=>(YC 0 ds,p.2)
@[simp] theorem vB:NQ fa δ=qe (fa δ):=rfl
@[simp] theorem qe_t:qe (some (.tup ds,δ))=some (YC 0 ds,δ):=rfl
@[simp] theorem qe_l:qe (some (.lst ds,δ))=some (YC 0 ds,δ):=rfl
noncomputable def qz(r:Option (cX×Ev))(g:VF):Option (List cX×Ev):=r.bind λp=>(g p.2).bind λq=>(YG p.1).bind λds=>(YG q.1).map λes=>(TQ ds es,q.2)
noncomputable def qzb(x:cX)(r:Option (cX×Ev)):Option (List cX×Ev):=r.bind λq=>(YG x).bind λds=>(YG q.1).map λes=>(TQ ds es,q.2)
@[simp] theorem sx:iZip fa fb δ=qz (fa δ) fb:=rfl
@[simp] theorem qz_s:qz (some (x,δ)) fb=qzb x (fb δ):=rfl
@[simp] theorem vA:qzb x (some (y,δ))=(YG x).bind λds=>(YG y).map λes=>(TQ ds es,δ):=rfl
@[simp] theorem uB:YG (.tup ds)=some ds:=rfl
@[simp] theorem sr:YG (.lst ds)=some ds:=rfl
def qF(r:Option (List cX×Ev))(gg:VG)(g:VS):Option Ou:=r.bind λp=>WQ gg g p.1 p.2
@[simp] theorem jA{fi:VI}{gg:VG}:PX fi gg g δ=qF (fi δ) gg g:=rfl
@[simp] theorem qF_s{gg:VG}:qF (some (ds,δ)) gg g=WQ gg g ds δ:=rfl
noncomputable def qK(ix:List Nat)(nl:Nat)(r:Option (List cX×Ev))(gg:VG)(tb:VB)(fe:VF):Option (cX×Ev):=r.bind λp=>(Z9 ix.length nl gg tb fe p.1 [] (bE ix p.2)).map λq=>(.lst q.1,ZV ix q.2 p.2)
noncomputable def qKb(ix:List Nat)(δ:Ev)(r:Option (List cX×Ev)):Option (cX×Ev):=r.map λq=>(.lst q.1,ZV ix q.2 δ)
@[simp] theorem vR{ix:List Nat}{nl:Nat}{fi:VI}{gg:VG}:ZW ix nl fi gg tb fa δ=qK ix nl (fi δ) gg tb fa:=rfl
@[simp] theorem qK_s{ix:List Nat}{nl:Nat}{gg:VG}:qK ix nl (some (ds,δ)) gg tb fa=qKb ix δ (Z9 ix.length nl gg tb fa ds [] (bE ix δ)):=rfl
@[simp] theorem tL{ix:List Nat}:qKb ix δ (some (ds,δ1))=some (.lst ds,ZV ix δ1 δ):=rfl
variable{as:List AV}{fs:PP}{mF:List Nat}{F:bC}
noncomputable def qa(r:Option (cX×Ev))(fs:PP):Option (List AV×Ev):=r.bind λp=>(fs p.2).map λq=>(.d p.1::q.1,q.2)
noncomputable def qab(x:AV)(r:Option (List AV×Ev)):Option (List AV×Ev):=r.map λq=>(x::q.1,q.2)
@[simp] theorem mH:cA δ=some ([],δ):=rfl
@[simp] theorem GJ:aE fa fs δ=qa (fa δ) fs:=rfl
@[simp] theorem qa_s:qa (some (x,δ)) fs=qab (.d x) (fs δ):=rfl
@[simp] theorem Vr{a:AV}:qab a (some (as,δ))=some (a::as,δ):=rfl
def qao(j:Nat)(r:Option cX)(δ:Ev)(fs:PP):Option (List AV×Ev):=r.bind λ_=>qab (.o j) (fs δ)
@[simp] theorem aO_e:aO j fs δ=qao j (slot δ j) δ fs:=rfl
@[simp] theorem lO:qao j (some d) δ fs=qab (.o j) (fs δ):=rfl
noncomputable def qsl:Option Sl->Option cX
 |some (.va d)=>some d
 |some (.ow d)=>some d
 |_=>none
@[simp] theorem sj:slot δ j=qsl δ[j]? :=by unfold slot qsl;split<;>simp_all
@[simp] theorem sU:qsl (some (.va d))=some d:=rfl
@[simp] theorem sS:qsl (some (.ow d))=some d:=rfl
@[simp] theorem vO:WW δ []=some []:=rfl
@[simp] theorem sQ:WW δ (.d d::as)=(WW δ as).map λds=>d::ds:=rfl
@[simp] theorem sP:WW δ (.o j::as)=(slot δ j).bind λd=>(WW δ as).map λds=>d::ds:=rfl
noncomputable def Xp(n:Nat)(mF:List Nat)(F:bC)(r:Option (List AV×Ev)):Option (cX×Ev):=r.bind λp=>(WW p.2 p.1).bind λds=>if ds.length=n/\VE mF p.1 p.2=true then(F ds).bind λq=>if WF mF p.1 q.1 q.2=true then some (q.1,V9 p.1 mF q.2 p.2) else none else none
noncomputable def qCb(n:Nat)(mF:List Nat)(F:bC)(as:List AV)(δ:Ev)(r:Option (List cX)):Option (cX×Ev):=r.bind λds=>if ds.length=n/\VE mF as δ=true then(F ds).bind λq=>if WF mF as q.1 q.2=true then some (q.1,V9 as mF q.2 δ) else none else none
noncomputable def qCc(mF:List Nat)(as:List AV)(δ:Ev)(r:Option (cX×List cX)):Option (cX×Ev):=r.bind λq=>if WF mF as q.1 q.2=true then some (q.1,V9 as mF q.2 δ) else none
@[simp] theorem O8:cL n mF F fs δ=Xp n mF F (fs δ):=rfl
@[simp] theorem nI:Xp n mF F (some (as,δ))=qCb n mF F as δ (WW δ as):=rfl
@[simp] theorem nR:qCb n mF F as δ (some ds)=if ds.length=n/\VE mF as δ=true then qCc mF as δ (F ds) else none:=rfl
@[simp] theorem Zw{os:List cX}:qCc mF as δ (some (d,os))=if WF mF as d os=true then some (d,V9 as mF os δ) else none:=rfl
@[simp] theorem si:DJ δ as i=(match as[i]? with
 |some (.o j)=>match δ[j]? with
  |some (.ow _)=>true
  |_=>false
 |_=>false):=rfl
@[simp] theorem tq:U4 []=[]:=rfl
@[simp] theorem tj:U4 (.d d::as)=U4 as:=rfl
@[simp] theorem vE:U4 (.o j::as)=j::U4 as:=rfl
@[simp] theorem ti:VE mF as δ=(mF.all (DJ δ as)&&decide (U4 as).Nodup):=rfl
@[simp] theorem uX:WU mF [] i=true:=rfl
@[simp] theorem ui:WU mF (.d d::as) i=WU mF as (i+1):=rfl
@[simp] theorem sC:WU mF (.o j::as) i=(decide (i∈mF)&&WU mF as (i+1)):=rfl
@[simp] theorem uZ{os:List cX}:WF mF as d os=((WU mF as 0 || d.hard)&&(WU mF as 0 || os.all UM)&&decide (mF.length=os.length)):=rfl
@[simp] theorem uc{os:List cX}:V9 as [] os δ=δ:=by cases os<;>rfl
@[simp] theorem wb{os:List cX}{is:List Nat}:V9 as (i::is) (d::os) δ=(match as[i]? with
  |some (.o j)=>V9 as is os (δ.set j (.ow d))
  |_=>V9 as is os δ):=rfl
@[simp] theorem vG:pNo δ=some (none,δ):=rfl
noncomputable def qpS:Option (cX×Ev)->Option (Option Int×Ev)
 |some (.int i,δ)=>some (some i,δ)
 |_=>none
@[simp] theorem v8:BY fa δ=qpS (fa δ):=by
 unfold BY qpS;cases fa δ with
 |none=>rfl
 |some p=>
  obtain⟨d,e⟩:=p;cases d<;>rfl
@[simp] theorem vJ{i:Int}:qpS (some (.int i,δ))=some (some i,δ):=rfl
noncomputable def qSl(r:Option (cX×Ev))(fl fh:VP):Option (cX×Ev):=r.bind λp=>(fl p.2).bind λl=>(fh l.2).bind λu=>(oSl p.1 l.1 u.1).map λc=>(c,u.2)
noncomputable def qSlb(x:cX)(r:Option (Option Int×Ev))(fh:VP):Option (cX×Ev):=r.bind λl=>(fh l.2).bind λu=>(oSl x l.1 u.1).map λc=>(c,u.2)
def qSlc(x:cX)(l:Option Int)(r:Option (Option Int×Ev)):Option (cX×Ev):=r.bind λu=>q0 (oSl x l u.1) u.2
@[simp] theorem sE{fl fh:VP}:BF fa fl fh δ=qSl (fa δ) fl fh:=rfl
@[simp] theorem vy{fl fh:VP}:qSl (some (x,δ)) fl fh=qSlb x (fl δ) fh:=rfl
@[simp] theorem v5{l:Option Int}{fh:VP}:qSlb x (some (l,δ)) fh=qSlc x l (fh δ):=rfl
@[simp] theorem uw{l u:Option Int}:qSlc x l (some (u,δ))=q0 (oSl x l u) δ:=rfl
@[simp] theorem vj{l u:Option Int}:oSl (.tup ds) l u=some (.tup (V5 ds l u)):=rfl
@[simp] theorem wc{l u:Option Int}:oSl (.lst ds) l u=some (.lst (V5 ds l u)):=rfl
noncomputable def qSt(i j:Nat):Option (cX×Ev)->Option Ou
 |some (.tup (d::ds),δ)=>some (.nx ((δ.set i (.va d)).set j (.va (.lst ds))))
 |_=>none
@[simp] theorem vb:L9 i j fa δ=qSt i j (fa δ):=by
 unfold L9 qSt;cases fa δ with
 |none=>rfl
 |some p=>
  obtain⟨d,e⟩:=p;cases d with
  |tup ds=>cases ds<;>rfl
  |_=>rfl
@[simp] theorem vS:qSt i j (some (.tup (d::ds),δ))=some (.nx ((δ.set i (.va d)).set j (.va (.lst ds)))):=rfl
noncomputable def qDg(i:Nat)(r:Option (List aK×List cX))(δ:Ev)(fk fx:VF):Option (cX×Ev):=r.bind λ_=>(fk δ).bind λp=>(fx p.2).bind λq=>(WH p.1).bind λk=>(XN q.2 i).map λz=>((a6 z.1 z.2 k).getD q.1,q.2)
noncomputable def qDgb(i:Nat)(r:Option (cX×Ev))(fx:VF):Option (cX×Ev):=r.bind λp=>(fx p.2).bind λq=>(WH p.1).bind λk=>(XN q.2 i).map λz=>((a6 z.1 z.2 k).getD q.1,q.2)
noncomputable def qDgc(i:Nat)(x:cX)(r:Option (cX×Ev)):Option (cX×Ev):=r.bind λq=>(WH x).bind λk=>(XN q.2 i).map λz=>((a6 z.1 z.2 k).getD q.1,q.2)
@[simp] theorem uo:JO i fa fb δ=qDg i (XN δ i) δ fa fb:=rfl
@[simp] theorem uD{z:List aK×List cX}:qDg i (some z) δ fa fb=qDgb i (fa δ) fb:=rfl
@[simp] theorem ut:qDgb i (some (x,δ)) fb=qDgc i x (fb δ):=rfl
@[simp] theorem vf:qDgc i x (some (y,δ))=(WH x).bind λk=>(XN δ i).map λz=>((a6 z.1 z.2 k).getD y,δ):=rfl
noncomputable def qDp(i:Nat)(r:Option (cX×Ev))(fk:VF):Option Ou:=r.bind λp=>(XN p.2 i).bind λ_=>(fk p.2).bind λq=>(WH q.1).bind λk=>(XN q.2 i).bind λz=>if z.1.length<16777216/\z.1.Nodup then some (.nx (q.2.set i (.ow (let r:=YF z.1 z.2 k p.1;.dct r.1 r.2)))) else none
noncomputable def qDpb(i:Nat)(x:cX)(r:Option (List aK×List cX))(δ:Ev)(fk:VF):Option Ou:=r.bind λ_=>(fk δ).bind λq=>(WH q.1).bind λk=>(XN q.2 i).bind λz=>if z.1.length<16777216/\z.1.Nodup then some (.nx (q.2.set i (.ow (let r:=YF z.1 z.2 k x;.dct r.1 r.2)))) else none
noncomputable def qDpc(i:Nat)(x:cX)(r:Option (cX×Ev)):Option Ou:=r.bind λq=>(WH q.1).bind λk=>(XN q.2 i).bind λz=>if z.1.length<16777216/\z.1.Nodup then some (.nx (q.2.set i (.ow (.dct (YF z.1 z.2 k x).1 (YF z.1 z.2 k x).2)))) else none
@[simp] theorem tT{fk fv:VF}:HS i fk fv δ=qDp i (fv δ) fk:=rfl
@[simp] theorem uj{fk:VF}:qDp i (some (x,δ)) fk=qDpb i x (XN δ i) δ fk:=rfl
@[simp] theorem ug{z:List aK×List cX}{fk:VF}:qDpb i x (some z) δ fk=qDpc i x (fk δ):=rfl
@[simp] theorem sT:qDpc i x (some (y,δ))=(WH y).bind λk=>(XN δ i).bind λz=>if z.1.length<16777216/\z.1.Nodup then some (.nx (δ.set i (.ow (.dct (YF z.1 z.2 k x).1 (YF z.1 z.2 k x).2)))) else none:=rfl
@[simp] theorem vd{i:Int}:WH (.int i)=some (.inl i):=rfl
@[simp] theorem tO{s:Uw}:WH (.str s)=some (.inr s):=rfl
noncomputable def qRun(ml:List Nat):Option Ou->Option (cX×List cX)
 |some (.rt d δ)=>(UR ml δ).map λos=>(d,os)
 |some (.nx δ)=>(UR ml δ).map λos=>(.non,os)
 |_=>none
theorem bG{ml:List Nat}:Z5 n ml g ds=qRun ml (g (bD ml n ds)):=by
 unfold Z5 qRun;cases g (bD ml n ds) with
 |none=>rfl
 |some o=>cases o<;>rfl
@[simp] theorem tH{ml:List Nat}:qRun ml (some (.rt d δ))=(UR ml δ).map λos=>(d,os):=rfl
@[simp] theorem tF{ml:List Nat}:qRun ml (some (.nx δ))=(UR ml δ).map λos=>(.non,os):=rfl
def qow:Option Sl->Option cX
 |some (.ow d)=>some d
 |_=>none
@[simp] theorem sF:UR [] δ=some []:=rfl
@[simp] theorem uO{ml:List Nat}:UR (i::ml) δ=(qow δ[i]?).bind λd=>(UR ml δ).map λos=>d::os:=by
 unfold UR;rw[Ss];cases h:(δ[i]? :Option Sl) with
 |none=>rfl
 | some s => cases s with
  |no=>rfl
  |va d=>rfl
  |ow d=>
   show(Option.bind _ λos=>some (d::os))=Up (λos=>d::os) _;cases (List.mapM _ ml:Option (List cX))<;>rfl
@[simp] theorem tM:qow (some (.ow d))=some d:=rfl
end
section
variable{i j:Int}{x y:Uw}{ds es:List cX}
@[simp] theorem oI_e{C:Int->Int->Bool}{g:Int->Int->cX}:oI C g (.int i) (.int j)=if C i j=true then some (g i j) else none:=rfl
@[simp] theorem ue:ZL (.int i) (.int j)=some (.int (i+j)):=rfl
@[simp] theorem vM:ZL (.tup ds) (.tup es)=if ds.length+es.length<=16777216 then some (.tup (ds++es)) else none:=rfl
@[simp] theorem sZ:ZL (.lst ds) (.lst es)=if ds.length+es.length<=16777216 then some (.lst (ds++es)) else none:=rfl
@[simp] theorem vw{g:Int->Int->Int}:o2I g (.int i) (.int j)=some (.int (g i j)):=rfl
@[simp] theorem vY:Y3 (.tup ds)=some (.int ds.length):=rfl
@[simp] theorem rZ:Y3 (.lst ds)=some (.int ds.length):=rfl
@[simp] theorem vZ:HF (.tup ds)=some (.lst ds):=rfl
@[simp] theorem uF:HF (.lst ds)=some (.lst ds):=rfl
@[simp] theorem sD:UO (.tup ds)=some (.tup ds):=rfl
@[simp] theorem vQ:UO (.lst ds)=some (.tup ds):=rfl
@[simp] theorem tS:bT (.tup ds) (.int i)=T0 ds i:=rfl
@[simp] theorem uk:bT (.lst ds) (.int i)=T0 ds i:=rfl
@[simp] theorem vF{ks:List aK}:bT (.dct ks ds) (.int i)=a6 ks ds (.inl i):=rfl
@[simp] theorem sf{ks:List aK}:bT (.dct ks ds) (.str x)=a6 ks ds (.inr x):=rfl
@[simp] theorem uU:LW (.int i)=true:=rfl
@[simp] theorem ub:LW .non=true:=rfl
@[simp] theorem w9{b:Bool}:LW (.bl b)=true:=rfl
@[simp] theorem vX:QQ "int" "bool"=some false:=by decide+kernel
@[simp] theorem vL:QQ "int" "int"=some true:=by decide+kernel
@[simp] theorem vT:QQ "tuple" "tuple"=some true:=by decide+kernel
@[simp] theorem vh:QQ "str" "str"=some true:=by decide+kernel
@[simp] theorem uJ{n:String}:SV (.int i) (.ty n)=(QQ "int" n).map cX.bl:=rfl
@[simp] theorem vz{n:String}:SV (.tup ds) (.ty n)=(QQ "tuple" n).map cX.bl:=rfl
@[simp] theorem tQ{n:String}:SV (.lst ds) (.ty n)=(QQ "list" n).map cX.bl:=rfl
@[simp] theorem sW{n:String}:SV (.str x) (.ty n)=(QQ "str" n).map cX.bl:=rfl
@[simp] theorem sK:FK .non .non=some (.bl true):=rfl
@[simp] theorem tN:FK (.int i) .non=some (.bl false):=rfl
@[simp] theorem tU:FK (.str x) .non=some (.bl false):=rfl
@[simp] theorem uC:FK (.tup ds) .non=some (.bl false):=rfl
@[simp] theorem uV:NZ .non .non=some (.bl false):=rfl
@[simp] theorem uz:NZ (.int i) .non=some (.bl true):=rfl
@[simp] theorem sA:NZ (.str x) .non=some (.bl true):=rfl
@[simp] theorem tu:NZ (.tup ds) .non=some (.bl true):=rfl
end
section
variable{d x:cX}{δ δ1:Ev}{r acc:List cX}{gg:VG}{tb:VB}{fe:VF}{n nl:Nat}{g:VS}
noncomputable def qk1(n nl:Nat)(gg:VG)(tb:VB)(fe:VF)(r acc:List cX)(o:Option Ev):Option (List cX×Ev):=o.bind λδ1=>(tb δ1).bind λp=>if p.1=true then(fe p.2).bind λq=>if acc.length<16777216 then Z9 n nl gg tb fe r (acc++[q.1]) (q.2.take n) else none else Z9 n nl gg tb fe r acc (p.2.take n)
noncomputable def qk2(n nl:Nat)(gg:VG)(tb:VB)(fe:VF)(r acc:List cX)(o:Option (Bool×Ev)):Option (List cX×Ev):=o.bind λp=>if p.1=true then(fe p.2).bind λq=>if acc.length<16777216 then Z9 n nl gg tb fe r (acc++[q.1]) (q.2.take n) else none else Z9 n nl gg tb fe r acc (p.2.take n)
noncomputable def qk3(n nl:Nat)(gg:VG)(tb:VB)(fe:VF)(r acc:List cX)(o:Option (cX×Ev)):Option (List cX×Ev):=o.bind λq=>if acc.length<16777216 then Z9 n nl gg tb fe r (acc++[q.1]) (q.2.take n) else none
@[simp] theorem uI:Z9 n nl gg tb fe [] acc δ=some (acc,δ):=rfl
@[simp] theorem RB:Z9 n nl gg tb fe (d::r) acc δ=qk1 n nl gg tb fe r acc (gg d (δ++P8 nl)):=rfl
@[simp] theorem HP:qk1 n nl gg tb fe r acc (some δ)=qk2 n nl gg tb fe r acc (tb δ):=rfl
@[simp] theorem Vo:qk2 n nl gg tb fe r acc (some (true,δ))=qk3 n nl gg tb fe r acc (fe δ):=rfl
@[simp] theorem Yy:qk2 n nl gg tb fe r acc (some (false,δ))=Z9 n nl gg tb fe r acc (δ.take n):=rfl
@[simp] theorem Vz:qk3 n nl gg tb fe r acc (some (x,δ))=if acc.length<16777216 then Z9 n nl gg tb fe r (acc++[x]) (δ.take n) else none:=rfl
def qf1(gg:VG)(g:VS)(r:List cX)(o:Option Ev):Option Ou:=o.bind λδ1=>(g δ1).bind (again (WQ gg g r))
def qf2(gg:VG)(g:VS)(r:List cX)(o:Option Ou):Option Ou:=o.bind (again (WQ gg g r))
@[simp] theorem sO:WQ gg g [] δ=some (.nx δ):=rfl
@[simp] theorem NJ:WQ gg g (d::r) δ=qf1 gg g r (gg d δ):=rfl
@[simp] theorem HM:qf1 gg g r (some δ)=qf2 gg g r (g δ):=rfl
@[simp] theorem HN:qf2 gg g r (some (.nx δ))=WQ gg g r δ:=rfl
@[simp] theorem ve:qf2 gg g r (some (.ct δ))=WQ gg g r δ:=rfl
@[simp] theorem wa:qf2 gg g r (some (.bk δ))=some (.nx δ):=rfl
@[simp] theorem uR:qf2 gg g r (some (.rt d δ))=some (.rt d δ):=rfl
@[simp] theorem vx{ss:Ev}:ZV [] ss δ=δ:=by cases ss<;>rfl
@[simp] theorem so{i:Nat}{is:List Nat}{ss:Ev}:ZV (i::is) (.ow d::ss) δ=ZV is ss (δ.set i (.ow d)):=rfl
@[simp] theorem t9{i:Nat}{is:List Nat}{ss:Ev}:ZV (i::is) (.va d::ss) δ=ZV is ss δ:=rfl
@[simp] theorem sk{i:Nat}{is:List Nat}{ss:Ev}:ZV (i::is) (.no::ss) δ=ZV is ss δ:=rfl
end
@[simp] theorem Vp:P8 1=[.no]:=rfl
@[simp] theorem Yj:P8 2=[.no,.no]:=rfl
@[simp] theorem tR:P8 3=[.no,.no,.no]:=rfl
@[simp] theorem ua{i:Int}:ZC i 0=[]:=rfl
@[simp] theorem uS:ZC 0 1=[.int 0]:=rfl
@[simp] theorem sX:ZC 0 2=[.int 0,.int 1]:=rfl
@[simp] theorem vP:ZC 0 3=[.int 0,.int 1,.int 2]:=rfl
@[simp] theorem tP:ZC 0 4=[.int 0,.int 1,.int 2,.int 3]:=rfl
theorem UB{α:Type}{xs:List α}{i:Int}(h0:0<=i)(h1:i<xs.length):T0 xs i=xs[i.toNat]? :=by unfold T0 ixN;rw[if_pos h0,if_pos h1];rfl
theorem EW{α:Type}{xs:List α}{i:Int}(h0:0<=i)(h1:i<xs.length):∃x∈xs,T0 xs i=some x:=by
 rw[UB h0 h1];have h:i.toNat<xs.length:=by lia
 exact⟨xs[i.toNat],Mc _,Dg h⟩
section
variable{F:bC}{fa fb fc:VF}{δ:Ev}{x y z d o:cX}{j:Nat}
noncomputable def DX(δ:Ev):Option (cX×List cX)->Option (cX×Ev)
 |some (d,[])=>some (d,δ)
 |_=>none
@[simp] theorem ul:DX δ (some (d,[]))=some (d,δ):=rfl
theorem EY{n:Nat}{ds:List cX}{as:List AV}(h:WW δ as=some ds)(hn:ds.length=n)(hj:U4 as=[])(ha:WU [] as 0=true):qCb n [] F as δ (some ds)=DX δ (F ds):=by
 have hc:VE [] as δ=true:=by simp[hj]
 rw[nR,if_pos ⟨hn,hc⟩];cases F ds with
 |none=>rfl
 |some q=>
  obtain⟨r,os⟩:=q;rw[Zw];cases os with
  |nil=>simp[ha,DX]
  |cons o os=>simp[DX]
def qx1(F:bC)(r:Option (cX×Ev)):Option (cX×Ev):=r.bind λp=>DX p.2 (F [p.1])
@[simp] theorem w8:qx1 F (some (x,δ))=DX δ (F [x]):=rfl
@[simp high] theorem call1:cL 1 [] F (aE fa cA) δ=qx1 F (fa δ):=by
 rw[O8,GJ];cases fa δ with
 |none=>rfl
 |some p=>exact EY (as:=[.d p.1]) rfl rfl rfl rfl
noncomputable def qx2(F:bC)(r:Option (cX×Ev))(fb:VF):Option (cX×Ev):=r.bind λp=>(fb p.2).bind λq=>DX q.2 (F [p.1,q.1])
noncomputable def qx2b(F:bC)(x:cX)(r:Option (cX×Ev)):Option (cX×Ev):=r.bind λq=>DX q.2 (F [x,q.1])
@[simp] theorem eK:qx2 F (some (x,δ)) fb=qx2b F x (fb δ):=rfl
@[simp] theorem vp:qx2b F x (some (y,δ))=DX δ (F [x,y]):=rfl
@[simp high] theorem call2:cL 2 [] F (aE fa (aE fb cA)) δ=qx2 F (fa δ) fb:=by
 rw[O8,GJ];cases fa δ with
 |none=>rfl
 |some p=>
  rw[qa_s,GJ,eK];cases fb p.2 with
  |none=>rfl
  |some q=>exact EY (as:=[.d p.1,.d q.1]) rfl rfl rfl rfl
noncomputable def qx3(F:bC)(r:Option (cX×Ev))(fb fc:VF):Option (cX×Ev):=r.bind λp=>(fb p.2).bind λq=>(fc q.2).bind λs=>DX s.2 (F [p.1,q.1,s.1])
noncomputable def qx3b(F:bC)(x:cX)(r:Option (cX×Ev))(fc:VF):Option (cX×Ev):=r.bind λq=>(fc q.2).bind λs=>DX s.2 (F [x,q.1,s.1])
noncomputable def qx3c(F:bC)(x y:cX)(r:Option (cX×Ev)):Option (cX×Ev):=r.bind λs=>DX s.2 (F [x,y,s.1])
@[simp] theorem eW:qx3 F (some (x,δ)) fb fc=qx3b F x (fb δ) fc:=rfl
@[simp] theorem mR:qx3b F x (some (y,δ)) fc=qx3c F x y (fc δ):=rfl
@[simp] theorem wt:qx3c F x y (some (z,δ))=DX δ (F [x,y,z]):=rfl
@[simp high] theorem call3:cL 3 [] F (aE fa (aE fb (aE fc cA))) δ=qx3 F (fa δ) fb fc:=by
 rw[O8,GJ];cases fa δ with
 |none=>rfl
 |some p=>
  rw[qa_s,GJ,eW];cases fb p.2 with
  |none=>rfl
  |some q=>
   rw[qa_s,GJ,mR];cases fc q.2 with
   |none=>rfl
   |some s=>exact EY (as:=[.d p.1,.d q.1,.d s.1]) rfl rfl rfl rfl
noncomputable def qw3(j:Nat)(δ:Ev):Option (cX×List cX)->Option (cX×Ev)
 |some (r,[o])=>some (r,δ.set j (.ow o))
 |_=>none
noncomputable def qw2(F:bC)(j:Nat)(x y:cX)(δ:Ev):Option Sl->Option (cX×Ev)
 |some (.ow d)=>qw3 j δ (F [x,d,y])
 |_=>none
def qwb(F:bC)(j:Nat)(x:cX)(r:Option (cX×Ev)):Option (cX×Ev):=r.bind λq=>qw2 F j x q.1 q.2 q.2[j]?
def qwa(F:bC)(j:Nat)(x:cX)(δ:Ev)(fb:VF)(s:Option cX):Option (cX×Ev):=s.bind λ_=>qwb F j x (fb δ)
def qw(F:bC)(j:Nat)(r:Option (cX×Ev))(fb:VF):Option (cX×Ev):=r.bind λp=>qwa F j p.1 p.2 fb (slot p.2 j)
@[simp] theorem vn:qw3 j δ (some (x,[o]))=some (x,δ.set j (.ow o)):=rfl
@[simp] theorem sG:qw2 F j x y δ (some (.ow d))=qw3 j δ (F [x,d,y]):=rfl
@[simp] theorem iK:qwb F j x (some (y,δ))=qw2 F j x y δ δ[j]? :=rfl
@[simp] theorem mZ:qwa F j x δ fb (some d)=qwb F j x (fb δ):=rfl
@[simp] theorem qw_s:qw F j (some (x,δ)) fb=qwa F j x δ fb (slot δ j):=rfl
@[simp high] theorem callO:cL 3 [1] F (aE fa (aO j (aE fb cA))) δ=qw F j (fa δ) fb:=by
 rw[O8,GJ];cases fa δ with
 |none=>rfl
 |some p=>
  obtain⟨x,δ1⟩:=p;rw[qa_s,aO_e,qw_s];cases h:slot δ1 j with
  |none=>rfl
  |some d0=>
   rw[lO,GJ,mZ];cases fb δ1 with
   |none=>rfl
   |some q=>
    obtain⟨y,δ2⟩:=q;rw[iK,qa_s,mH,Vr,Vr,Vr,nI];cases h2:δ2[j]? with
    |none=>simp[h2,qsl,qCb,qw2]
    |some s=>
     cases s with
     |no=>simp[h2,qsl,qCb,qw2]
     |va d=>simp[h2,qw2]
     |ow d=>
      simp[h2];cases F [x,d,y] with
      |none=>rfl
      |some r=>
       obtain⟨v,os⟩:=r;cases os with
       |nil=>simp[qw3]
       |cons o os=>
        cases os with
        |nil=>simp
        |cons o2 os=>simp[qw3]
end
def UE:cX:=.int 999
def C4:cX:=.tup [.str "plus",.str "minus",.str "times",.str "least",.str "most",.str "less",.str "over"]
def UD:cX:=.int 64
def UC:cX:=.int 40
def VD:cX:=.int 63
def Q9:cX:=.tup [.str "row",.str "row"]
def S9:cX:=.dct [.inr "number",.inr "pick",.inr "load",.inr "take",.inr "store",.inr "put"] [.tup [.str "word"],.tup [.str "row",.str "row",.str "row"],.tup [.str "place"],.tup [.str "place",.str "row",.str "row"],.tup [.str "place",.str "row"],.tup [.str "place",.str "row",.str "row"]]
def K6:cX:=.tup [.str "load",.str "take"]
def X3:cX:=.tup [.str "store",.str "put"]
abbrev PK:List Uw:=["NoBlock","NoRow"]
noncomputable abbrev WC:List Uw:=["NoBlock","NoCells","NoRow","NoLanes","NoPlan","NoProgram","NoTree","NoLoop","NoText","NoName","TooMany","TooLong","NotValid","Nothing"]
def SH:VS:=
   (cE (WR (EX (fB (f2 SV (fV 0) (fC (.ty "bool")))) (VC (fB (f2 SV (fV 0) (fC (.ty "int"))))))
   (bO (fC (.bl false)))
   Z3)
   (bO (f3 oLe oLe (fV 1) (fV 0) (fV 2))))
def bW:bC:=Z5 3 [] SH
def NN:VS:=
   (cE (WR (fB (f2 (Z8 false) (fV 0) (fC C4)))
   (bO (fC Q9))
   Z3)
   (bO (f2 Xy (fC S9) (fV 0))))
def aM:bC:=Z5 1 [] NN
def VM:VS:=
   (bO (f2 (Z8 true) (f2 bT (fV 0) (fC (.int 0))) (fC X3)))
def Y6:bC:=Z5 1 [] VM
def NO:VS:=
   (bO (fIf (EX (fB (f2 (Z8 false) (f2 bT (fV 0) (fC (.int 0))) (fC K6))) (fB (f2 (Z8 false) (f2 bT (fV 0) (fC (.int 0))) (fC X3)))) (f2 bT (fV 0) (fC (.int 1))) (fC .non)))
def YU:bC:=Z5 1 [] NO
def NM:VS:=
   (cE (L9 1 2 (fV 0))
   (bO (ZW [] 2 (iZip (cL 1 [] aM (aE (fV 1) cA)) (fV 2)) (GY 2 (aY (gN 0) (aY (gN 1) WY))) (fB (f2 WZ (fV 0) (fC (.str "row")))) (fV 1))))
def WS:bC:=Z5 3 [] NM
def SQ:VS:=
   (bO (U2 (cL 3 [] bW (aE (fV 0) (aE (fC (.int 0)) (aE (f2 N0 (f1 Y3 (fV 1)) (fC (.int 1))) cA)))) (f2 bT (fV 1) (fV 0))))
def X1:bC:=Z5 2 [] SQ
def NK:VS:=
   (cE (WR (fB (f2 WZ (fV 0) (fC (.str "word"))))
   (bO (cL 3 [] bW (aE (fV 1) (aE (fC (.int 0)) (aE (fC UE) cA)))))
   Z3)
   (cE (WR (fB (f2 WZ (fV 0) (fC (.str "place"))))
   (bO (cL 3 [] bW (aE (fV 1) (aE (fC (.int 0)) (aE (fC VD) cA)))))
   Z3)
   (bO (cL 2 [] X1 (aE (fV 1) (aE (fV 2) cA))))))
def WD:bC:=Z5 3 [] NK
def NL:VS:=
   (cE (WR (EX (VC (fB (f2 SV (fV 0) (fC (.ty "tuple"))))) (fB (f2 WZ (f1 Y3 (fV 0)) (fC (.int 0)))))
   (bO (fC (.bl false)))
   Z3)
   (cE (L9 2 3 (fV 0))
   (cE (aG 4 (xV (fIf (fB (f2 SV (fV 2) (fC (.ty "str")))) (cL 1 [] aM (aE (fV 2) cA)) (fC .non))))
   (cE (WR (EX (fB (f2 FK (fV 4) (fC .non))) (fB (f2 QW (f1 Y3 (fV 4)) (f1 Y3 (fV 3)))))
   (bO (fC (.bl false)))
   Z3)
   (bO (f1 oAll (ZW [1] 2 (iZip (fV 4) (fV 3)) (GY 2 (aY (gN 1) (aY (gN 2) WY))) U1 (cL 3 [] WD (aE (fV 1) (aE (fV 2) (aE (fV 0) cA)))))))))))
def V3:bC:=Z5 5 [] NL
def YB:VS:=
   (cE (WR (VC (fB (cL 2 [] V3 (aE (fV 4) (aO 3 cA)))))
   (bO (fC (.bl false)))
   Z3)
   (WA 3 TL (cS (cL 1 [] Y6 (aE (fV 4) cA)) b9)))
def SG:VS:=
   (cE (WR (EX (VC (fB (f2 SV (fV 0) (fC (.ty "tuple"))))) (fB (f2 QW (f1 Y3 (fV 0)) (fC (.int 2)))))
   (bO (fC (.bl false)))
   Z3)
   (cE (CC (fV 0) (GY 2 (aY (gN 1) (aY (gN 2) WY))))
   (cE (WR (VC (fB (cL 3 [] bW (aE (fV 1) (aE (fC (.int 0)) (aE (fC UD) cA))))))
   (bO (fC (.bl false)))
   Z3)
   (cE (WR (EX (VC (fB (f2 SV (fV 2) (fC (.ty "tuple"))))) (fB (f2 oGt (f1 Y3 (fV 2)) (fC UC))))
   (bO (fC (.bl false)))
   Z3)
   (cE (aG 3 (xO (aA b9)))
   (cE (PX (U3 (fV 2)) (gN 4)
   YB)
   (bO (fC (.bl true)))))))))
def aV:bC:=Z5 5 [] SG
def NP:VS:=
   (cE (WR (VC (fB (cL 1 [] aV (aE (fV 0) cA))))
   (λ_=>none)
   Z3)
   (cE (aG 2 (xV (f2 bT (fV 0) (fC (.int 1)))))
   (cE (WR (VC (fB (cL 3 [] bW (aE (fV 1) (aE (fC (.int 0)) (aE (f2 N0 (f1 Y3 (fV 2)) (fC (.int 1))) cA))))))
   (λ_=>none)
   Z3)
   (bO (f2 bT (fV 2) (fV 1))))))
def YY:bC:=Z5 3 [] NP
def OU:VZ:=
   (zAlt (zIf (VC (fB (cL 1 [] aV (aE (fV 0) cA)))) (λδ=>some (("NoBlock",none),δ)) zNo)
   (zSeq (WR (VC (fB (cL 1 [] aV (aE (fV 0) cA))))
   (λ_=>none)
   Z3)
   (zSeq (aG 2 (xV (f2 bT (fV 0) (fC (.int 1)))))
   (zIf (VC (fB (cL 3 [] bW (aE (fV 1) (aE (fC (.int 0)) (aE (f2 N0 (f1 Y3 (fV 2)) (fC (.int 1))) cA)))))) (PL "NoRow" "row" (aE (fV 1) cA)) zNo))))
def Y0:List cX->Option Xw:=MX 3 OU
def GZ:VS:=
   (bO (f2 (Z8 false) (f2 bT (fV 0) (fC (.int 0))) (fC X3)))
def XR:bC:=Z5 1 [] GZ
def V6:VS:=
   (bO (U2 (f2 WZ (f2 bT (fV 0) (fC (.int 0))) (fC (.str "number"))) (f2 QW (f2 bT (fV 0) (fC (.int 1))) (fC (.int 0)))))
def Y4:bC:=Z5 1 [] V6
def P0:VS:=
   (cE (CC (fV 0) (GY 2 (aY (gN 2) (aY (gN 3) WY))))
   (cE (aG 4 (xV (f2 bT (fV 3) (fV 1))))
   (cE (WR (fB (f2 WZ (f2 bT (fV 4) (fC (.int 0))) (fC (.str "over"))))
   (bO (fNot (cL 1 [] Y4 (aE (f2 bT (fV 3) (f2 bT (fV 4) (fC (.int 2)))) cA))))
   Z3)
   (cE (aG 5 (xV (cL 1 [] YU (aE (fV 4) cA))))
   (bO (U2 (f2 NZ (fV 5) (fC .non)) (f2 oGe (fV 5) (fV 2))))))))
def ZT:bC:=Z5 6 [] P0
def XU:VS:=
   (bO (U2 (f2 WZ (cL 1 [] YU (aE (fV 0) cA)) (cL 1 [] YU (aE (fV 1) cA))) (fOr (cL 1 [] XR (aE (fV 0) cA)) (cL 1 [] XR (aE (fV 1) cA)))))
def ZZ:bC:=Z5 2 [] XU
def P4:VS:=
   (cE (aG 3 (xV (f2 bT (fV 0) (fC (.int 1)))))
   (cE (WR (EX (fB (f2 (Z8 false) (fV 1) (cL 1 [] WS (aE (f2 bT (fV 3) (fV 2)) cA)))) (fB (cL 2 [] ZZ (aE (f2 bT (fV 3) (fV 1)) (aE (f2 bT (fV 3) (fV 2)) cA)))))
   (bO (fC (.bl true)))
   Z3)
   (cE (HW 4 5 (xV (cL 2 [] ZT (aE (fV 0) (aE (fV 1) cA)))) (xV (cL 2 [] ZT (aE (fV 0) (aE (fV 2) cA)))))
   (cE (WR (PQ (fB (fV 4)) (fB (fV 5)))
   (bO (fC (.bl true)))
   Z3)
   (bO (fOr (U2 (fV 4) (cL 1 [] XR (aE (f2 bT (fV 3) (fV 2)) cA))) (U2 (fV 5) (cL 1 [] XR (aE (f2 bT (fV 3) (fV 1)) cA)))))))))
def Y9:bC:=Z5 6 [] P4
def RF:VS:=
   (cE (aG 1 (xV (f1 Y3 (f2 bT (fV 0) (fC (.int 1))))))
   (cE (aG 2 (xV (NH [1] 2 (iR1 (fV 1)) (gN 1) U1 (iR2 (f2 ZL (fV 1) (fC (.int 1))) (fV 0)) (gN 2) U1 (Z1 (cS (fV 1) (cS (fV 2) b9))))))
   (bO (ZW [0] 2 (U3 (fV 2)) (GY 2 (aY (gN 1) (aY (gN 2) WY))) (fB (cL 3 [] Y9 (aE (fV 0) (aE (fV 1) (aE (fV 2) cA))))) (Z1 (cS (fV 1) (cS (fV 2) b9)))))))
def X8:bC:=Z5 3 [] RF
def UJ:VS:=
   (cE (HU (cL 2 [] YY (aE (fV 0) (aE (fV 1) cA))))
   (bO (cL 2 [] ZT (aE (fV 0) (aE (fV 1) cA)))))
def YR:bC:=Z5 2 [] UJ
def UY:VZ:=
   (SA 2 Y0 (aE (fV 0) (aE (fV 1) cA)))
def YS:List cX->Option Xw:=MX 2 UY
def Xf:VS:=
   (cE (WR (VC (fB (cL 1 [] aV (aE (fV 0) cA))))
   (λ_=>none)
   Z3)
   (bO (cL 1 [] X8 (aE (fV 0) cA))))
def IS:bC:=Z5 1 [] Xf
def Wr:VZ:=
   (zIf (VC (fB (cL 1 [] aV (aE (fV 0) cA)))) (λδ=>some (("NoBlock",none),δ)) zNo)
def JA:List cX->Option Xw:=MX 1 Wr
def AT:VS:=
   (WR (fB (f1 oAny (ZW [0,3] 1 (U3 (f2 ZL (fO 2) (aA (cS (fV 1) b9)))) (gN 2) U1 (cL 3 [] Y9 (aE (fV 0) (aE (fV 1) (aE (fV 2) cA)))))))
   (WA 2 TL (cS (fV 3) b9))
   Z3)
def JR:VS:=
   (cE (HU (cL 2 [] YY (aE (fV 0) (aE (fV 1) cA))))
   (cE (aG 2 (xO (aA b9)))
   (cE (PX (iRB (fV 1)) (gN 3)
   AT)
   (bO (f1 Xj (fO 2))))))
def TU:bC:=Z5 4 [] JR
def KQ:VZ:=
   (SA 2 Y0 (aE (fV 0) (aE (fV 1) cA)))
def TW:List cX->Option Xw:=MX 4 KQ
def U6:VS:=
   (aG 2 (xV (f2 DM (fV 2) (fC (.int 1000003)))))
def WG:VS:=
   (cE (WR (fB (f2 oLt (fV 1) (f1 Y3 (fV 0))))
   (bO (f2 bT (fV 0) (fV 1)))
   Z3)
   (cE (WR (fB (f2 WZ (fV 0) (aA b9)))
   (bO (fC (.int 0)))
   Z3)
   (cE (aG 2 (xV (f2 bT (fV 0) (f2 J3 (fV 1) (f1 Y3 (fV 0))))))
   (cE (PX (iR1 (f2 oMin (f2 DM (fV 1) (f1 Y3 (fV 0))) (fC (.int 60)))) (gN 3)
   U6)
   (bO (f2 ZL (f2 ZL (f2 N3 (f2 bT (fV 0) (f2 J3 (fV 1) (f1 Y3 (fV 0)))) (fC (.int 31))) (fV 1)) (f2 N3 (fV 2) (fC (.int 101)))))))))
def aB:bC:=Z5 4 [] WG
def UH:VS:=
   (cE (aG 3 (xV (f2 J3 (f2 ZL (f2 ZL (f2 N3 (cL 2 [] aB (aE (fV 0) (aE (fV 1) cA))) (fC (.int 1103515245))) (f2 N3 (fC (.int 7919)) (fV 1))) (fC (.int 12345))) (fC (.int 2147483647)))))
   (bO (f2 J3 (f2 J3 (f2 J3 (f2 oPow (fV 3) (fC (.int 5))) (fC (.int 2147483647))) (fC (.int 999983))) (fV 2))))
def YO:bC:=Z5 4 [] UH
def SI:VS:=
   (cE (WA 1 TL (cS (fC (.int 0)) b9))
   (bO (cL 3 [] YO (aE (fV 0) (aE (f1 Y3 (fO 1)) (aE (fV 2) cA))))))
def bR:bC:=Z5 3 [1] SI
def SM:VS:=
   (bO (f2 bT (fV 2) (cL 3 [1] bR (aE (fV 0) (aO 1 (aE (f1 Y3 (fV 2)) cA))))))
def bS:bC:=Z5 3 [1] SM
def UI:VS:=
   (cE (HS 2 (fV 3) (f2 J3 (f2 ZL (JO 2 (fV 3) (cL 3 [1] bR (aE (fV 0) (aO 1 (aE (fV 4) cA))))) (cL 3 [1] bS (aE (fV 0) (aO 1 (aE (aA (cS (fC (.int 1)) (cS (fC (.int 1)) (cS (fC (.int 1)) (cS (fC (.int 0)) (cS (fC (.int 3)) b9)))))) cA))))) (fV 4)))
   (bO (f2 bT (fO 2) (fV 3))))
def aJ:bC:=Z5 5 [1,2] UI
def QO:VS:=
   (cE (aG 5 (xV (cL 3 [1] bR (aE (fV 0) (aO 1 (aE (fC (.int 13)) cA))))))
   (cE (WR (EX (fB (f2 WZ (fV 2) (aA b9))) (fB (f2 WZ (fV 5) (fC (.int 0)))))
   (cE (WR (fB (f2 WZ (cL 3 [1] bR (aE (fV 0) (aO 1 (aE (fC (.int 2)) cA)))) (fC (.int 0))))
   (bO (Z1 (cS (fC (.str "number")) (cS (cL 3 [1] bS (aE (fV 0) (aO 1 (aE (aA (cS (fC (.int 0)) (cS (fC (.int 1)) (cS (fC (.int 2)) (cS (fC (.int 5)) (cS (fC (.int 999)) (cS (cL 3 [1] bR (aE (fV 0) (aO 1 (aE (fC (.int 1000)) cA)))) b9))))))) cA)))) b9))))
   Z3)
   (bO (Z1 (cS (fC (.str "load")) (cS (cL 5 [1,2] aJ (aE (fV 0) (aO 1 (aO 3 (aE (fC (.str "load")) (aE (fV 4) cA)))))) b9)))))
   Z3)
   (cE (CC (ZW [0,1,2] 1 (iR1 (fC (.int 3))) (gN 3) U1 (f2 bT (fV 2) (f2 oMax (fC (.int 0)) (f2 N0 (f2 N0 (f1 Y3 (fV 2)) (fC (.int 1))) (cL 3 [1] bR (aE (fV 0) (aO 1 (aE (fC (.int 6)) cA)))))))) (GY 3 (aY (gN 6) (aY (gN 7) (aY (gN 8) WY)))))
   (cE (WR (fB (f2 (Z8 false) (fV 5) (Z1 (cS (fC (.int 1)) (cS (fC (.int 2)) b9)))))
   (bO (Z1 (cS (fC (.str "load")) (cS (cL 5 [1,2] aJ (aE (fV 0) (aO 1 (aO 3 (aE (fC (.str "load")) (aE (fV 4) cA)))))) b9))))
   Z3)
   (cE (WR (fB (f2 WZ (fV 5) (fC (.int 3))))
   (bO (Z1 (cS (fC (.str "take")) (cS (cL 5 [1,2] aJ (aE (fV 0) (aO 1 (aO 3 (aE (fC (.str "take")) (aE (fV 4) cA)))))) (cS (fV 8) (cS (fV 6) b9))))))
   Z3)
   (cE (WR (fB (f2 (Z8 false) (fV 5) (Z1 (cS (fC (.int 4)) (cS (fC (.int 5)) b9)))))
   (bO (Z1 (cS (fC (.str "store")) (cS (cL 5 [1,2] aJ (aE (fV 0) (aO 1 (aO 3 (aE (fC (.str "store")) (aE (fV 4) cA)))))) (cS (fV 6) b9)))))
   Z3)
   (cE (WR (fB (f2 WZ (fV 5) (fC (.int 6))))
   (bO (Z1 (cS (fC (.str "put")) (cS (cL 5 [1,2] aJ (aE (fV 0) (aO 1 (aO 3 (aE (fC (.str "put")) (aE (fV 4) cA)))))) (cS (fV 6) (cS (fV 8) b9))))))
   Z3)
   (cE (WR (fB (f2 WZ (fV 5) (fC (.int 7))))
   (bO (Z1 (cS (fC (.str "pick")) (cS (fV 8) (cS (fV 6) (cS (fV 7) b9))))))
   Z3)
   (bO (Z1 (cS (f2 bT (aA (cS (fC (.str "over")) (cS (fC (.str "plus")) (cS (fC (.str "minus")) (cS (fC (.str "times")) (cS (fC (.str "least")) (cS (fC (.str "most")) (cS (fC (.str "less")) b9)))))))) (cL 3 [1] bR (aE (fV 0) (aO 1 (aE (fC (.int 7)) cA))))) (cS (fV 6) (cS (fV 7) b9)))))))))))))
def W1:bC:=Z5 9 [1,3] QO
def Y7:VS:=
   (cE (aG 10 (xV (f2 ZL (f2 FJ (fV 3) (fV 9)) (cL 3 [1] bS (aE (fV 0) (aO 1 (aE (aA (cS (fC (.int 1)) (cS (fC (.int 1)) (cS (fC (.int 1)) (cS (fC (.int 1)) (cS (f1 NY (fC (.int 1))) (cS (fC (.int 0)) (cS (fC (.int 2)) b9)))))))) cA)))))))
   (WA 8 TL (cS (fIf (PQ (fB (f3 oLe oLt (fC (.int 0)) (fV 10) (f1 Y3 (fV 3)))) (fB (f2 QW (f2 bT (fV 3) (fV 10)) (f2 N0 (f1 Y3 (fV 2)) (fC (.int 1)))))) (f2 bT (fV 3) (fV 10)) (fV 9)) b9)))
def VL:VS:=
   (cE (aG 6 (xV (f2 bT (fV 2) (f1 NY (fC (.int 1))))))
   (cE (aG 7 (xV (fIf (fB (f2 (Z8 false) (f2 bT (fV 6) (fC (.int 0))) (Z1 (cS (fC (.str "load")) (cS (fC (.str "take")) (cS (fC (.str "store")) (cS (fC (.str "put")) b9))))))) (fC (.int 2)) (fC (.int 1)))))
   (cE (aG 8 (xO (aA b9)))
   (cE (PX (U3 (BF (fV 6) (BY (fV 7)) pNo)) (gN 9)
   Y7)
   (cE (WR (fB (f2 WZ (fV 7) (fC (.int 1))))
   (bO (f2 ZL (BF (fV 6) pNo (BY (fC (.int 1)))) (f1 UO (fO 8))))
   Z3)
   (cE (HS 4 (f2 bT (fV 6) (fC (.int 0))) (f2 J3 (f2 ZL (f2 bT (fV 6) (fC (.int 1))) (fC (.int 1))) (fV 5)))
   (bO (f2 ZL (Z1 (cS (f2 bT (fV 6) (fC (.int 0))) (cS (f2 bT (fO 4) (f2 bT (fV 6) (fC (.int 0)))) b9))) (f1 UO (fO 8))))))))))
def ZO:bC:=Z5 11 [1,4] VL
def Y8:VS:=
   (WR (PQ (fB (f2 oLt (f1 Y3 (fO 4)) (fV 2))) (fB (f2 QW (f2 bT (f2 bT (fO 4) (f1 NY (fC (.int 1)))) (fC (.int 0))) (fC (.str "number")))))
   (cE (WA 4 TL (cS (cL 6 [1,4] ZO (aE (fV 0) (aO 1 (aO 4 (aO 5 (aO 6 (aE (fV 3) cA))))))) b9))
   (WR (fB (f2 (Z8 true) (f2 bT (f2 bT (fO 4) (f1 NY (fC (.int 1)))) (fC (.int 0))) (Z1 (cS (fC (.str "store")) (cS (fC (.str "put")) b9)))))
   (WA 5 TL (cS (f2 N0 (f1 Y3 (fO 4)) (fC (.int 1))) b9))
   Z3))
   Z3)
def W8:VS:=
   (cE (WA 4 TL (cS (cL 5 [1,3] W1 (aE (fV 0) (aO 1 (aO 5 (aO 6 (aE (fV 3) cA)))))) b9))
   (cE (WR (fB (f2 (Z8 true) (f2 bT (f2 bT (fO 4) (f1 NY (fC (.int 1)))) (fC (.int 0))) (Z1 (cS (fC (.str "store")) (cS (fC (.str "put")) b9)))))
   (WA 5 TL (cS (f2 N0 (f1 Y3 (fO 4)) (fC (.int 1))) b9))
   Z3)
   (PX (iR1 (cL 3 [1] bS (aE (fV 0) (aO 1 (aE (aA (cS (fC (.int 0)) (cS (fC (.int 1)) (cS (fC (.int 1)) (cS (fC (.int 2)) (cS (fC (.int 3)) b9)))))) cA))))) (gN 7)
   Y8)))
def SN:VS:=
   (cE (OE 4 5 6 (xO (aA b9)) (xO (aA b9)) (xO (fC (.dct [] []))))
   (cE (SX (fB (f2 oLt (f1 Y3 (fO 4)) (fV 2)))
   W8)
   (bO (f1 UO (fO 4)))))
def X0:bC:=Z5 8 [1] SN
def P1:VS:=
   (cE (WR (fB (f2 WZ (f2 bT (fV 0) (fC (.int 0))) (fC (.str "number"))))
   (bO (aA b9))
   Z3)
   (bO (fIf (fB (f2 (Z8 false) (f2 bT (fV 0) (fC (.int 0))) (Z1 (cS (fC (.str "load")) (cS (fC (.str "take")) (cS (fC (.str "store")) (cS (fC (.str "put")) b9))))))) (f1 HF (BF (fV 0) (BY (fC (.int 2))) pNo)) (f1 HF (BF (fV 0) (BY (fC (.int 1))) pNo)))))
def aC:bC:=Z5 1 [] P1
def QN:VS:=
   (cE (aG 2 (xV (f2 bT (f2 bT (fV 0) (fC (.int 1))) (fV 1))))
   (cE (WR (fB (f2 (Z8 false) (f2 bT (fV 2) (fC (.int 0))) (Z1 (cS (fC (.str "load")) (cS (fC (.str "take")) (cS (fC (.str "store")) (cS (fC (.str "put")) b9)))))))
   (bO (f2 oGe (f2 bT (fV 2) (fC (.int 1))) (f2 bT (fV 0) (fC (.int 0)))))
   Z3)
   (bO (U2 (f2 WZ (f2 bT (fV 2) (fC (.int 0))) (fC (.str "over"))) (f2 (Z8 true) (BF (f2 bT (f2 bT (fV 0) (fC (.int 1))) (f2 bT (fV 2) (fC (.int 2)))) pNo (BY (fC (.int 2)))) (ZW [] 1 (iR2 (fC (.int 1)) (fC (.int 1000))) (gN 0) U1 (Z1 (cS (fC (.str "number")) (cS (fV 0) b9)))))))))
def Y5:bC:=Z5 3 [] QN
def W6:VS:=
   (cE (aG 7 (xV (ZW [] 1 (U3 (Z1 (cS (fV 6) (cS (fV 4) b9)))) (gN 0) (fB (f2 (Z8 false) (f2 bT (fV 0) (fC (.int 0))) (Z1 (cS (fC (.str "store")) (cS (fC (.str "put")) b9))))) (fV 0))))
   (cE (aG 8 (xO (aA (cS (f2 (Z8 false) (fV 5) (cL 1 [] aC (aE (fV 4) cA))) (cS (U2 (cL 2 [] Y5 (aE (fV 0) (aE (fV 5) cA))) (cL 2 [] Y5 (aE (fV 0) (aE (fV 3) cA)))) b9)))))
   (cE (WA 8 TL (cS (U2 (f2 (Z8 false) (f2 bT (fV 6) (fC (.int 0))) (fV 2)) (U2 (f2 (Z8 false) (f2 bT (fV 4) (fC (.int 0))) (fV 2)) (U2 (f2 WZ (f2 bT (fV 6) (fC (.int 1))) (f2 bT (fV 4) (fC (.int 1)))) (f2 QW (fV 7) (aA b9))))) b9))
   (cE (WA 8 TL (cS (U2 (cL 2 [] Y5 (aE (fV 0) (aE (fV 5) cA))) (f2 (Z8 false) (f2 bT (fV 4) (fC (.int 0))) (Z1 (cS (fC (.str "store")) (cS (fC (.str "put")) b9))))) b9))
   (cE (WA 8 TL (cS (U2 (cL 2 [] Y5 (aE (fV 0) (aE (fV 3) cA))) (f2 (Z8 false) (f2 bT (fV 6) (fC (.int 0))) (Z1 (cS (fC (.str "store")) (cS (fC (.str "put")) b9))))) b9))
   (WR (fB (f2 (Z8 false) (fC (.bl true)) (fO 8)))
   (WA 1 TL (cS (Z1 (cS (fV 5) (cS (fV 3) b9))) b9))
   Z3))))))
def W7:VS:=
   (PX (NQ (BF (f2 bT (fV 0) (fC (.int 1))) pNo (BY (fV 3)))) (GY 2 (aY (gN 5) (aY (gN 6) WY)))
   W6)
def SJ:VS:=
   (cE (HW 1 2 (xO (aA b9)) (xV (Z1 (cS (fC (.str "load")) (cS (fC (.str "take")) (cS (fC (.str "store")) (cS (fC (.str "put")) b9)))))))
   (cE (PX (NQ (f2 bT (fV 0) (fC (.int 1)))) (GY 2 (aY (gN 3) (aY (gN 4) WY)))
   W7)
   (bO (f1 FL (fO 1)))))
def XY:bC:=Z5 9 [] SJ
def ZX:VS:=
   (cE (aG 6 (xV (ZW [3,4] 1 (U3 (fO 4)) (gN 2) (fB (f2 WZ (ZW [1,2] 2 (U3 (fV 0)) (GY 2 (aY (gN 2) (aY (gN 3) WY))) (PQ (fB (f2 WZ (fV 3) (fV 1))) (fB (f2 (Z8 false) (fV 2) (fO 0)))) (fC (.int 1))) (aA b9))) (fV 2))))
   (cE (WA 5 TL (cS (cL 3 [1] bS (aE (fV 0) (aO 1 (aE (fV 6) cA)))) b9))
   (WA 4 mRem (cS (f2 bT (fO 5) (f1 NY (fC (.int 1)))) b9))))
def YD:VS:=
   (cE (OE 3 4 5 (xV (cL 1 [] XY (aE (fV 2) cA))) (xO (T2 (f1 Y3 (f2 bT (fV 2) (fC (.int 1)))))) (xO (aA b9)))
   (cE (SX (fB (f2 QW (fO 4) (aA b9)))
   ZX)
   (bO (fO 5))))
def aI:bC:=Z5 7 [1] YD
def aL:VS:=
   (cE (WR (fB (f2 WZ (f2 bT (fV 0) (fC (.int 0))) (fC (.str "number"))))
   (bO (fV 0))
   Z3)
   (cE (aG 2 (xV (fIf (fB (f2 (Z8 false) (f2 bT (fV 0) (fC (.int 0))) (Z1 (cS (fC (.str "load")) (cS (fC (.str "take")) (cS (fC (.str "store")) (cS (fC (.str "put")) b9))))))) (fC (.int 2)) (fC (.int 1)))))
   (bO (f2 ZL (BF (fV 0) pNo (BY (fV 2))) (f1 UO (ZW [1] 1 (U3 (BF (fV 0) (BY (fV 2)) pNo)) (gN 1) U1 (f2 bT (fV 0) (fV 1))))))))
def bV:bC:=Z5 3 [] aL
def WN:VS:=
   (cE (aG 3 (xV (cL 3 [1] bS (aE (fV 0) (aO 1 (aE (aA (cS (fC (.int 3)) (cS (fC (.int 6)) (cS (fC (.int 9)) (cS (fC (.int 64)) b9))))) cA))))))
   (cE (aG 4 (xV (cL 3 [1] bS (aE (fV 0) (aO 1 (aE (aA (cS (fC (.int 0)) (cS (fV 3) (cS (fV 3) (cS (cL 3 [1] bR (aE (fV 0) (aO 1 (aE (f2 ZL (fV 3) (fC (.int 1))) cA)))) b9))))) cA))))))
   (cE (aG 5 (xV (Z1 (cS (fV 4) (cS (cL 4 [1] X0 (aE (fV 0) (aO 1 (aE (cL 3 [1] bR (aE (fV 0) (aO 1 (aE (f2 ZL (fV 2) (fC (.int 1))) cA)))) (aE (fV 3) cA))))) b9)))))
   (cE (WR (fB (f2 oGt (cL 3 [1] bR (aE (fV 0) (aO 1 (aE (fC (.int 3)) cA)))) (fC (.int 0))))
   (bO (fV 5))
   Z3)
   (cE (aG 6 (xV (cL 3 [1] aI (aE (fV 0) (aO 1 (aE (fV 5) cA))))))
   (cE (aG 7 (xV (f1 DL (ZW [] 2 (NQ (fV 6)) (GY 2 (aY (gN 0) (aY (gN 1) WY))) U1 (Z1 (cS (fV 1) (cS (fV 0) b9)))))))
   (bO (Z1 (cS (fV 4) (cS (f1 UO (ZW [5,7] 1 (U3 (fV 6)) (gN 2) U1 (cL 2 [] bV (aE (f2 bT (f2 bT (fV 0) (fC (.int 1))) (fV 2)) (aE (fV 1) cA))))) b9))))))))))
def ZU:bC:=Z5 8 [1] WN
def P2:VS:=
   (cE (aG 1 (xO (aA (cS (f2 (V7 PK WC) (fV 0) (fC (.fn "NoBlock"))) (cS (f2 (V7 PK WC) (fV 0) (fC (.fn "NoCells"))) (cS (f2 (V7 PK WC) (fV 0) (fC (.fn "NoRow"))) (cS (f2 (V7 PK WC) (fV 0) (fC (.fn "NoLanes"))) b9)))))))
   (cE (WA 1 mExt (cS (aA (cS (f2 (V7 PK WC) (fV 0) (fC (.fn "NoPlan"))) (cS (f2 (V7 PK WC) (fV 0) (fC (.fn "NoProgram"))) (cS (f2 (V7 PK WC) (fV 0) (fC (.fn "NoTree"))) (cS (f2 (V7 PK WC) (fV 0) (fC (.fn "NoLoop"))) b9))))) b9))
   (cE (WA 1 mExt (cS (aA (cS (f2 (V7 PK WC) (fV 0) (fC (.fn "NoText"))) (cS (f2 (V7 PK WC) (fV 0) (fC (.fn "NoName"))) (cS (f2 (V7 PK WC) (fV 0) (fC (.fn "TooMany"))) (cS (f2 (V7 PK WC) (fV 0) (fC (.fn "TooLong"))) b9))))) b9))
   (cE (WA 1 mExt (cS (aA (cS (f2 (V7 PK WC) (fV 0) (fC (.fn "NotValid"))) (cS (f2 (V7 PK WC) (fV 0) (fC (.fn "Nothing"))) b9))) b9))
   (cE (WR (EX (fB (f2 QW (f2 JZ (fO 1) (fC (.bl true))) (fC (.int 1)))) (VC (fB (f2 (V7 PK WC) (fV 0) (fC (.ty "ValueError"))))))
   (bO (Z1 (cS (fC (.str "refused")) (cS (f1 NY (fC (.int 1))) b9))))
   Z3)
   (bO (Z1 (cS (fC (.str "refused")) (cS (f2 J1 (fO 1) (fC (.bl true))) b9)))))))))
def YQ:bC:=Z5 2 [] P2
def SK:VS:=
   (cE (aG 2 (xV (fC (.lst [.non,.int 5,.tup [],.tup [.int 0],.tup [.int 0,.lst []],.lst [.int 0,.tup []],.tup [.int (-1),.tup []],.tup [.int 65,.tup []],.tup [.bl true,.tup []],.tup [.str "0",.tup []],.tup [.int 0,.tup [],.tup []],.tup [.int 0,.tup [.tup []]]]))))
   (cE (aG 2 (xV (f2 ZL (fV 2) (fC (.lst [.tup [.int 0,.tup [.tup [.str "number"]]],.tup [.int 0,.tup [.tup [.str "number",.int 1000]]],.tup [.int 0,.tup [.tup [.str "plus",.int 0,.int 0]]],.tup [.int 0,.tup [.lst [.str "load",.int 0]]]])))))
   (cE (aG 2 (xV (f2 ZL (fV 2) (fC (.lst [.tup [.int 0,.tup [.tup [.str "load",.int 64]]],.tup [.int 0,.tup [.tup [.str "load",.int (-1)]]],.tup [.int 0,.tup [.tup [.str "halve",.int 0]]],.tup [.int 0,.tup [.tup [.int 5,.int 0]]]])))))
   (cE (aG 2 (xV (f2 ZL (fV 2) (aA (cS (fC (.tup [.int 0,.tup [.tup [.str "number",.int 1],.tup [.str "store",.int 0,.int 0],.tup [.str "plus",.int 0,.int 1]]])) (cS (Z1 (cS (fC (.int 0)) (cS (f2 RP (fC (.tup [.tup [.str "number",.int 1]])) (fC (.int 41))) b9))) b9))))))
   (cE (aG 2 (xV (f2 ZL (fV 2) (fC (.lst [.tup [.int 0,.tup [.tup [.str "number",.int 1],.tup [.str "plus",.int 0,.int 1]]]])))))
   (bO (cL 3 [1] bS (aE (fV 0) (aO 1 (aE (fV 2) cA))))))))))
def YT:bC:=Z5 3 [1] SK
def T3:VS:=
   (EA (bO (fIf (fB (f2 WZ (fV 0) (fC (.int 2)))) (cL 1 [] IS (aE (fV 1) cA)) (NG 2 [] [("ahead",TU),("may_fault",YR)] (f2 bT (aA (cS (fC (.fn "ahead")) (cS (fC (.fn "may_fault")) b9))) (fV 0)) (aE (fV 1) (aE (fV 2) cA)))))
   (zIf (fB (f2 WZ (fV 0) (fC (.int 2)))) (SA 1 JA (aE (fV 1) cA)) (OT 2 [("ahead",TW),("may_fault",YS)] (f2 bT (aA (cS (fC (.fn "ahead")) (cS (fC (.fn "may_fault")) b9))) (fV 0)) (aE (fV 1) (aE (fV 2) cA))))
   3 PK "NoRow" (bO (Z1 (cS (fC (.str "row")) (cS (f1 (NX ["NoRow"] "row") (fV 3)) (cS (f2 (V7 PK WC) (fV 3) (fC (.fn "PackError"))) (cS (cL 1 [] YQ (aE (fV 3) cA)) b9)))))) (bO (cL 1 [] YQ (aE (fV 3) cA))))
def bQ:bC:=Z5 4 [] T3
def Q8:VS:=
   (WR (fB (f2 QW (ZW [2,4] 1 (iR1 (fC (.int 2))) (gN 2) U1 (cL 3 [] bQ (aE (fV 2) (aE (fV 0) (aE (fV 1) cA))))) (f2 RP (aA (cS (Z1 (cS (fC (.str "row")) (cS (fV 4) (cS (fC (.bl true)) (cS (Z1 (cS (fC (.str "refused")) (cS (fC (.int 2)) b9))) b9))))) b9)) (fC (.int 2)))))
   (bO (fC (.bl false)))
   Z3)
def Vy:VS:=
   (cE (aG 1 (xO (aA b9)))
   (cE (WR (fB (f2 QW (ZW [0,1] 1 (iR1 (fC (.int 3))) (gN 2) U1 (cL 3 [] bQ (aE (fV 2) (aE (cL 2 [1] YT (aE (fV 0) (aO 1 cA))) (aE (fC .non) cA))))) (f2 RP (fC (.lst [.tup [.str "refused",.int 0]])) (fC (.int 3)))))
   (bO (fC (.bl false)))
   Z3)
   (cE (aG 2 (xV (cL 3 [1] ZU (aE (fV 0) (aO 1 (aE (fC (.int 9)) cA))))))
   (cE (aG 3 (xV (f1 Y3 (f2 bT (fV 2) (fC (.int 1))))))
   (cE (PX (U3 (aA (cS (fC .non) (cS (f1 NY (fC (.int 1))) (cS (fC (.str "0")) (cS (fV 3) (cS (aA (cS (fC (.int 0)) b9)) (cS (Z1 (cS (fC (.int 0)) b9)) b9)))))))) (gN 4)
   Q8)
   (cE (aG 5 (xV (cL 3 [] bQ (aE (fC (.int 0)) (aE (fV 2) (aE (fC (.bl false)) cA))))))
   (cE (WR (EX (fB (f2 QW (fV 5) (fC (.tup [.str "row",.bl false,.bl true,.tup [.str "refused",.int 2]])))) (VC (fB (f2 SV (f2 bT (fV 5) (fC (.int 1))) (fC (.ty "bool"))))))
   (bO (fC (.bl false)))
   Z3)
   (bO (U2 (f2 WZ (cL 3 [] bQ (aE (fC (.int 2)) (aE (fC (.tup [.int 0,.tup []])) (aE (fC .non) cA)))) (aA b9)) (f2 WZ (cL 3 [] bQ (aE (fC (.int 0)) (aE (fC (.tup [.int 1,.tup [.tup [.str "load",.int 0]]])) (aE (fC (.int 0)) cA)))) (aA b9)))))))))))
def KR:bC:=Z5 6 [] Vy
end L2
namespace RR
open PySem L2
structure Txt(K:Ai)(mg:Uw->Option Uq):Prop where
 fnm:∀x a,Er K Uu x=some (some (.ref a))->mg x=some (.ref a)
 n_len:mg "len"=none
 n_range:mg "range"=none
 n_min:mg "min"=none
 n_max:mg "max"=none
 QT:mg "list"=none
 n_tuple:mg "tuple"=none
 n_sorted:mg "sorted"=none
 n_isinstance:mg "isinstance"=none
 n_bool:mg "bool"=none
 n_int:mg "int"=none
 n_str:mg "str"=none
 n_enumerate:mg "enumerate"=none
 n_zip:mg "zip"=none
 n_all:mg "all"=none
 n_any:mg "any"=none
 n_dict:mg "dict"=none
 n_ValueError:mg "ValueError"=none
 n_reversed:mg "reversed"=none
 v_DEEDS:∃u v,mg "DEEDS"=some u/\b5 v u/\∀N H M,bI K N H M v C4
 v_DEED_PARTS:∃u v,mg "DEED_PARTS"=some u/\b5 v u/\∀N H M,bI K N H M v Q9
 v_MOST_PLACE:∃u v,mg "MOST_PLACE"=some u/\b5 v u/\∀N H M,bI K N H M v VD
 v_MOST_ROWS:∃u v,mg "MOST_ROWS"=some u/\b5 v u/\∀N H M,bI K N H M v UC
 v_MOST_SURE:∃u v,mg "MOST_SURE"=some u/\b5 v u/\∀N H M,bI K N H M v UD
 v_MOST_WORD:∃u v,mg "MOST_WORD"=some u/\b5 v u/\∀N H M,bI K N H M v UE
 v_OTHER_PARTS:∃u v,mg "OTHER_PARTS"=some u/\b5 v u/\∀N H M,bI K N H M v S9
 v_READERS:∃u v,mg "READERS"=some u/\b5 v u/\∀N H M,bI K N H M v K6
 v_WRITERS:∃u v,mg "WRITERS"=some u/\b5 v u/\∀N H M,bI K N H M v X3
 v_Nothing:∃u v,mg "Nothing"=some u/\b5 v u/\∀N H M,bI K N H M v (.fn "Nothing")
 v_NotValid:∃u v,mg "NotValid"=some u/\b5 v u/\∀N H M,bI K N H M v (.fn "NotValid")
 v_TooLong:∃u v,mg "TooLong"=some u/\b5 v u/\∀N H M,bI K N H M v (.fn "TooLong")
 v_TooMany:∃u v,mg "TooMany"=some u/\b5 v u/\∀N H M,bI K N H M v (.fn "TooMany")
 v_NoName:∃u v,mg "NoName"=some u/\b5 v u/\∀N H M,bI K N H M v (.fn "NoName")
 v_NoText:∃u v,mg "NoText"=some u/\b5 v u/\∀N H M,bI K N H M v (.fn "NoText")
 v_NoLoop:∃u v,mg "NoLoop"=some u/\b5 v u/\∀N H M,bI K N H M v (.fn "NoLoop")
 v_NoTree:∃u v,mg "NoTree"=some u/\b5 v u/\∀N H M,bI K N H M v (.fn "NoTree")
 v_NoProgram:∃u v,mg "NoProgram"=some u/\b5 v u/\∀N H M,bI K N H M v (.fn "NoProgram")
 v_NoPlan:∃u v,mg "NoPlan"=some u/\b5 v u/\∀N H M,bI K N H M v (.fn "NoPlan")
 v_NoLanes:∃u v,mg "NoLanes"=some u/\b5 v u/\∀N H M,bI K N H M v (.fn "NoLanes")
 v_NoRow:∃u v,mg "NoRow"=some u/\b5 v u/\∀N H M,bI K N H M v (.fn "NoRow")
 v_NoCells:∃u v,mg "NoCells"=some u/\b5 v u/\∀N H M,bI K N H M v (.fn "NoCells")
 v_NoBlock:∃u v,mg "NoBlock"=some u/\b5 v u/\∀N H M,bI K N H M v (.fn "NoBlock")
 v_may_fault:∃u v,mg "may_fault"=some u/\b5 v u/\∀N H M,bI K N H M v (.fn "may_fault")
 v_ahead:∃u v,mg "ahead"=some u/\b5 v u/\∀N H M,bI K N H M v (.fn "ahead")
 v_PackError:∃u v,mg "PackError"=some u/\b5 v u/\∀N H M,bI K N H M v (.fn "PackError")
 x_NoBlock:∃C,XE K "NoBlock" C/\mg "NoBlock"=some (.ref C)
 x_NoRow:∃C,XZ K "NoRow" "row" C/\mg "NoRow"=some (.ref C)
 q_NoRow:∃Cy,mg "NoRow"=some (.ref Cy)/\∀x∈PK,∀C,Er K Uu x=some (some (.ref C))->XQ K C Cy (decide (x= "NoRow"))
 xi:XI K PK WC
section
variable{P:Av}{w:Uy}{K:Ai}{mg:Uw->Option Uq}{base:Va}{f:Ur}{fd:Df}
noncomputable abbrev Nx0:List Uw:=["thing","low","high"]
abbrev Qx0:List Uw:=["thing","low","high"]
theorem iG:cG Nx0 Qx0 (cU (top 19)):=ZK
theorem jS(F:YZ K "is_whole" "is_whole" (top 19) f fd)(T:Txt K mg):aW P w K mg base CX0 1 f fd Qx0 (spV K [] 3 bW):=
 UZ P w K mg base Nx0 Qx0 0 SH [] F iG λ_ _ _ _ _ _ hr hu hu1=>by
  refine cT ?_ ?_
  ·exact(a8 (R6 (TD (Z6 (GC T.n_isinstance (vv 0) (vty T.n_bool C3))) (WL (YV (Z6 (GC T.n_isinstance (vv 0) (vty T.n_int iT)))))))
   (cP (cJ YJ))
   b8)
  exact cP (cJ (dP Vu Vu s_le s_le (vv 1) (vv 0) (vv 2)))
abbrev Nx1:List Uw:=["deed"]
abbrev Qx1:List Uw:=["deed"]
theorem pN:cG Nx1 Qx1 (cU (top 28)):=ZK
theorem fQ(F:YZ K "parts_of" "parts_of" (top 28) f fd)(T:Txt K mg):aW P w K mg base CX0 1 f fd Qx1 (spV K [] 1 aM):=
 UZ P w K mg base Nx1 Qx1 0 NN [] F pN λ_ _ _ _ _ _ hr hu hu1=>by
  refine cT ?_ ?_
  ·exact (a8 (bA (VN (K := K) rfl hu) (ZD (neg := false)) (vv 0) (bU (by rfl) T.v_DEEDS) (by with_unfolding_all rfl))
   (cP (cJ (bU (by rfl) T.v_DEED_PARTS)))
   b8)
  exact cP (cJ (jT rfl hu1 (bU (by rfl) T.v_OTHER_PARTS) (vv 0) ⟨rfl,rfl,rfl,rfl⟩))
abbrev Nx2:List Uw:=["row"]
abbrev Qx2:List Uw:=["row"]
theorem jW:cG Nx2 Qx2 (cU (top 29)):=ZK
theorem dO(F:YZ K "makes_word" "makes_word" (top 29) f fd)(T:Txt K mg):aW P w K mg base CX0 1 f fd Qx2 (spV K [] 1 Y6):=
 UZ P w K mg base Nx2 Qx2 0 VM [] F jW λ_ _ _ _ _ _ hr hu hu1=>by exact(cP (cJ (YK (PB (K:=K) rfl hu) (ZD (neg:=true)) (ZI hu1 (vv 0) cV) (bU (by rfl) T.v_WRITERS) (by with_unfolding_all rfl))))
abbrev Nx3:List Uw:=["row"]
abbrev Qx3:List Uw:=["row"]
theorem jC:cG Nx3 Qx3 (cU (top 30)):=ZK
theorem iP(F:YZ K "place_of" "place_of" (top 30) f fd)(T:Txt K mg):aW P w K mg base CX0 1 f fd Qx3 (spV K [] 1 YU):=
 UZ P w K mg base Nx3 Qx3 0 NO [] F jC λ_ _ _ _ _ _ hr hu hu1=>by exact(cP (cJ (OP (R6 (TD (bA (VN (K:=K) rfl hu) (ZD (neg:=false)) (ZI hu1 (vv 0) cV) (bU (by rfl) T.v_READERS) (by with_unfolding_all rfl)) (WL (bA (VN (K:=K) rfl hu) (ZD (neg:=false)) (ZI hu1 (vv 0) cV) (bU (by rfl) T.v_WRITERS) (by with_unfolding_all rfl))))) (ZI hu1 (vv 0) cV) UV)))
abbrev Nx4:List Uw:=["row","deed","rest"]
abbrev Qx4:List Uw:=["row"]
theorem zG0:cG Nx4 Qx4 (cU (top 31)):=ZK
theorem oA(F:YZ K "names_of" "names_of" (top 31) f fd)(T:Txt K mg)(io:bZ P w K mg base "parts_of" 1 Qx1 [] aM f_x1):aW P w K mg base CX0 2 f fd Qx4 (spV K [] 1 WS):=
 UZ P w K mg base Nx4 Qx4 1 NM [] F zG0 λ_ _ _ _ _ _ hr hu hu1=>by
  refine cT ?_ ?_
  ·exact(EN (i:=1) (j:=2) rfl rfl zG0.nd rfl rfl (by decide) (Gd rfl) (Gd rfl) (vv 0))
  exact cP (cJ (bX (ZM ["part","given"] [] 2 (Xh rfl (by rfl) T.n_zip (cN (bP io hr (cR (vv 1) cO))) (vv 2)) (λhn _ _ _ _=>⟨(WK (K:=K) rfl rfl (bB (bY hn) (bB (bY hn) XX))),(OO (V2 hu (vv 0) cI)),(vv 1)⟩))))
abbrev Nx5:List Uw:=["thing","able"]
abbrev Qx5:List Uw:=["thing","able"]
theorem pW:cG Nx5 Qx5 (cU (top 32)):=ZK
theorem Zi(F:YZ K "may_name" "may_name" (top 32) f fd)(T:Txt K mg)(bu:bZ P w K mg base "is_whole" 1 Qx0 [] bW f_x0):aW P w K mg base CX0 2 f fd Qx5 (spV K [] 2 X1):=
 UZ P w K mg base Nx5 Qx5 1 SQ [] F pW λ_ _ _ _ _ _ hr hu hu1=>by exact(cP (cJ (YI (bP bu hr (cR (vv 0) (cR cV (cR (cN (YM UQ QA (XD T.n_len (vv 1)) cV)) cO)))) (YL (ZI hu1 (vv 1) (vv 0))))))
abbrev Nx6:List Uw:=["part","thing","able"]
abbrev Qx6:List Uw:=["part","thing","able"]
theorem lR:cG Nx6 Qx6 (cU (top 33)):=ZK
theorem lI(F:YZ K "fits" "fits" (top 33) f fd)(T:Txt K mg)(bu:bZ P w K mg base "is_whole" 1 Qx0 [] bW f_x0)(ku:bZ P w K mg base "may_name" 2 Qx5 [] X1 f_x5):aW P w K mg base CX0 3 f fd Qx6 (spV K [] 3 WD):=
 UZ P w K mg base Nx6 Qx6 2 NK [] F lR λ_ _ _ _ _ _ hr hu hu1=>by
  refine cT ?_ ?_
  ·exact(a8 (V2 hu (vv 0) cI)
   (cP (cJ (bP bu hr (cR (vv 1) (cR cV (cR (cN (bU (by rfl) T.v_MOST_WORD)) cO))))))
   b8)
  refine cT ?_ ?_
  ·exact(a8 (V2 hu (vv 0) cI)
   (cP (cJ (bP bu hr (cR (vv 1) (cR cV (cR (cN (bU (by rfl) T.v_MOST_PLACE)) cO))))))
   b8)
  exact cP (cJ (bP ku hr (cR (vv 1) (cR (vv 2) cO))))
noncomputable abbrev Nx7:List Uw:=["thing","able","deed","rest","parts"]
abbrev Qx7:List Uw:=["thing","able"]
theorem zAV:cG Nx7 Qx7 (cU (top 34)):=ZK
theorem nG(F:YZ K "is_row" "is_row" (top 34) f fd)(T:Txt K mg)(io:bZ P w K mg base "parts_of" 1 Qx1 [] aM f_x1)(kr:bZ P w K mg base "fits" 3 Qx6 [] WD f_x6):aW P w K mg base CX0 4 f fd Qx7 (spV K [] 2 V3):=
 UZ P w K mg base Nx7 Qx7 3 NL [] F zAV λ_ _ _ _ _ _ hr hu hu1=>by
  refine cT ?_ ?_
  ·exact(a8 (R6 (TD (YV (Z6 (GC T.n_isinstance (vv 0) (vty T.n_tuple XT)))) (WL (V2 hu (XD T.n_len (vv 0)) cV))))
   (cP (cJ YJ))
   b8)
  refine cT ?_ ?_
  ·exact(EN (i:=2) (j:=3) rfl rfl zAV.nd rfl rfl (by decide) (Gd rfl) (Gd rfl) (vv 0))
  refine cT ?_ ?_
  ·exact(bF zAV.nd (aF (cN (OP (Z6 (GC T.n_isinstance (vv 2) (vty T.n_str ro))) (bP io hr (cR (vv 2) cO)) UV))))
  refine cT ?_ ?_
  ·exact(a8 (R6 (TD (bA eR eS (vv 4) UV (Z4 _)) (WL (bA (NS (K:=K) rfl hu) OF (XD T.n_len (vv 4)) (XD T.n_len (vv 3)) (Z4 _)))))
   (cP (cJ YJ))
   b8)
  exact cP (cJ (Vw (kAll (K:=K) rfl rfl) fU (by rfl) T.n_all kW (bX (ZM ["able","part","given"] [1] 2 (Xh rfl (by rfl) T.n_zip (vv 4) (vv 3)) (λhn _ _ _ _=>⟨(WK (K:=K) rfl rfl (bB (bY hn) (bB (bY hn) XX))),W0,(cN (bP kr hr (cR (vv 1) (cR (vv 2) (cR (vv 0) cO)))))⟩)))))
noncomputable abbrev Nx8:List Uw:=["thing","sure","rows","able","row"]
abbrev Qx8:List Uw:=["thing"]
theorem HY:cG Nx8 Qx8 (cU (top 35)):=ZK
theorem oZ(F:YZ K "is_block" "is_block" (top 35) f fd)(T:Txt K mg)(bu:bZ P w K mg base "is_whole" 1 Qx0 [] bW f_x0)(ky:bZ P w K mg base "makes_word" 1 Qx2 [] Y6 f_x2)(kq:bZ P w K mg base "is_row" 4 Qx7 [] V3 f_x7):aW P w K mg base CX0 5 f fd Qx8 (spV K [] 1 aV):=
 UZ P w K mg base Nx8 Qx8 4 SG [] F HY λ_ _ _ _ _ _ hr hu hu1=>by
  refine cT ?_ ?_
  ·exact(a8 (R6 (TD (YV (Z6 (GC T.n_isinstance (vv 0) (vty T.n_tuple XT)))) (WL (bA (NS (K:=K) rfl hu) OF (XD T.n_len (vv 0)) cV (Z4 _)))))
   (cP (cJ YJ))
   b8)
  refine cT ?_ ?_
  ·exact(GD (vv 0) (WK (K:=K) rfl rfl (bB (bY HY.nd) (bB (bY HY.nd) XX))))
  refine cT ?_ ?_
  ·exact (a8 (YV (Z6 (bP bu hr (cR (vv 1) (cR cV (cR (cN (bU (by rfl) T.v_MOST_SURE)) cO))))))
   (cP (cJ YJ))
   b8)
  refine cT ?_ ?_
  ·exact (a8 (R6 (TD (YV (Z6 (GC T.n_isinstance (vv 2) (vty T.n_tuple XT)))) (WL (bA Xe s_gt (XD T.n_len (vv 2)) (bU (by rfl) T.v_MOST_ROWS) (Z4 _)))))
   (cP (cJ YJ))
   b8)
  refine cT ?_ ?_
  ·exact(bF HY.nd (VA (bH (cH cM))))
  refine cT ?_ ?_
  ·exact(UW Ef rfl (V1 rfl (vv 2)) (bY HY.nd)
   (cT (a8 (YV (Z6 (bP kq hr (cR (vv 4) (a7 (pv 3) cO)))))
   (cP (cJ YJ))
   b8)
   (cP (ZF (K:=K) rfl Bg Bi aP X5 (pv 3) (cH (cW (bP ky hr (cR (vv 4) cO)) cM))))))
  exact cP (cJ YJ)
abbrev Nx9:List Uw:=["block","row","rows"]
abbrev AO:List Uw:=["block","row"]
theorem EB:cG Nx9 AO (cU (top 36)):=ZK
theorem pK(F:YZ K "row_at" "row_at" (top 36) f fd)(T:Txt K mg)(bu:bZ P w K mg base "is_whole" 1 Qx0 [] bW f_x0)(cu:bZ P w K mg base "is_block" 5 Qx8 [] aV f_x8):aW P w K mg base CX0 6 f fd AO (spV K [] 2 YY):=
 UZ P w K mg base Nx9 AO 5 NP [] F EB λ_ _ _ _ _ _ hr hu hu1=>by
  refine cT ?_ ?_
  ·exact(a8 (YV (Z6 (bP cu hr (cR (vv 0) cO))))
   (cP R0)
   b8)
  refine cT ?_ ?_
  ·exact(bF EB.nd (aF (cN (ZI hu1 (vv 0) cV))))
  refine cT ?_ ?_
  ·exact(a8 (YV (Z6 (bP bu hr (cR (vv 1) (cR cV (cR (cN (YM UQ QA (XD T.n_len (vv 2)) cV)) cO))))))
   (cP R0)
   b8)
  exact cP (cJ (ZI hu1 (vv 2) (vv 1)))
theorem mV(F:YZ K "row_at" "row_at" (top 36) f fd)(T:Txt K mg)(bu:bZ P w K mg base "is_whole" 1 Qx0 [] bW f_x0)(cu:bZ P w K mg base "is_block" 5 Qx8 [] aV f_x8):aW P w K mg base (GH P w) 6 f fd AO (spX K 2 Y0):=
 okZ P w K mg base Nx9 AO 5 OU F EB λ_ _ _ _ _ _ hr hu hu1=>by
  exact(nX (YN (Vs (YV (Z6 (bP cu hr (cR (vv 0) cO)))) (YN (IJ rfl D8 rfl (by rfl) T.x_NoBlock)) GF))
   (EQ (a8 (YV (Z6 (bP cu hr (cR (vv 0) cO))))
   (cP R0)
   b8)
   (EQ (bF EB.nd (aF (cN (ZI hu1 (vv 0) cV))))
   (YN (Vs (YV (Z6 (bP bu hr (cR (vv 1) (cR cV (cR (cN (YM UQ QA (XD T.n_len (vv 2)) cV)) cO)))))) (YN (CP rfl gB rfl hr (by rfl) T.x_NoRow (λ_=>T.fnm _ _) (cR (vv 1) cO))) GF)))))
abbrev Nx10:List Uw:=["row"]
abbrev AM:List Uw:=["row"]
theorem gY:cG Nx10 AM (cU (top 38)):=ZK
theorem kH(F:YZ K "writes" "writes" (top 38) f fd)(T:Txt K mg):aW P w K mg base CX0 1 f fd AM (spV K [] 1 XR):=
 UZ P w K mg base Nx10 AM 0 GZ [] F gY λ_ _ _ _ _ _ hr hu hu1=>by exact(cP (cJ (YK (VN (K:=K) rfl hu) (ZD (neg:=false)) (ZI hu1 (vv 0) cV) (bU (by rfl) T.v_WRITERS) (by with_unfolding_all rfl))))
abbrev Nx11:List Uw:=["row"]
abbrev Qx11:List Uw:=["row"]
theorem jX:cG Nx11 Qx11 (cU (top 39)):=ZK
theorem oM(F:YZ K "is_safe_number" "is_safe_number" (top 39) f fd)(T:Txt K mg):aW P w K mg base CX0 1 f fd Qx11 (spV K [] 1 Y4):=
 UZ P w K mg base Nx11 Qx11 0 V6 [] F jX λ_ _ _ _ _ _ hr hu hu1=>by exact(cP (cJ (YI (veq hu (ZI hu1 (vv 0) cV) cI) (YL (YK (NS (K:=K) rfl hu) OF (ZI hu1 (vv 0) cV) cV (Z4 _))))))
noncomputable abbrev Nx12:List Uw:=["block","at","sure","rows","row","place"]
abbrev ES:List Uw:=["block","at"]
theorem OG:cG Nx12 ES (cU (top 40)):=ZK
theorem gS(F:YZ K "can_fault" "can_fault" (top 40) f fd)(T:Txt K mg)(gv:bZ P w K mg base "place_of" 1 Qx3 [] YU f_x3)(jr:bZ P w K mg base "is_safe_number" 1 Qx11 [] Y4 f_x11):aW P w K mg base CX0 2 f fd ES (spV K [] 2 ZT):=
 UZ P w K mg base Nx12 ES 1 P0 [] F OG λ_ _ _ _ _ _ hr hu hu1=>by
  refine cT ?_ ?_
  ·exact(GD (vv 0) (WK (K:=K) rfl rfl (bB (bY OG.nd) (bB (bY OG.nd) XX))))
  refine cT ?_ ?_
  ·exact(bF OG.nd (aF (cN (ZI hu1 (vv 3) (vv 1)))))
  refine cT ?_ ?_
  ·exact(a8 (V2 hu (ZI hu1 (vv 4) cV) cI)
   (cP (cJ (eO (bP jr hr (cR (cN (ZI hu1 (vv 3) (ZI hu1 (vv 4) cV))) cO)))))
   b8)
  refine cT ?_ ?_
  ·exact(bF OG.nd (aF (cN (bP gv hr (cR (vv 4) cO)))))
  exact cP (cJ (YI (YK oK jR (vv 5) UV (Z4 _)) (YL (YK Zf s_ge (vv 5) (vv 2) (Z4 _)))))
abbrev Nx13:List Uw:=["row","other"]
abbrev Qx13:List Uw:=["row","other"]
theorem gH:cG Nx13 Qx13 (cU (top 41)):=ZK
theorem gK(F:YZ K "share_written_cell" "share_written_cell" (top 41) f fd)(T:Txt K mg)(gv:bZ P w K mg base "place_of" 1 Qx3 [] YU f_x3)(cz:bZ P w K mg base "writes" 1 AM [] XR f_x10):aW P w K mg base CX0 2 f fd Qx13 (spV K [] 2 ZZ):=
 UZ P w K mg base Nx13 Qx13 1 XU [] F gH λ_ _ _ _ _ _ hr hu hu1=>by exact(cP (cJ (YI (veq hu (bP gv hr (cR (vv 0) cO)) (bP gv hr (cR (vv 1) cO))) (YL (Yi (bP cz hr (cR (vv 0) cO)) (YL (bP cz hr (cR (vv 1) cO))))))))
noncomputable abbrev Nx14:List Uw:=["block","first","second","rows","first_faults","second_faults"]
abbrev ET:List Uw:=["block","first","second"]
theorem F1:cG Nx14 ET (cU (top 42)):=ZK
theorem lY(F:YZ K "must_stay" "must_stay" (top 42) f fd)(T:Txt K mg)(kx:bZ P w K mg base "names_of" 2 Qx4 [] WS f_x4)(cz:bZ P w K mg base "writes" 1 AM [] XR f_x10)(cm:bZ P w K mg base "can_fault" 2 ES [] ZT f_x12)(jq:bZ P w K mg base "share_written_cell" 2 Qx13 [] ZZ f_x13):aW P w K mg base CX0 3 f fd ET (spV K [] 3 Y9):=
 UZ P w K mg base Nx14 ET 2 P4 [] F F1 λ_ _ _ _ _ _ hr hu hu1=>by
  refine cT ?_ ?_
  ·exact(bF F1.nd (aF (cN (ZI hu1 (vv 0) cV))))
  refine cT ?_ ?_
  ·exact (a8 (R6 (TD (bA (VN (K := K) rfl hu) (ZD (neg := false)) (vv 1) (bP kx hr (cR (cN (ZI hu1 (vv 3) (vv 2))) cO)) (by with_unfolding_all rfl)) (WL (Z6 (bP jq hr (cR (cN (ZI hu1 (vv 3) (vv 1))) (cR (cN (ZI hu1 (vv 3) (vv 2))) cO)))))))
   (cP (cJ YJ))
   b8)
  refine cT ?_ ?_
  ·exact(EM (i:=4) (j:=5) rfl F1.nd rfl rfl (by decide) rfl rfl (aF (cN (bP cm hr (cR (vv 0) (cR (vv 1) cO))))) (aF (cN (bP cm hr (cR (vv 0) (cR (vv 2) cO))))) rfl)
  refine cT ?_ ?_
  ·exact(a8 (R6 (KO (Z6 (vv 4)) (PJ (Z6 (vv 5)))))
   (cP (cJ YJ))
   b8)
  exact cP (cJ (Yi (YI (vv 4) (YL (bP cz hr (cR (cN (ZI hu1 (vv 3) (vv 2))) cO)))) (YL (YI (vv 5) (YL (bP cz hr (cR (cN (ZI hu1 (vv 3) (vv 1))) cO)))))))
noncomputable abbrev Nx15:List Uw:=["block","many","pairs"]
abbrev AN:List Uw:=["block"]
theorem F2:cG Nx15 AN (cU (top 43)):=ZK
theorem dF(F:YZ K "must_pairs" "must_pairs" (top 43) f fd)(T:Txt K mg)(cy:bZ P w K mg base "must_stay" 3 ET [] Y9 f_x14):aW P w K mg base CX0 4 f fd AN (spV K [] 1 X8):=
 UZ P w K mg base Nx15 AN 3 RF [] F F2 λ_ _ _ _ _ _ hr hu hu1=>by
  refine cT ?_ ?_
  ·exact(bF F2.nd (aF (cN (XD T.n_len (ZI hu1 (vv 0) cV)))))
  refine cT ?_ ?_
  ·exact(mT (i:=2) false F2.nd rfl rfl (N':=["many","first","second"]) (ix:=[1]) (nl:=2) rfl rfl (by rfl) rfl (by decide) (W4 (by rfl) T.n_range (vv 1)) (λcl s1 H1 fp=>⟨(bY (show(["many","first","second"]:List Uw).Nodup by decide+kernel)),W0,(MJ (by rfl) T.n_range (aH (X7 (K:=K) rfl) ZH (vv 1) cV) (vv 0)),(bY (show(["many","first","second"]:List Uw).Nodup by decide+kernel)),W0,(cN (bL (cW (vv 1) (cW (vv 2) cM))))⟩))
  exact cP (cJ (bX (ZM ["block","first","second"] [0] 2 (V1 rfl (vv 2)) (λhn _ _ _ _=>⟨(WK (K:=K) rfl rfl (bB (bY hn) (bB (bY hn) XX))),(OO (Z6 (bP cy hr (cR (vv 0) (cR (vv 1) (cR (vv 2) cO)))))),(cN (bL (cW (vv 1) (cW (vv 2) cM))))⟩))))
abbrev Nx16:List Uw:=["block","row"]
abbrev MN:List Uw:=["block","row"]
theorem Xl:cG Nx16 MN (cU (top 44)):=ZK
theorem oH(F:YZ K "may_fault" "may_fault" (top 44) f fd)(T:Txt K mg)(di:bZ P w K mg base "row_at" 6 AO [] YY f_x9)(cm:bZ P w K mg base "can_fault" 2 ES [] ZT f_x12):aW P w K mg base CX0 7 f fd MN (spV K [] 2 YR):=
 UZ P w K mg base Nx16 MN 6 UJ [] F Xl λ_ _ _ _ _ _ hr hu hu1=>by
  refine cT ?_ ?_
  ·exact(EL (bP di hr (cR (vv 0) (cR (vv 1) cO))))
  exact cP (cJ (bP cm hr (cR (vv 0) (cR (vv 1) cO))))
theorem rL(F:YZ K "may_fault" "may_fault" (top 44) f fd)(T:Txt K mg)(di:bZ P w K mg base "row_at" 6 AO [] YY f_x9)(cm:bZ P w K mg base "can_fault" 2 ES [] ZT f_x12)(dz:PM P w K mg base "row_at" 6 AO Y0 f_x9):aW P w K mg base (GH P w) 7 f fd MN (spX K 2 YS):=
 okZ P w K mg base Nx16 MN 6 UY F Xl λ_ _ _ _ _ _ hr hu hu1=>by exact(YN (EO (KP D7 rfl dz hr (by decide) (by rfl) rfl (cR (vv 0) (cR (vv 1) cO)))))
abbrev Nx17:List Uw:=["block"]
abbrev IW:List Uw:=["block"]
theorem Wf:cG Nx17 IW (cU (top 45)):=ZK
theorem mE(F:YZ K "must" "must" (top 45) f fd)(T:Txt K mg)(cu:bZ P w K mg base "is_block" 5 Qx8 [] aV f_x8)(gm:bZ P w K mg base "must_pairs" 4 AN [] X8 f_x15):aW P w K mg base CX0 6 f fd IW (spV K [] 1 IS):=
 UZ P w K mg base Nx17 IW 5 Xf [] F Wf λ_ _ _ _ _ _ hr hu hu1=>by
  refine cT ?_ ?_
  ·exact(a8 (YV (Z6 (bP cu hr (cR (vv 0) cO))))
   (cP R0)
   b8)
  exact cP (cJ (bP gm hr (cR (vv 0) cO)))
theorem jG(F:YZ K "must" "must" (top 45) f fd)(T:Txt K mg)(cu:bZ P w K mg base "is_block" 5 Qx8 [] aV f_x8)(gm:bZ P w K mg base "must_pairs" 4 AN [] X8 f_x15):aW P w K mg base (GH P w) 6 f fd IW (spX K 1 JA):=
 okZ P w K mg base Nx17 IW 5 Wr F Wf λ_ _ _ _ _ _ hr hu hu1=>by exact(YN (Vs (YV (Z6 (bP cu hr (cR (vv 0) cO)))) (YN (IJ rfl D8 rfl (by rfl) T.x_NoBlock)) GF))
noncomputable abbrev Nx18:List Uw:=["block","row","found","first"]
abbrev MO:List Uw:=["block","row"]
theorem KC:cG Nx18 MO (cU (top 46)):=ZK
theorem eC(F:YZ K "ahead" "ahead" (top 46) f fd)(T:Txt K mg)(di:bZ P w K mg base "row_at" 6 AO [] YY f_x9)(cy:bZ P w K mg base "must_stay" 3 ET [] Y9 f_x14):aW P w K mg base CX0 7 f fd MO (spV K [] 2 TU):=
 UZ P w K mg base Nx18 MO 6 JR [] F KC λ_ _ _ _ _ _ hr hu hu1=>by
  refine cT ?_ ?_
  ·exact(EL (bP di hr (cR (vv 0) (cR (vv 1) cO))))
  refine cT ?_ ?_
  ·exact(bF KC.nd (VA (bH (cH cM))))
  refine cT ?_ ?_
  ·exact (UW Ef rfl (fG (by rfl) T.n_range (by rfl) T.n_reversed (vv 1)) (bY KC.nd)
   (cP (a8 (Z6 (Vw (kAny (K:=K) rfl rfl) nZ (by rfl) T.n_any eN (bX (ZM ["block","first","later"] [0,3] 1 (V1 rfl (cN (aH (X7 (K:=K) rfl) ZH (vo 2) (bX (bH (cH (cW (vv 1) cM))))))) (λhn _ _ _ _=>⟨(bY hn),W0,(cN (bP cy hr (cR (vv 0) (cR (vv 1) (cR (vv 2) cO)))))⟩)))))
   (cP (ZF (K:=K) rfl Bg Bi aP X5 (pv 2) (cH (cW (vv 3) cM))))
   b8)))
  exact cP (cJ (bX (Xm (rV (K:=K) rfl) iB (by rfl) T.n_sorted K4 (EJ (vo 2)))))
theorem eM(F:YZ K "ahead" "ahead" (top 46) f fd)(T:Txt K mg)(di:bZ P w K mg base "row_at" 6 AO [] YY f_x9)(cy:bZ P w K mg base "must_stay" 3 ET [] Y9 f_x14)(dz:PM P w K mg base "row_at" 6 AO Y0 f_x9):aW P w K mg base (GH P w) 7 f fd MO (spX K 2 TW):=
 okZ P w K mg base Nx18 MO 6 KQ F KC λ_ _ _ _ _ _ hr hu hu1=>by exact(YN (EO (KP D7 rfl dz hr (by decide) (by rfl) rfl (cR (vv 0) (cR (vv 1) cO)))))
noncomputable abbrev Nx19:List Uw:=["_law_script","_law_k","_law_rest","_law_again"]
abbrev Qx19:List Uw:=["_law_script","_law_k"]
theorem KG:cG Nx19 Qx19 (cU (top 48)):=ZK
theorem lC(F:YZ K "_law_cell_at" "_law_cell_at" (top 48) f fd)(T:Txt K mg):aW P w K mg base CX0 1 f fd Qx19 (spV K [] 2 aB):=
 UZ P w K mg base Nx19 Qx19 0 WG [] F KG λ_ _ _ _ _ _ hr hu hu1=>by
  refine cT ?_ ?_
  ·exact(a8 (bA DP s_lt (vv 1) (XD T.n_len (vv 0)) (Z4 _))
   (cP (cJ (ZI hu1 (vv 0) (vv 1))))
   b8)
  refine cT ?_ ?_
  ·exact(a8 (V2 hu (vv 0) (bX (bH (cH cM))))
   (cP (cJ cV))
   b8)
  refine cT ?_ ?_
  ·exact(bF KG.nd (aF (cN (ZI hu1 (vv 0) (YM UP P9 (vv 1) (XD T.n_len (vv 0)))))))
  refine cT ?_ ?_
  ·exact (UW Ef rfl (W4 (by rfl) T.n_range (YH (AZ rfl) kO (by rfl) T.n_min fH (YM DO Wq (vv 1) (XD T.n_len (vv 0))) cV)) (bY KG.nd)
   (cP (bF KG.nd (aF (cN (YM DO Wq (vv 2) cV))))))
  exact cP (cJ (aH (X7 (K:=K) rfl) ZH (aH (X7 (K:=K) rfl) ZH (aH (JV (K:=K) rfl) OY (ZI hu1 (vv 0) (YM UP P9 (vv 1) (XD T.n_len (vv 0)))) cV) (vv 1)) (aH (JV (K:=K) rfl) OY (vv 2) cV)))
noncomputable abbrev Nx20:List Uw:=["_law_script","_law_k","_law_bound","_law_drawn"]
abbrev Qx20:List Uw:=["_law_script","_law_k","_law_bound"]
theorem zB0:cG Nx20 Qx20 (cU (top 49)):=ZK
theorem pG(F:YZ K "_law_mixed" "_law_mixed" (top 49) f fd)(T:Txt K mg)(jk:bZ P w K mg base "_law_cell_at" 1 Qx19 [] aB f_x19):aW P w K mg base CX0 2 f fd Qx20 (spV K [] 3 YO):=
 UZ P w K mg base Nx20 Qx20 1 UH [] F zB0 λ_ _ _ _ _ _ hr hu hu1=>by
  refine cT ?_ ?_
  ·exact(bF zB0.nd (aF (cN (YM UP P9 (aH (X7 (K:=K) rfl) ZH (aH (X7 (K:=K) rfl) ZH (aH (JV (K:=K) rfl) OY (bP jk hr (cR (vv 0) (cR (vv 1) cO))) cV) (aH (JV (K:=K) rfl) OY cV (vv 1))) cV) cV))))
  exact cP (cJ (YM UP P9 (YM UP P9 (YM UP P9 (YM pQ rW (vv 3) cV) cV) cV) (vv 2)))
abbrev Nx21:List Uw:=["_law_script","_law_town","_law_bound"]
abbrev GI:List Uw:=["_law_script","_law_town","_law_bound"]
theorem jN:cG Nx21 GI (cU (top 50)):=ZK
theorem rR(F:YZ K "_law_draw" "_law_draw" (top 50) f fd)(T:Txt K mg)(jj:bZ P w K mg base "_law_mixed" 2 Qx20 [] YO f_x20):aW P w K mg base CX0 3 f fd GI (spV K [1] 3 bR):=
 UZ P w K mg base Nx21 GI 2 SI [1] F jN λ_ _ _ _ _ _ hr hu hu1=>by
  refine cT ?_ ?_
  ·exact(ZF (K:=K) rfl Bg Bi aP X5 (pv 1) (cH (cW cV cM)))
  exact cP (cJ (bP jj hr (cR (vv 0) (cR (cN (XD T.n_len (vo 1))) (cR (vv 2) cO)))))
abbrev Nx22:List Uw:=["_law_script","_law_town","_law_some"]
abbrev M4:List Uw:=["_law_script","_law_town","_law_some"]
theorem rq:cG Nx22 M4 (cU (top 51)):=ZK
theorem lL(F:YZ K "_law_pick" "_law_pick" (top 51) f fd)(T:Txt K mg)(aq:bZ P w K mg base "_law_draw" 3 GI [1] bR f_x21):aW P w K mg base CX0 4 f fd M4 (spV K [1] 3 bS):=
 UZ P w K mg base Nx22 M4 3 SM [1] F rq λ_ _ _ _ _ _ hr hu hu1=>by exact(cP (cJ (ZI hu1 (vv 2) (bP aq hr (cR (vv 0) (a7 (pv 1) (cR (cN (XD T.n_len (vv 2))) cO)))))))
noncomputable abbrev Nx23:List Uw:=["_law_script","_law_town","_law_seen","_law_deed","_law_room"]
abbrev Qx23:List Uw:=["_law_script","_law_town","_law_seen","_law_deed","_law_room"]
theorem oU:cG Nx23 Qx23 (cU (top 52)):=ZK
theorem eX(F:YZ K "_law_place" "_law_place" (top 52) f fd)(T:Txt K mg)(aq:bZ P w K mg base "_law_draw" 3 GI [1] bR f_x21)(am:bZ P w K mg base "_law_pick" 4 M4 [1] bS f_x22):aW P w K mg base CX0 5 f fd Qx23 (spV K [1,2] 5 aJ):=
 UZ P w K mg base Nx23 Qx23 4 UI [1,2] F oU λ_ _ _ _ _ _ hr hu hu1=>by
  refine cT ?_ ?_
  ·exact(EK hu1 (pv 2) (vv 3) (cN (YM UP P9 (aH (X7 (K:=K) rfl) ZH (eF hu1 (pv 2) (vv 3) (cN (bP aq hr (cR (vv 0) (a7 (pv 1) (cR (vv 4) cO))))) ⟨rfl,rfl,rfl,rfl⟩) (bP am hr (cR (vv 0) (a7 (pv 1) (cR (bX (bH (cH (cW cV (cW cV (cW cV (cW cV (cW cV cM)))))))) cO))))) (vv 4))) rfl)
  exact cP (cJ (ZI hu1 (vo 2) (vv 3)))
noncomputable abbrev Nx24:List Uw:=["_law_script","_law_town","_law_made","_law_seen","_law_room","_law_kind","_law_a","_law_b","_law_c"]
abbrev Qx24:List Uw:=["_law_script","_law_town","_law_made","_law_seen","_law_room"]
theorem OH:cG Nx24 Qx24 (cU (top 53)):=ZK
theorem gP(F:YZ K "_law_row" "_law_row" (top 53) f fd)(T:Txt K mg)(aq:bZ P w K mg base "_law_draw" 3 GI [1] bR f_x21)(am:bZ P w K mg base "_law_pick" 4 M4 [1] bS f_x22)(dg:bZ P w K mg base "_law_place" 5 Qx23 [1,2] aJ f_x23):aW P w K mg base CX0 6 f fd Qx24 (spV K [1,3] 5 W1):=
 UZ P w K mg base Nx24 Qx24 5 QO [1,3] F OH λ_ _ _ _ _ _ hr hu hu1=>by
  refine cT ?_ ?_
  ·exact(bF OH.nd (aF (cN (bP aq hr (cR (vv 0) (a7 (pv 1) (cR cV cO)))))))
  refine cT ?_ ?_
  ·exact(a8 (R6 (TD (V2 hu (vv 2) (bX (bH (cH cM)))) (WL (V2 hu (vv 5) cV))))
   (cT (a8 (V2 hu (bP aq hr (cR (vv 0) (a7 (pv 1) (cR cV cO)))) cV)
   (cP (cJ (bL (cW cI (cW (bP am hr (cR (vv 0) (a7 (pv 1) (cR (bX (bH (cH (cW cV (cW cV (cW cV (cW cV (cW cV (cW (bP aq hr (cR (vv 0) (a7 (pv 1) (cR cV cO)))) cM))))))))) cO)))) cM)))))
   b8)
   (cP (cJ (bL (cW cI (cW (bP dg hr (cR (vv 0) (a7 (pv 1) (a7 (pv 3) (cR cI (cR (vv 4) cO)))))) cM))))))
   b8)
  refine cT ?_ ?_
  ·exact(GD (bX (ZM ["_law_script","_law_town","_law_made","_law_k"] [0,1,2] 1 (W4 (by rfl) T.n_range cV) (λhn _ _ _ _=>⟨(bY hn),W0,(cN (ZI hu1 (vv 2) (YH (AY rfl) jP (by rfl) T.n_max rQ cV (YM UQ QA (YM UQ QA (XD T.n_len (vv 2)) cV) (bP aq hr (cR (vv 0) (a7 (pv 1) (cR cV cO))))))))⟩))) (WK (K:=K) rfl rfl (bB (bY OH.nd) (bB (bY OH.nd) (bB (bY OH.nd) XX)))))
  refine cT ?_ ?_
  ·exact (a8 (bA (VN (K := K) rfl hu) (ZD (neg := false)) (vv 5) (bL (cW cV (cW cV cM))) (by with_unfolding_all rfl))
   (cP (cJ (bL (cW cI (cW (bP dg hr (cR (vv 0) (a7 (pv 1) (a7 (pv 3) (cR cI (cR (vv 4) cO)))))) cM)))))
   b8)
  refine cT ?_ ?_
  ·exact(a8 (V2 hu (vv 5) cV)
   (cP (cJ (bL (cW cI (cW (bP dg hr (cR (vv 0) (a7 (pv 1) (a7 (pv 3) (cR cI (cR (vv 4) cO)))))) (cW (vv 8) (cW (vv 6) cM)))))))
   b8)
  refine cT ?_ ?_
  ·exact (a8 (bA (VN (K := K) rfl hu) (ZD (neg := false)) (vv 5) (bL (cW cV (cW cV cM))) (by with_unfolding_all rfl))
   (cP (cJ (bL (cW cI (cW (bP dg hr (cR (vv 0) (a7 (pv 1) (a7 (pv 3) (cR cI (cR (vv 4) cO)))))) (cW (vv 6) cM))))))
   b8)
  refine cT ?_ ?_
  ·exact(a8 (V2 hu (vv 5) cV)
   (cP (cJ (bL (cW cI (cW (bP dg hr (cR (vv 0) (a7 (pv 1) (a7 (pv 3) (cR cI (cR (vv 4) cO)))))) (cW (vv 6) (cW (vv 8) cM)))))))
   b8)
  refine cT ?_ ?_
  ·exact(a8 (V2 hu (vv 5) cV)
   (cP (cJ (bL (cW cI (cW (vv 8) (cW (vv 6) (cW (vv 7) cM)))))))
   b8)
  exact cP (cJ (bL (cW (ZI hu1 (bX (bH (cH (cW cI (cW cI (cW cI (cW cI (cW cI (cW cI (cW cI cM)))))))))) (bP aq hr (cR (vv 0) (a7 (pv 1) (cR cV cO))))) (cW (vv 6) (cW (vv 7) cM)))))
noncomputable abbrev Nx26:List Uw:=["_law_script","_law_town","_law_rows_here","_law_made","_law_seen","_law_room","_law_last","_law_first","_law_names_here","_law_name","_law_at"]
abbrev Qx26:List Uw:=["_law_script","_law_town","_law_rows_here","_law_made","_law_seen","_law_room"]
theorem QX:cG Nx26 Qx26 (cU (top 55)):=ZK
theorem dG(F:YZ K "_law_next" "_law_next" (top 55) f fd)(T:Txt K mg)(am:bZ P w K mg base "_law_pick" 4 M4 [1] bS f_x22):aW P w K mg base CX0 5 f fd Qx26 (spV K [1,4] 6 ZO):=
 UZ P w K mg base Nx26 Qx26 4 VL [1,4] F QX λ_ _ _ _ _ _ hr hu hu1=>by
  refine cT ?_ ?_
  ·exact(bF QX.nd (aF (cN (ZI hu1 (vv 2) (V0 cV)))))
  refine cT ?_ ?_
  ·exact(bF QX.nd (aF (cN (OP (bA (VN (K:=K) rfl hu) (ZD (neg:=false)) (ZI hu1 (vv 6) cV) (bL (cW cI (cW cI (cW cI (cW cI cM))))) (by with_unfolding_all rfl)) cV cV))))
  refine cT ?_ ?_
  ·exact(bF QX.nd (VA (bH (cH cM))))
  refine cT ?_ ?_
  ·exact(UW Ef rfl (V1 rfl (cN (QB rfl (vv 6) (QD (vv 7)) QC))) (bY QX.nd)
   (cT (bF QX.nd (aF (cN (aH (X7 (K:=K) rfl) ZH (pD rfl (vv 3) (vv 9)) (bP am hr (cR (vv 0) (a7 (pv 1) (cR (bX (bH (cH (cW cV (cW cV (cW cV (cW cV (cW (V0 cV) (cW cV (cW cV cM)))))))))) cO))))))))
   (cP (ZF (K:=K) rfl Bg Bi aP X5 (pv 8) (cH (cW (OP (R6 (KO (gI Vu DP s_le s_lt cV (vv 10) (XD T.n_len (vv 3))) (PJ (bA (NS (K:=K) rfl hu) OF (ZI hu1 (vv 3) (vv 10)) (YM UQ QA (XD T.n_len (vv 2)) cV) (Z4 _))))) (ZI hu1 (vv 3) (vv 10)) (vv 9)) cM))))))
  refine cT ?_ ?_
  ·exact(a8 (V2 hu (vv 7) cV)
   (cP (cJ (aH (X7 (K:=K) rfl) ZH (QB rfl (vv 6) QC (QD cV)) (IH (RM (K:=K) rfl) RA (by rfl) T.n_tuple XT (vo 8)))))
   b8)
  refine cT ?_ ?_
  ·exact(EK hu1 (pv 4) (ZI hu1 (vv 6) cV) (cN (YM UP P9 (aH (X7 (K:=K) rfl) ZH (ZI hu1 (vv 6) cV) cV) (vv 5))) rfl)
  exact cP (cJ (aH (X7 (K:=K) rfl) ZH (bL (cW (ZI hu1 (vv 6) cV) (cW (ZI hu1 (vo 4) (ZI hu1 (vv 6) cV)) cM))) (IH (RM (K:=K) rfl) RA (by rfl) T.n_tuple XT (vo 8))))
noncomputable abbrev Nx25:List Uw:=["_law_script","_law_town","_law_many","_law_room","_law_rows_here","_law_made","_law_seen","_law_again"]
abbrev Qx25:List Uw:=["_law_script","_law_town","_law_many","_law_room"]
theorem F3:cG Nx25 Qx25 (cU (top 54)):=ZK
theorem iJ(F:YZ K "_law_rows" "_law_rows" (top 54) f fd)(T:Txt K mg)(am:bZ P w K mg base "_law_pick" 4 M4 [1] bS f_x22)(ji:bZ P w K mg base "_law_row" 6 Qx24 [1,3] W1 f_x24)(jg:bZ P w K mg base "_law_next" 5 Qx26 [1,4] ZO f_x26):aW P w K mg base CX0 7 f fd Qx25 (spV K [1] 4 X0):=
 UZ P w K mg base Nx25 Qx25 6 SN [1] F F3 λ_ _ _ _ _ _ hr hu hu1=>by
  refine cT ?_ ?_
  ·exact(kD (i:=4) (j:=5) (k:=6) rfl F3.nd rfl rfl rfl (by decide) (by decide) (by decide) rfl rfl rfl (VA (bH (cH cM))) (VA (bH (cH cM))) (VA pH) rfl)
  refine cT ?_ ?_
  ·exact(II Ef (bA DP s_lt (XD T.n_len (vo 4)) (vv 2) (Z4 _))
   (cT (ZF (K:=K) rfl Bg Bi aP X5 (pv 4) (cH (cW (bP ji hr (cR (vv 0) (a7 (pv 1) (a7 (pv 5) (a7 (pv 6) (cR (vv 3) cO)))))) cM)))
   (cT (a8 (bA (PB (K:=K) rfl hu) (ZD (neg:=true)) (ZI hu1 (ZI hu1 (vo 4) (V0 cV)) cV) (bL (cW cI (cW cI cM))) (by with_unfolding_all rfl))
   (cP (ZF (K:=K) rfl Bg Bi aP X5 (pv 5) (cH (cW (YM UQ QA (XD T.n_len (vo 4)) cV) cM))))
   b8)
   (cP (UW Ef rfl (W4 (by rfl) T.n_range (bP am hr (cR (vv 0) (a7 (pv 1) (cR (bX (bH (cH (cW cV (cW cV (cW cV (cW cV (cW cV cM)))))))) cO))))) (bY F3.nd)
   (cP (a8 (R6 (KO (bA DP s_lt (XD T.n_len (vo 4)) (vv 2) (Z4 _)) (PJ (bA (NS (K:=K) rfl hu) OF (ZI hu1 (ZI hu1 (vo 4) (V0 cV)) cV) cI (Z4 _)))))
   (cT (ZF (K:=K) rfl Bg Bi aP X5 (pv 4) (cH (cW (bP jg hr (cR (vv 0) (a7 (pv 1) (a7 (pv 4) (a7 (pv 5) (a7 (pv 6) (cR (vv 3) cO))))))) cM)))
   (cP (a8 (bA (PB (K:=K) rfl hu) (ZD (neg:=true)) (ZI hu1 (ZI hu1 (vo 4) (V0 cV)) cV) (bL (cW cI (cW cI cM))) (by with_unfolding_all rfl))
   (cP (ZF (K:=K) rfl Bg Bi aP X5 (pv 5) (cH (cW (YM UQ QA (XD T.n_len (vo 4)) cV) cM))))
   b8)))
   b8)))))))
  exact cP (cJ (IH (RM (K:=K) rfl) RA (by rfl) T.n_tuple XT (vo 4)))
abbrev Nx28:List Uw:=["_law_row_here"]
abbrev Qx28:List Uw:=["_law_row_here"]
theorem nP:cG Nx28 Qx28 (cU (top 57)):=ZK
theorem mL(F:YZ K "_law_names" "_law_names" (top 57) f fd)(T:Txt K mg):aW P w K mg base CX0 1 f fd Qx28 (spV K [] 1 aC):=
 UZ P w K mg base Nx28 Qx28 0 P1 [] F nP λ_ _ _ _ _ _ hr hu hu1=>by
  refine cT ?_ ?_
  ·exact(a8 (V2 hu (ZI hu1 (vv 0) cV) cI)
   (cP (cJ (bX (bH (cH cM)))))
   b8)
  exact cP (cJ (OP (bA (VN (K:=K) rfl hu) (ZD (neg:=false)) (ZI hu1 (vv 0) cV) (bL (cW cI (cW cI (cW cI (cW cI cM))))) (by with_unfolding_all rfl)) (bX (Yk (Xg (K:=K) rfl) QT (by rfl) T.QT JD (EJ (QB rfl (vv 0) (QD cV) QC)))) (bX (Yk (Xg (K:=K) rfl) QT (by rfl) T.QT JD (EJ (QB rfl (vv 0) (QD cV) QC))))))
noncomputable abbrev Nx29:List Uw:=["_law_block_here","_law_row_here","_law_here"]
abbrev Qx29:List Uw:=["_law_block_here","_law_row_here"]
theorem zAZ:cG Nx29 Qx29 (cU (top 58)):=ZK
theorem jI(F:YZ K "_law_may" "_law_may" (top 58) f fd)(T:Txt K mg):aW P w K mg base CX0 1 f fd Qx29 (spV K [] 2 Y5):=
 UZ P w K mg base Nx29 Qx29 0 QN [] F zAZ λ_ _ _ _ _ _ hr hu hu1=>by
  refine cT ?_ ?_
  ·exact(bF zAZ.nd (aF (cN (ZI hu1 (ZI hu1 (vv 0) cV) (vv 1)))))
  refine cT ?_ ?_
  ·exact (a8 (bA (VN (K := K) rfl hu) (ZD (neg := false)) (ZI hu1 (vv 2) cV) (bL (cW cI (cW cI (cW cI (cW cI cM))))) (by with_unfolding_all rfl))
   (cP (cJ (YK Zf s_ge (ZI hu1 (vv 2) cV) (ZI hu1 (vv 0) cV) (Z4 _))))
   b8)
  exact cP (cJ (YI (veq hu (ZI hu1 (vv 2) cV) cI) (YL (YK (PB (K:=K) rfl hu) (ZD (neg:=true)) (QB rfl (ZI hu1 (ZI hu1 (vv 0) cV) (ZI hu1 (vv 2) cV)) QC (QD cV)) (bX (ZM ["_law_k"] [] 1 (MJ (by rfl) T.n_range cV cV) (λhn _ _ _ _=>⟨(bY hn),W0,(cN (bL (cW cI (cW (vv 0) cM))))⟩))) (by with_unfolding_all rfl)))))
noncomputable abbrev Nx30:List Uw:=["_law_block_here","_law_made","_law_cells","_law_two","_law_there","_law_one","_law_here","_law_writes","_law_reasons"]
abbrev Qx30:List Uw:=["_law_block_here"]
theorem UT:cG Nx30 Qx30 (cU (top 59)):=ZK
theorem gT(F:YZ K "_law_must" "_law_must" (top 59) f fd)(T:Txt K mg)(je:bZ P w K mg base "_law_names" 1 Qx28 [] aC f_x28)(dw:bZ P w K mg base "_law_may" 1 Qx29 [] Y5 f_x29):aW P w K mg base CX0 2 f fd Qx30 (spV K [] 1 XY):=
 UZ P w K mg base Nx30 Qx30 1 SJ [] F UT λ_ _ _ _ _ _ hr hu hu1=>by
  refine cT ?_ ?_
  ·exact(EM (i:=1) (j:=2) rfl UT.nd rfl rfl (by decide) rfl rfl (VA (bH (cH cM))) (aF (cN (bL (cW cI (cW cI (cW cI (cW cI cM))))))) rfl)
  refine cT ?_ ?_
  ·exact (UW Ef rfl (KN rfl (by rfl) T.n_enumerate (cN (ZI hu1 (vv 0) cV))) (WK (K := K) rfl rfl (bB (bY UT.nd) (bB (bY UT.nd) XX)))
   (cP (UW Ef rfl (KN rfl (by rfl) T.n_enumerate (cN (QB rfl (ZI hu1 (vv 0) cV) QC (QD (vv 3))))) (WK (K:=K) rfl rfl (bB (bY UT.nd) (bB (bY UT.nd) XX)))
   (cT (Zx false UT.nd ["_law_row_here"] [] 1 (V1 rfl (cN (bL (cW (vv 6) (cW (vv 4) cM))))) (λhn _ _ _ _=>⟨(bY hn),(OO (bA (VN (K:=K) rfl hu) (ZD (neg:=false)) (ZI hu1 (vv 0) cV) (bL (cW cI (cW cI cM))) (by with_unfolding_all rfl))),(vv 0)⟩))
   (cT (bF UT.nd (VA (bH (cH (cW (YK (VN (K:=K) rfl hu) (ZD (neg:=false)) (vv 5) (bP je hr (cR (vv 4) cO)) (by with_unfolding_all rfl)) (cW (YI (bP dw hr (cR (vv 0) (cR (vv 5) cO))) (YL (bP dw hr (cR (vv 0) (cR (vv 3) cO))))) cM))))))
   (cT (ZF (K:=K) rfl Bg Bi aP X5 (pv 8) (cH (cW (YI (YK (VN (K:=K) rfl hu) (ZD (neg:=false)) (ZI hu1 (vv 6) cV) (vv 2) (by with_unfolding_all rfl)) (YI (YK (VN (K:=K) rfl hu) (ZD (neg:=false)) (ZI hu1 (vv 4) cV) (vv 2) (by with_unfolding_all rfl)) (YI (veq hu (ZI hu1 (vv 6) cV) (ZI hu1 (vv 4) cV)) (YL (YK (NS (K:=K) rfl hu) OF (vv 7) (bX (bH (cH cM))) (Z4 _)))))) cM)))
   (cT (ZF (K:=K) rfl Bg Bi aP X5 (pv 8) (cH (cW (YI (bP dw hr (cR (vv 0) (cR (vv 5) cO))) (YL (YK (VN (K:=K) rfl hu) (ZD (neg:=false)) (ZI hu1 (vv 4) cV) (bL (cW cI (cW cI cM))) (by with_unfolding_all rfl)))) cM)))
   (cT (ZF (K:=K) rfl Bg Bi aP X5 (pv 8) (cH (cW (YI (bP dw hr (cR (vv 0) (cR (vv 3) cO))) (YL (YK (VN (K:=K) rfl hu) (ZD (neg:=false)) (ZI hu1 (vv 6) cV) (bL (cW cI (cW cI cM))) (by with_unfolding_all rfl)))) cM)))
   (cP (a8 (bA (VN (K:=K) rfl hu) (ZD (neg:=false)) YJ (vo 8) (by with_unfolding_all rfl))
   (cP (ZF (K:=K) rfl Bg Bi aP X5 (pv 1) (cH (cW (bL (cW (vv 5) (cW (vv 3) cM))) cM))))
   b8))))))))))
  exact cP (cJ (bX (Xm (dI (K:=K) rfl) kB (by rfl) T.n_sorted K4 (EJ (vo 1)))))
noncomputable abbrev Nx33:List Uw:=["_law_script","_law_town","_law_block_here","_law_pairs","_law_left","_law_made","_law_ready"]
abbrev Qx33:List Uw:=["_law_script","_law_town","_law_block_here"]
theorem F4:cG Nx33 Qx33 (cU (top 62)):=ZK
theorem qD(F:YZ K "_law_mixed_order" "_law_mixed_order" (top 62) f fd)(T:Txt K mg)(am:bZ P w K mg base "_law_pick" 4 M4 [1] bS f_x22)(jd:bZ P w K mg base "_law_must" 2 Qx30 [] XY f_x30):aW P w K mg base CX0 5 f fd Qx33 (spV K [1] 3 aI):=
 UZ P w K mg base Nx33 Qx33 4 YD [1] F F4 λ_ _ _ _ _ _ hr hu hu1=>by
  refine cT ?_ ?_
  ·exact(mJ (i:=3) (j:=4) (k:=5) rfl rfl F4.nd rfl rfl rfl (by decide) (by decide) (by decide) (Et rfl) (Et rfl) (Gd rfl) (aF (cN (bP jd hr (cR (vv 2) cO)))) (VA (CO rfl (by rfl) T.QT JD (by rfl) T.n_range nE (XD T.n_len (ZI hu1 (vv 2) cV)))) (VA (bH (cH cM))))
  refine cT ?_ ?_
  ·exact(II Ef (bA (NS (K:=K) rfl hu) OF (vo 4) (bX (bH (cH cM))) (Z4 _))
   (cT (Zr false F4.nd ["_law_pairs","_law_left","_law_row_here"] [3,4] 1 (jL rfl (vo 4)) (λhn _ _ _ _=>⟨(bY hn),(OO (V2 hu (bX (ZM ["_law_left","_law_row_here","_law_one","_law_two"] [1,2] 2 (V1 rfl (vv 0)) (λhn _ _ _ _=>⟨(WK (K:=K) rfl rfl (bB (bY hn) (bB (bY hn) XX))),(OO (R6 (KO (V2 hu (vv 3) (vv 1)) (PJ (bA (VN (K:=K) rfl hu) (ZD (neg:=false)) (vv 2) (vo 0) (by with_unfolding_all rfl)))))),cV⟩))) (bX (bH (cH cM))))),(vv 2)⟩))
   (cT (ZF (K:=K) rfl Bg Bi aP X5 (pv 5) (cH (cW (bP am hr (cR (vv 0) (a7 (pv 1) (cR (vv 6) cO)))) cM)))
   (cP (ZF (K:=K) rfl PySem.F.slot_list_remove PySem.F.type_list_remove BU mC (pv 4) (cH (cW (ZI hu1 (vo 5) (V0 cV)) cM)))))))
  exact cP (hJ (pv 5))
abbrev Nx34:List Uw:=["_law_row_here","_law_names_here","_law_first"]
abbrev Qx34:List Uw:=["_law_row_here","_law_names_here"]
theorem zAX:cG Nx34 Qx34 (cU (top 63)):=ZK
theorem oT(F:YZ K "_law_renamed" "_law_renamed" (top 63) f fd)(T:Txt K mg):aW P w K mg base CX0 1 f fd Qx34 (spV K [] 2 bV):=
 UZ P w K mg base Nx34 Qx34 0 aL [] F zAX λ_ _ _ _ _ _ hr hu hu1=>by
  refine cT ?_ ?_
  ·exact(a8 (V2 hu (ZI hu1 (vv 0) cV) cI)
   (cP (cJ (vv 0)))
   b8)
  refine cT ?_ ?_
  ·exact(bF zAX.nd (aF (cN (OP (bA (VN (K:=K) rfl hu) (ZD (neg:=false)) (ZI hu1 (vv 0) cV) (bL (cW cI (cW cI (cW cI (cW cI cM))))) (by with_unfolding_all rfl)) cV cV))))
  exact cP (cJ (aH (X7 (K:=K) rfl) ZH (QB rfl (vv 0) QC (QD (vv 2))) (IH (RM (K:=K) rfl) RA (by rfl) T.n_tuple XT (bX (ZM ["_law_names_here","_law_name"] [1] 1 (V1 rfl (cN (QB rfl (vv 0) (QD (vv 2)) QC))) (λhn _ _ _ _=>⟨(bY hn),W0,(cN (ZI hu1 (vv 0) (vv 1)))⟩))))))
noncomputable abbrev Nx27:List Uw:=["_law_script","_law_town","_law_most","_law_room","_law_sure","_law_block_here","_law_order_there","_law_names_here"]
abbrev Qx27:List Uw:=["_law_script","_law_town","_law_most"]
theorem QY:cG Nx27 Qx27 (cU (top 56)):=ZK
theorem kR(F:YZ K "_law_block" "_law_block" (top 56) f fd)(T:Txt K mg)(aq:bZ P w K mg base "_law_draw" 3 GI [1] bR f_x21)(am:bZ P w K mg base "_law_pick" 4 M4 [1] bS f_x22)(jh:bZ P w K mg base "_law_rows" 7 Qx25 [1] X0 f_x25)(jb:bZ P w K mg base "_law_mixed_order" 5 Qx33 [1] aI f_x33)(ja:bZ P w K mg base "_law_renamed" 1 Qx34 [] bV f_x34):aW P w K mg base CX0 8 f fd Qx27 (spV K [1] 3 ZU):=
 UZ P w K mg base Nx27 Qx27 7 WN [1] F QY λ_ _ _ _ _ _ hr hu hu1=>by
  refine cT ?_ ?_
  ·exact(bF QY.nd (aF (cN (bP am hr (cR (vv 0) (a7 (pv 1) (cR (bX (bH (cH (cW cV (cW cV (cW cV (cW cV cM))))))) cO)))))))
  refine cT ?_ ?_
  ·exact(bF QY.nd (aF (cN (bP am hr (cR (vv 0) (a7 (pv 1) (cR (bX (bH (cH (cW cV (cW (vv 3) (cW (vv 3) (cW (bP aq hr (cR (vv 0) (a7 (pv 1) (cR (cN (aH (X7 (K:=K) rfl) ZH (vv 3) cV)) cO)))) cM))))))) cO)))))))
  refine cT ?_ ?_
  ·exact(bF QY.nd (aF (cN (bL (cW (vv 4) (cW (bP jh hr (cR (vv 0) (a7 (pv 1) (cR (cN (bP aq hr (cR (vv 0) (a7 (pv 1) (cR (cN (aH (X7 (K:=K) rfl) ZH (vv 2) cV)) cO))))) (cR (vv 3) cO))))) cM))))))
  refine cT ?_ ?_
  ·exact(a8 (bA Xe s_gt (bP aq hr (cR (vv 0) (a7 (pv 1) (cR cV cO)))) cV (Z4 _))
   (cP (cJ (vv 5)))
   b8)
  refine cT ?_ ?_
  ·exact(bF QY.nd (aF (cN (bP jb hr (cR (vv 0) (a7 (pv 1) (cR (vv 5) cO)))))))
  refine cT ?_ ?_
  ·exact(bF QY.nd (aF (bX (CN rfl rfl (by rfl) T.n_dict dN (bX (ZM ["_law_number","_law_row_here"] [] 2 (KN rfl (by rfl) T.n_enumerate (vv 6)) (λhn _ _ _ _=>⟨(WK (K:=K) rfl rfl (bB (bY hn) (bB (bY hn) XX))),W0,(cN (bL (cW (vv 1) (cW (vv 0) cM))))⟩)))))))
  exact cP (cJ (bL (cW (vv 4) (cW (IH (RM (K:=K) rfl) RA (by rfl) T.n_tuple XT (bX (ZM ["_law_block_here","_law_names_here","_law_row_here"] [5,7] 1 (V1 rfl (vv 6)) (λhn _ _ _ _=>⟨(bY hn),W0,(cN (bP ja hr (cR (cN (ZI hu1 (ZI hu1 (vv 0) cV) (vv 2))) (cR (vv 1) cO))))⟩)))) cM))))
abbrev Nx31:List Uw:=["_law_e","_law_own"]
abbrev Qx31:List Uw:=["_law_e"]
theorem zAY:cG Nx31 Qx31 (cU (top 60)):=ZK
theorem gV(F:YZ K "_law_which" "_law_which" (top 60) f fd)(T:Txt K mg):FnH P w K mg base 1 f fd Qx31 (spV K [] 1 YQ):=
 okWH P w K mg base Nx31 Qx31 0 P2 [] F zAY λ_ _ _ _ _ hr hu hu1=>by
  refine cT ?_ ?_
  ·exact(bF zAY.nd (VA (bH (cH (cW (YH (TK (K:=K) rfl) (XJ T.xi) (by rfl) T.n_isinstance b7 (vv 0) (bU (by rfl) T.v_NoBlock)) (cW (YH (TK (K:=K) rfl) (XJ T.xi) (by rfl) T.n_isinstance b7 (vv 0) (bU (by rfl) T.v_NoCells)) (cW (YH (TK (K:=K) rfl) (XJ T.xi) (by rfl) T.n_isinstance b7 (vv 0) (bU (by rfl) T.v_NoRow)) (cW (YH (TK (K:=K) rfl) (XJ T.xi) (by rfl) T.n_isinstance b7 (vv 0) (bU (by rfl) T.v_NoLanes)) cM))))))))
  refine cT ?_ ?_
  ·exact(ZF (K:=K) rfl Hr Hs (Wb (K:=K) rfl) FA (pv 1) (cH (cW (bX (bH (cH (cW (YH (TK (K:=K) rfl) (XJ T.xi) (by rfl) T.n_isinstance b7 (vv 0) (bU (by rfl) T.v_NoPlan)) (cW (YH (TK (K:=K) rfl) (XJ T.xi) (by rfl) T.n_isinstance b7 (vv 0) (bU (by rfl) T.v_NoProgram)) (cW (YH (TK (K:=K) rfl) (XJ T.xi) (by rfl) T.n_isinstance b7 (vv 0) (bU (by rfl) T.v_NoTree)) (cW (YH (TK (K:=K) rfl) (XJ T.xi) (by rfl) T.n_isinstance b7 (vv 0) (bU (by rfl) T.v_NoLoop)) cM))))))) cM)))
  refine cT ?_ ?_
  ·exact(ZF (K:=K) rfl Hr Hs (Wb (K:=K) rfl) FA (pv 1) (cH (cW (bX (bH (cH (cW (YH (TK (K:=K) rfl) (XJ T.xi) (by rfl) T.n_isinstance b7 (vv 0) (bU (by rfl) T.v_NoText)) (cW (YH (TK (K:=K) rfl) (XJ T.xi) (by rfl) T.n_isinstance b7 (vv 0) (bU (by rfl) T.v_NoName)) (cW (YH (TK (K:=K) rfl) (XJ T.xi) (by rfl) T.n_isinstance b7 (vv 0) (bU (by rfl) T.v_TooMany)) (cW (YH (TK (K:=K) rfl) (XJ T.xi) (by rfl) T.n_isinstance b7 (vv 0) (bU (by rfl) T.v_TooLong)) cM))))))) cM)))
  refine cT ?_ ?_
  ·exact(ZF (K:=K) rfl Hr Hs (Wb (K:=K) rfl) FA (pv 1) (cH (cW (bX (bH (cH (cW (YH (TK (K:=K) rfl) (XJ T.xi) (by rfl) T.n_isinstance b7 (vv 0) (bU (by rfl) T.v_NotValid)) (cW (YH (TK (K:=K) rfl) (XJ T.xi) (by rfl) T.n_isinstance b7 (vv 0) (bU (by rfl) T.v_Nothing)) cM))))) cM)))
  refine cT ?_ ?_
  ·exact (a8 (R6 (TD (bA (NS (K := K) rfl hu) OF (Yl rfl PySem.F.slot_list_count PySem.F.type_list_count (oE (K := K) rfl) mW (vo 1) YJ) cV (Z4 _)) (WL (YV (Z6 (YH (TK (K := K) rfl) (XJ T.xi) (by rfl) T.n_isinstance b7 (vv 0) (vty T.n_ValueError MR)))))))
   (cP (cJ (bL (cW cI (cW (V0 cV) cM)))))
   b8)
  exact cP (cJ (bL (cW cI (cW (Yl rfl Lq Lr (gC (K:=K) rfl) gD (vo 1) YJ) cM))))
abbrev Nx32:List Uw:=["_law_script","_law_town","_law_some"]
abbrev Qx32:List Uw:=["_law_script","_law_town"]
theorem QZ:cG Nx32 Qx32 (cU (top 61)):=ZK
theorem jY(F:YZ K "_law_none" "_law_none" (top 61) f fd)(T:Txt K mg)(am:bZ P w K mg base "_law_pick" 4 M4 [1] bS f_x22):aW P w K mg base CX0 5 f fd Qx32 (spV K [1] 2 YT):=
 UZ P w K mg base Nx32 Qx32 4 SK [1] F QZ λ_ _ _ _ _ _ hr hu hu1=>by
  refine cT ?_ ?_
  ·exact(@bF _ _ _ _ _ _ _ _ _ QZ.nd (@aF _ _ _ _ _ _ (@bX _ _ _ _ _ _ (@OR _ _ _ 3 _ _ _ rfl (by decide)))) rfl (by first|exact .inl rfl|exact .inr rfl) (by decide) rfl (by first|exact .inl rfl|exact .inr rfl|assumption))
  refine cT ?_ ?_
  ·exact(@bF _ _ _ _ _ _ _ _ _ QZ.nd (@aF _ _ _ _ _ _ (@cN _ _ _ _ _ _ _ _ (@aH _ _ _ _ _ _ _ _ _ _ _ _ _ _ _ _ _ (X7 (K:=K) rfl) ZH (@vv _ _ _ _ _ 2 rfl (by first|exact Gd rfl|exact Et (Gd rfl)|exact Et (Et rfl)) (by decide) (by decide)) (@bX _ _ _ _ _ _ (@OR _ _ _ 3 _ _ _ rfl (by decide))) rfl) rfl)) rfl (by first|exact .inl rfl|exact .inr rfl) (by decide) rfl (by first|exact .inl rfl|exact .inr rfl|assumption))
  refine cT ?_ ?_
  ·exact(@bF _ _ _ _ _ _ _ _ _ QZ.nd (@aF _ _ _ _ _ _ (@cN _ _ _ _ _ _ _ _ (@aH _ _ _ _ _ _ _ _ _ _ _ _ _ _ _ _ _ (X7 (K:=K) rfl) ZH (@vv _ _ _ _ _ 2 rfl (by first|exact Gd rfl|exact Et (Gd rfl)|exact Et (Et rfl)) (by decide) (by decide)) (@bX _ _ _ _ _ _ (@OR _ _ _ 3 _ _ _ rfl (by decide))) rfl) rfl)) rfl (by first|exact .inl rfl|exact .inr rfl) (by decide) rfl (by first|exact .inl rfl|exact .inr rfl|assumption))
  refine cT ?_ ?_
  ·exact(@bF _ _ _ _ _ _ _ _ _ QZ.nd (@aF _ _ _ _ _ _ (@cN _ _ _ _ _ _ _ _ (@aH _ _ _ _ _ _ _ _ _ _ _ _ _ _ _ _ _ (X7 (K:=K) rfl) ZH (@vv _ _ _ _ _ 2 rfl (by first|exact Gd rfl|exact Et (Gd rfl)|exact Et (Et rfl)) (by decide) (by decide)) (@bX _ _ _ _ _ _ (@bH _ _ _ _ _ _ _ (@cH _ _ _ _ _ _ _ (@cW _ _ _ _ _ _ _ _ _ _ _ _ (@OQ _ _ _ 3 _ _ rfl) (@cW _ _ _ _ _ _ _ _ _ _ _ _ (@bL _ _ _ _ _ _ _ _ _ (@cW _ _ _ _ _ _ _ _ _ _ _ _ cV (@cW _ _ _ _ _ _ _ _ _ _ _ _ (@aH _ _ _ _ _ _ _ _ _ _ _ _ _ _ _ _ _ (kRep (K:=K) rfl) Vt (@OQ _ _ _ 2 _ _ rfl) cV rfl) cM rfl rfl rfl) rfl rfl rfl)) cM rfl rfl rfl) rfl rfl rfl) rfl))) rfl) rfl)) rfl (by first|exact .inl rfl|exact .inr rfl) (by decide) rfl (by first|exact .inl rfl|exact .inr rfl|assumption))
  refine cT ?_ ?_
  ·exact(@bF _ _ _ _ _ _ _ _ _ QZ.nd (@aF _ _ _ _ _ _ (@cN _ _ _ _ _ _ _ _ (@aH _ _ _ _ _ _ _ _ _ _ _ _ _ _ _ _ _ (X7 (K:=K) rfl) ZH (@vv _ _ _ _ _ 2 rfl (by first|exact Gd rfl|exact Et (Gd rfl)|exact Et (Et rfl)) (by decide) (by decide)) (@bX _ _ _ _ _ _ (@OR _ _ _ 3 _ _ _ rfl (by decide))) rfl) rfl)) rfl (by first|exact .inl rfl|exact .inr rfl) (by decide) rfl (by first|exact .inl rfl|exact .inr rfl|assumption))
  exact cP (cJ (bP am hr (cR (vv 0) (a7 (pv 1) (cR (vv 2) cO)))))
abbrev Nx35:List Uw:=["_law_what","_law_block_here","_law_row_here","_law_e"]
abbrev Qx35:List Uw:=["_law_what","_law_block_here","_law_row_here"]
theorem zAW:cG Nx35 Qx35 (cU (top 64)):=ZK
theorem mK(F:YZ K "_law_ask" "_law_ask" (top 64) f fd)(T:Txt K mg)(jo:bZ P w K mg base "may_fault" 7 MN [] YR f_x16)(jm:bZ P w K mg base "must" 6 IW [] IS f_x17)(jl:bZ P w K mg base "ahead" 7 MO [] TU f_x18)(f6:DefH P w K mg base "_law_which" 1 Qx31 (spV K [] 1 YQ) f_x31)(i3:PM P w K mg base "may_fault" 7 MN YS f_x16)(gy:PM P w K mg base "must" 6 IW JA f_x17)(gw:PM P w K mg base "ahead" 7 MO TW f_x18):aW P w K mg base CX0 8 f fd Qx35 (spV K [] 3 bQ):=
 UZ P w K mg base Nx35 Qx35 7 T3 [] F zAW λ_ _ _ _ _ _ hr hu hu1=>by
  exact(cP (jH (i:=3) (cs:=PK) rfl rfl rfl zAW.nd rfl rfl (by decide) (by rfl) (λ_=>T.fnm _ _) (by rfl) (by decide) T.q_NoRow
   (cP (cJ (OP (V2 hu (vv 0) cV) (bP jm hr (cR (vv 1) cO)) (eP (IC (K:=K) rfl T.fnm hr jl (by decide) (IC (K:=K) rfl T.fnm hr jo (by decide) lH)) (ZI hu1 (bX (bH (cH (cW (bU (by rfl) T.v_ahead) (cW (bU (by rfl) T.v_may_fault) cM))))) (vv 0)) (cR (vv 1) (cR (vv 2) cO))))))
   (λ_ _ _ hz=>(YN (Zt (gX (V2 hu (vv 0) cV) (KP hz rfl gy hr (by decide) (by rfl) rfl (cR (vv 1) cO)) (pR hz rfl rfl (MF (K:=K) (kk:=7) (j:=7) (qs:=MO) rfl T.fnm hr gw (by decide) (MF (K:=K) (kk:=7) (j:=7) (qs:=MN) rfl T.fnm hr i3 (by decide) pO)) (ZI hu1 (bX (bH (cH (cW (bU (by rfl) T.v_ahead) (cW (bU (by rfl) T.v_may_fault) cM))))) (vv 0)) (cR (vv 1) (cR (vv 2) cO)))))))
   (λ_=>(cP (cJ (bL (cW cI (cW (lX rfl (oS T.x_NoRow) (vv 3)) (cW (YH (TK (K:=K) rfl) (XJ T.xi) (by rfl) T.n_isinstance b7 (vv 3) (bU (by rfl) T.v_PackError)) (cW (Xr f6 (hr.h.mark _) (cR (vv 3) cO)) cM))))))))
   λ_=>(cP (cJ (Xr f6 (hr.h.mark _) (cR (vv 3) cO))))))
noncomputable abbrev Nx36:List Uw:=["_law_script","_law_town","_law_block_here","_law_many","_law_wrong","_law_told"]
abbrev Qx36:List Uw:=["_law_script"]
theorem Q0:cG Nx36 Qx36 (cU (top 65)):=ZK
theorem cY(F:YZ K "law" "law" (top 65) f fd)(T:Txt K mg)(jf:bZ P w K mg base "_law_block" 8 Qx27 [1] ZU f_x27)(jc:bZ P w K mg base "_law_none" 5 Qx32 [1] YT f_x32)(df:bZ P w K mg base "_law_ask" 8 Qx35 [] bQ f_x35):aW P w K mg base CX0 9 f fd Qx36 (spV K [] 1 KR):=
 UZ P w K mg base Nx36 Qx36 8 Vy [] F Q0 λ_ _ _ _ _ _ hr hu hu1=>by
  refine cT ?_ ?_
  ·exact(bF Q0.nd (VA (bH (cH cM))))
  refine cT ?_ ?_
  ·exact(@a8 _ _ _ _ _ _ _ _ _ _ _ (@bA _ _ _ _ _ _ _ _ _ _ _ _ _ _ _ _ _ (NS (K:=K) rfl hu) OF (@bX _ _ _ _ _ _ (ZM ["_law_script","_law_town","_law_what"] [0,1] 1 (@W4 _ _ _ _ _ _ _ _ _ _ _ (by rfl) T.n_range cV rfl rfl) (λhn _ _ _ _=>⟨(@bY _ _ _ _ _ _ hn rfl (by first|exact .inl rfl|exact .inr rfl) (by decide) (by first|exact .inl rfl|exact .inr rfl|assumption)),W0,(@cN _ _ _ _ _ _ _ _ (@bP _ _ _ _ _ _ _ _ _ _ _ _ _ _ _ _ _ df hr (@cR _ _ _ _ _ _ _ _ _ (@vv _ _ _ _ _ 2 rfl (by first|exact Gd rfl|exact Et (Gd rfl)|exact Et (Et rfl)) (by decide) (by decide)) (@cR _ _ _ _ _ _ _ _ _ (@cN _ _ _ _ _ _ _ _ (@bP _ _ _ _ _ _ _ _ _ _ _ _ _ _ _ _ _ jc hr (@cR _ _ _ _ _ _ _ _ _ (@vv _ _ _ _ _ 0 rfl (by first|exact Gd rfl|exact Et (Gd rfl)|exact Et (Et rfl)) (by decide) (by decide)) (@a7 _ _ _ _ _ _ _ _ (pv 1) cO rfl) rfl) rfl (by decide) rfl (by decide) rfl rfl) rfl) (@cR _ _ _ _ _ _ _ _ _ UV cO rfl) rfl) rfl) rfl (by decide) rfl (by decide) rfl rfl) rfl)⟩))) (@aH _ _ _ _ _ _ _ _ _ _ _ _ _ _ _ _ _ (kRep (K:=K) rfl) Vt (@bX _ _ _ _ _ _ (@OR _ _ _ 1 _ _ _ rfl (by decide))) cV rfl) (Z4 _) rfl) (@cP _ _ _ _ _ (@cJ _ _ _ _ _ _ _ _ _ YJ rfl)) b8)
  refine cT ?_ ?_
  ·exact(bF Q0.nd (aF (cN (bP jf hr (cR (vv 0) (a7 (pv 1) (cR cV cO)))))))
  refine cT ?_ ?_
  ·exact(bF Q0.nd (aF (cN (XD T.n_len (ZI hu1 (vv 2) cV)))))
  refine cT ?_ ?_
  ·exact(UW Ef rfl (V1 rfl (bX (bH (cH (cW UV (cW (V0 cV) (cW cI (cW (vv 3) (cW (bX (bH (cH (cW cV cM)))) (cW (bL (cW cV cM)) cM)))))))))) (bY Q0.nd)
   (cP (a8 (bA (NS (K:=K) rfl hu) OF (bX (ZM ["_law_block_here","_law_wrong","_law_what"] [2,4] 1 (W4 (by rfl) T.n_range cV) (λhn _ _ _ _=>⟨(bY hn),W0,(cN (bP df hr (cR (vv 2) (cR (vv 0) (cR (vv 1) cO)))))⟩))) (aH (kRep (K:=K) rfl) Vt (bX (bH (cH (cW (bL (cW cI (cW (vv 4) (cW YJ (cW (bL (cW cI (cW cV cM))) cM))))) cM)))) cV) (Z4 _))
   (cP (cJ YJ))
   b8)))
  refine cT ?_ ?_
  ·exact(bF Q0.nd (aF (cN (bP df hr (cR cV (cR (vv 2) (cR YJ cO)))))))
  refine cT ?_ ?_
  ·exact(@a8 _ _ _ _ _ _ _ _ _ _ _ (@R6 _ _ _ _ _ _ (@TD _ _ _ _ _ _ _ _ _ _ _ (@bA _ _ _ _ _ _ _ _ _ _ _ _ _ _ _ _ _ (NS (K:=K) rfl hu) OF (@vv _ _ _ _ _ 5 rfl (by first|exact Gd rfl|exact Et (Gd rfl)|exact Et (Et rfl)) (by decide) (by decide)) (@OQ _ _ _ 2 _ _ rfl) (Z4 _) rfl) (@WL _ _ _ _ _ _ _ (@YV _ _ _ _ _ _ _ (@Z6 _ _ _ _ _ _ _ _ (@GC _ _ _ _ _ _ _ _ _ _ _ _ _ _ _ T.n_isinstance (@ZI _ _ _ _ _ _ _ _ _ _ _ _ _ _ hu1 (@vv _ _ _ _ _ 5 rfl (by first|exact Gd rfl|exact Et (Gd rfl)|exact Et (Et rfl)) (by decide) (by decide)) cV rfl (by exact λ_ _=>rfl) rfl) (@vty _ _ _ _ _ _ T.n_bool C3 rfl (by decide) (by decide)) rfl rfl rfl rfl rfl rfl) (by intro _;rfl)))))) (@cP _ _ _ _ _ (@cJ _ _ _ _ _ _ _ _ _ YJ rfl)) b8)
  exact cP (@cJ _ _ _ _ _ _ _ _ _ (@YI _ _ _ _ _ _ _ _ _ _ _ _ _ _ _ (@veq _ _ _ _ _ _ _ _ _ _ _ _ _ _ hu (@bP _ _ _ _ _ _ _ _ _ _ _ _ _ _ _ _ _ df hr (@cR _ _ _ _ _ _ _ _ _ cV (@cR _ _ _ _ _ _ _ _ _ (@cN _ _ _ _ _ _ _ _ (@OQ _ _ _ 2 _ _ rfl) rfl) (@cR _ _ _ _ _ _ _ _ _ UV cO rfl) rfl) rfl) rfl (by decide) rfl (by decide) rfl rfl) (@bX _ _ _ _ _ _ (@bH _ _ _ _ _ _ _ (@cH _ _ _ _ _ _ _ cM rfl))) rfl rfl) (@YL _ _ _ _ _ _ _ _ _ _ (@veq _ _ _ _ _ _ _ _ _ _ _ _ _ _ hu (@bP _ _ _ _ _ _ _ _ _ _ _ _ _ _ _ _ _ df hr (@cR _ _ _ _ _ _ _ _ _ cV (@cR _ _ _ _ _ _ _ _ _ (@cN _ _ _ _ _ _ _ _ (@OQ _ _ _ 3 _ _ rfl) rfl) (@cR _ _ _ _ _ _ _ _ _ cV cO rfl) rfl) rfl) rfl (by decide) rfl (by decide) rfl rfl) (@bX _ _ _ _ _ _ (@bH _ _ _ _ _ _ _ (@cH _ _ _ _ _ _ _ cM rfl))) rfl rfl))) rfl)
end
end RR
namespace L2
open PySem
theorem YX(a b:String):Bf a=Bf b↔a=b:=by
 refine⟨λh=>?_,λh=>by rw[h]⟩;rw[Ip,Ip] at h;injection h with h;have h2:a.toList.map Qg=b.toList.map Qg:=by simpa using h
 have h3:a.toList=b.toList:=by
  have inj:∀(l m:List Char),l.map Qg=m.map Qg->l=m:=by
   intro l;induction l with
   |nil=>intro m h;cases m with
    |nil=>rfl
    |cons=>cases h
   | cons c l ih => intro m h;cases m with
    |nil=>cases h
    |cons e m=>
     simp only[Az,Kf] at h;rw[ih m h.2,Char.toNat_inj.mp h.1]
  exact inj _ _ h2
 exact String.toList_inj.mp h3
theorem CF(a:String):Ud (Bf a)=true:=by
 unfold Ud;rw[Ip];simp only[List.all_toArray,Ub,Ei,Tp,decide_eq_true_eq];intro c _;have:=c.valid;rcases this with h|⟨_,h⟩
 ·show c.val.toNat<1114112
  have:c.val.toNat<55296:=h;lia
 ·exact h
def T5(k:Nat)(d:cX):Prop:=d.isD=true/\d.pd.canLay0=true/\d.pd.depth<=k
theorem ZP{k:Nat}{i:Int}:T5 k (.int i):=⟨rfl,rfl,Di _⟩
theorem FM{k:Nat}{i:Bool}:T5 k (.bl i):=⟨rfl,rfl,Di _⟩
theorem kE{k:Nat}:T5 k .non:=⟨rfl,rfl,Di _⟩
theorem ZQ{k:Nat}{a:String}:T5 k (.str (Bf a)):=⟨rfl,by simp[cX.pd,Gm,CF],Di _⟩
theorem J4{k:Nat}:∀{ds:List cX},(∀d∈ds,T5 k d)->G1 ds=true/\Ix (AE ds)=true/\Ff (AE ds)<=k
 |[],_=>⟨rfl,rfl,Di _⟩
 |d::ds,h=>by obtain⟨a1,a2,a3⟩:=h d Ax;obtain⟨b1,b2,b3⟩:=J4 λe he=>h e (Ap _ he);refine⟨by simp[G1,a1,b1],by simp[AE,Ix,a2,b2],?_⟩;simp only[AE,Ff];lia
theorem VT{k:Nat}{ds:List cX}(h:∀d∈ds,T5 k d):T5 (k+1) (.tup ds):=by obtain⟨a,b,c⟩:=J4 h;exact⟨by simpa[cX.isD] using a,by simpa[cX.pd,Gm] using b,by simp only[cX.pd,Jf];lia⟩
theorem YE{k:Nat}{ds:List cX}(h:∀d∈ds,T5 k d):T5 (k+1) (.lst ds):=by obtain⟨a,b,c⟩:=J4 h;exact⟨by simpa[cX.isD] using a,by simpa[cX.pd,Gm] using b,by simp only[cX.pd,Jf];lia⟩
theorem T5.ok{k:Nat}{d:cX}(h:T5 k d)(hk:k<=64:=by decide):LW d=true:=by unfold LW Ep;simp only[h.1,h.2.1,Tu,Ae,decide_eq_true_eq];have:=h.2.2;lia
@[simp] theorem vC{a:String}:LW (.str (Bf a))=true:=(ZQ (k:=0)).ok
theorem ZR{k:Nat}:∀d∈([]:List cX),T5 k d:=λ_ h=>nomatch h
theorem bK{k:Nat}{d:cX}{ds:List cX}(h:T5 k d)(t:∀d∈ds,T5 k d):∀e∈d::ds,T5 k e:=λe he=>by
 rcases Al.mp he with z|z
 ·rw[z];exact h
 ·exact t e z
@[simp] theorem eE{i j:Int}:eqD (.int i) (.int j)=decide (i=j):=by show(i==j)=_;rw[Na]
@[simp] theorem tI{a b:String}:eqD (.str (Bf a)) (.str (Bf b))=decide (a=b):=by show(Bf a==Bf b)=_;rw[Na];simp only[YX]
@[simp] theorem wd{i j:Int}:WZ (.int i) (.int j)=some (.bl (decide (i=j))):=by unfold WZ;simp
@[simp] theorem uK{i j:Int}:QW (.int i) (.int j)=some (.bl (!decide (i=j))):=by unfold QW;simp
@[simp] theorem v6{a b:String}:WZ (.str (Bf a)) (.str (Bf b))=some (.bl (decide (a=b))):=by unfold WZ;simp
@[simp] theorem uH{a b:String}:QW (.str (Bf a)) (.str (Bf b))=some (.bl (!decide (a=b))):=by unfold QW;simp
theorem dZ{j k:Nat}{d e:cX}(h:T5 j d)(h':T5 k e)(hj:j<=64:=by decide)(hk:k<=64:=by decide):WZ d e=some (.bl (eqD d e)):=by unfold WZ;rw[h.ok hj,h'.ok hk];rfl
theorem DN{j k:Nat}{d e:cX}(h:T5 j d)(h':T5 k e)(hj:j<=64:=by decide)(hk:k<=64:=by decide):QW d e=some (.bl (!eqD d e)):=by unfold QW;rw[h.ok hj,h'.ok hk];rfl
theorem Vv{j k:Nat}{neg:Bool}{d:cX}{ds:List cX}(h:T5 j d)(h':∀e∈ds,T5 k e)(hj:j<=64:=by decide)(hk:k+1<=64:=by decide):Z8 neg d (.tup ds)=some (.bl (if neg then !LJ d ds else LJ d ds)):=by unfold Z8;simp[h.ok hj,(VT h').ok hk]
theorem J0{j k:Nat}{neg:Bool}{d:cX}{ds:List cX}(h:T5 j d)(h':∀e∈ds,T5 k e)(hj:j<=64:=by decide)(hk:k+1<=64:=by decide):Z8 neg d (.lst ds)=some (.bl (if neg then !LJ d ds else LJ d ds)):=by unfold Z8;simp[h.ok hj,(YE h').ok hk]
@[simp] theorem uW{d:cX}:LJ d []=false:=(rfl)
@[simp] theorem Wa{d e:cX}{ds:List cX}:LJ d (e::ds)=(eqD e d || LJ d ds):=(rfl)
@[simp] theorem DD{neg:Bool}{a b c:String}:Z8 neg (.str (Bf a)) (.tup [.str (Bf b),.str (Bf c)])=some (.bl (if neg then !(decide (b=a) || decide (c=a)) else decide (b=a) || decide (c=a))):=by rw[Vv (j:=0) ZQ (bK (ZQ (k:=0)) (bK ZQ ZR))];simp
@[simp] theorem Ys{neg:Bool}{a b c d e:String}:Z8 neg (.str (Bf a)) (.tup [.str (Bf b),.str (Bf c),.str (Bf d),.str (Bf e)])=some (.bl (if neg then !(decide (b=a) || (decide (c=a) || (decide (d=a) || decide (e=a)))) else decide (b=a) || (decide (c=a) || (decide (d=a) || decide (e=a))))):=by rw[Vv (j:=0) ZQ (bK (ZQ (k:=0)) (bK ZQ (bK ZQ (bK ZQ ZR))))];simp
@[simp] theorem uE{neg:Bool}{a b c:Int}:Z8 neg (.int a) (.tup [.int b,.int c])=some (.bl (if neg then !(decide (b=a) || decide (c=a)) else decide (b=a) || decide (c=a))):=by rw[Vv (j:=0) ZP (bK (ZP (k:=0)) (bK ZP ZR))];simp
theorem qE{k:Nat}{d:cX}(h:T5 k d):eqD d d=true:=PySem.SeqAt.eqv_refl _ h.2.1
def WT(ns:List Int):cX:=.lst (ns.map .int)
def XS(n:Nat):cX:=.lst (As n (.int 0))
theorem LL:∀ns:List Int,G1 (ns.map cX.int)=true
 |[]=>rfl
 |n::ns=>by simp[G1,cX.isD,LL ns]
theorem HH:∀ns:List Int,AE (ns.map cX.int)=ns.map Pw
 |[]=>rfl
 |n::ns=>by simp[AE,cX.pd,HH ns]
theorem iH(ns:List Int):LW (.lst (ns.map .int))=true:=by unfold LW;simp only[cX.isD,LL,cX.pd,HH,Tu];exact IA ns
theorem XM(ns:List Int):WZ (.lst (ns.map .int)) (.lst [])=some (.bl ns.isEmpty):=by unfold WZ;rw[iH,show LW (.lst [])=true from by decide+kernel];cases ns<;>rfl
theorem LI:∀n:Nat,UK (As n (.int 0))=true
 |0=>rfl
 |n+1=>by simp[Dz,UK,cX.hard,LI n]
@[simp] theorem sY(n:Nat):UM (XS n)=true:=LI n
theorem K8:∀(ds:List cX) (a b:cX) (r:Int) (s:Sl),∃r' s',WQ (gN 3) (aG 2 (xV (f2 DM (fV 2) (fC (.int 1000003))))) ds [.va a,.va b,.va (.int r),s]=some (.nx [.va a,.va b,.va (.int r'),s'])
 |[],a,b,r,s=>⟨r,s,rfl⟩
 |d::ds,a,b,r,s=>by obtain⟨r',s',h⟩:=K8 ds a b (r/1000003) (.va d);exact⟨r',s',by simp[cDiv,h]⟩
theorem O9{ns:List Int}{i:Int}(h0:0<=i)(h1:i<ns.length):∃r∈ns,T0 (ns.map cX.int) i=some (.int r):=by obtain⟨x,hx,e⟩:=EW (xs:=ns.map cX.int) h0 (by simpa using h1);obtain⟨r,hr,rfl⟩:=Dj.mp hx;exact⟨r,hr,e⟩
theorem dW(ns:List Int)(k:Nat)(hl:ns.length<=63)(hk:k<1000000):∃r,aB [WT ns,.int k]=some (.int r,[]):=by
 unfold aB;rw[bG];unfold WG U6 WT;by_cases h:(k:Int)<ns.length
 ·obtain ⟨r,_,e⟩ := O9 (ns := ns) (i := k) (by lia) h
  exact⟨r,by simp[bD,h,e]⟩
 ·cases ns with
  |nil=>
   have h0:¬((k:Int)<0):=by lia
   have e:WZ (.lst []) (.lst [])=some (.bl true):=XM [];exact⟨0,by simp[bD,h0,e]⟩
  |cons m ms=>
   generalize hns:m::ms=ns at*;have cg:(0:Int)<ns.length:=by rw[<-hns];simp
   have hb:=Ik (k:Int) (show(ns.length:Int)≠0 by lia);have hb2:=Eu (k:Int) cg;obtain⟨r,_,e⟩:=O9 (ns:=ns) hb hb2;have he:ns.isEmpty=false:=by rw[<-hns];rfl
   have hq:0<=(k:Int)/ns.length:=Int.ediv_nonneg (by lia) (by lia);have hm: -4611686018427387904<=(if(60:Int)<(k:Int)/ns.length then 60 else(k:Int)/ns.length)/\(if(60:Int)<(k:Int)/ns.length then 60 else(k:Int)/ns.length)<4611686018427387904:=by split<;>lia
   obtain⟨r',s',e2⟩:=K8 (ZC 0 (if(60:Int)<(k:Int)/ns.length then 60 else(k:Int)/ns.length).toNat) (.lst (ns.map .int)) (.int k) r .no;have hp2:0<ns.length:=by lia
   have hp3:(ns.length:Int)<1073741824:=by lia
   exact⟨r*31+k+r'*101,by simp[bD,h,XM,he,cg,hp2,hp3,e,cDiv,hm,e2,cMul]⟩
noncomputable def cel(ns:List Int)(k:Nat):Int:=match aB [WT ns,.int k] with
 |some (.int r,_)=>r
 |_=>0
theorem Zu(ns:List Int)(k:Nat)(hl:ns.length<=63)(hk:k<1000000):aB [WT ns,.int k]=some (.int (cel ns k),[]):=by obtain⟨r,e⟩:=dW ns k hl hk;unfold cel;rw[e]
noncomputable def IQ(ns:List Int)(n:Nat)(b:Int):Int:=((cel ns (n+1)*1103515245+7919*(((n+1:Nat)):Int)+12345) % 2147483647) ^ 5 % 2147483647 % 999983 % b
theorem NC(ns:List Int)(n:Nat){b:Int}(h:0<b):0<=IQ ns n b:=Ik _ (by lia)
theorem C8(ns:List Int)(n:Nat){b:Int}(h:0<b):IQ ns n b<b:=Eu _ h
theorem jM(ns:List Int)(n:Nat)(b:Int)(hl:ns.length<=63)(hn:n<900000)(hb:0<b):YO [WT ns,.int ((n+1:Nat):Int),.int b]=some (.int (IQ ns n b),[]):=by
 have e:=Zu ns (n+1) hl (by lia);unfold YO;rw[bG];unfold UH IQ;have e1:=Ik (cel ns (n+1)*1103515245+7919*((n+1:Nat):Int)+12345) (show(2147483647:Int)≠0 by decide);have e2:=Eu (cel ns (n+1)*1103515245+7919*((n+1:Nat):Int)+12345) (show(0:Int)<2147483647 by decide);generalize hz:(cel ns (n+1)*1103515245+7919*((n+1:Nat):Int)+12345) % 2147483647=z at*;have hz2:z.natAbs<18446744073709551616:=by lia
 generalize hk:((n+1:Nat):Int)=k at*;simp[bD,e,cMul,cPow,hz,hz2,hb]
theorem W9(ns:List Int)(n:Nat)(b:Int)(hl:ns.length<=63)(hn:n<900000)(hb:0<b):bR [WT ns,XS n,.int b]=some (.int (IQ ns n b),[XS (n+1)]):=by
 have e:=jM ns n b hl hn hb;unfold bR;rw[bG];unfold SI;have ht:XS n=.lst (As n (.int 0)):=rfl;have ht2:XS (n+1)=.lst (As n (.int 0)++[.int 0]):=by unfold XS;rw[List.replicate_succ']
 rw[ht2,ht];have hs:n<16777216:=by lia
 push_cast at e
 simp[bD,hs,e]
theorem WP(ns:List Int)(n:Nat)(xs:List cX)(hl:ns.length<=63)(hn:n<900000)(hx:0<xs.length):∃x∈xs,bS [WT ns,XS n,.lst xs]=some (x,[XS (n+1)]):=by
 have hx':(0:Int)<xs.length:=by lia
 obtain⟨x,hm,e⟩:=EW (xs:=xs) (NC ns n hx') (C8 ns n hx');refine⟨x,hm,?_⟩;unfold bS;rw[bG];unfold SM;simp[bD,W9 ns n _ hl hn hx',e]
theorem C7(ns:List Int)(n:Nat)(b:Int)(hl:ns.length<=63)(hn:n<900000)(hb:0<b)(tl:Ev):cL 3 [1] bR (aE (fV 0) (aO 1 (aE (fC (.int b)) cA))) (.va (WT ns):: .ow (XS n)::tl)=some (.int (IQ ns n b),.va (WT ns):: .ow (XS (n+1))::tl):=by simp[W9 ns n b hl hn hb]
abbrev Sn(m:Nat)(d:cX):Prop:=∃(ks:List aK) (vs:List Int),d=.dct ks (vs.map .int)/\ks.length=vs.length/\ks.Nodup/\ks.length<=m
abbrev M5(n:Nat)(d:cX):Prop:=Sn (8*n) d
theorem M5.mono{n m:Nat}{d:cX}(h:M5 n d)(hn:n<=m):M5 m d:=by obtain⟨ks,vs,h1,h2,h3,h4⟩:=h;exact⟨ks,vs,h1,h2,h3,by lia⟩
theorem Wn:∀(ks:List aK) (vs:List Int) (k:aK) (q:Int),∃r,(a6 ks (vs.map .int) k).getD (.int q)=.int r
 |[],_,_,q=>⟨q,by simp[a6]⟩
 |_::_,[],_,q=>⟨q,by simp[a6]⟩
 | k' :: ks,v :: vs,k,q => by
  by_cases h:k'=k
  ·exact⟨v,by simp[a6,h]⟩
  ·obtain⟨r,e⟩:=Wn ks vs k q
   exact⟨r,by simp only[Az,a6,if_neg h];exact e⟩
theorem putI:∀(ks:List aK) (vs:List Int) (k:aK) (p:Int),ks.length=vs.length->ks.Nodup->∃(ks':List aK) (vs':List Int),YF ks (vs.map .int) k (.int p)=(ks',vs'.map .int)/\ks'.length=vs'.length/\ks'.Nodup/\ks'.length<=ks.length+1/\(∀z∈ks',z=k∨z∈ks)/\a6 ks' (vs'.map .int) k=some (.int p)
 |[],[],k,p,_,_=>⟨[k],[p],by simp[YF],rfl,by simp,by simp,by simp,by simp[a6]⟩
 | k' :: ks,v :: vs,k,p,hl,hn => by
  by_cases h:k'=k
  ·subst h
   exact⟨k'::ks,p::vs,by simp[YF],by simpa using hl,hn,by simp,by simp,by simp[a6]⟩
  ·obtain ⟨ks',vs',e,h1,h2,h3,h4,h5⟩ := putI ks vs k p (by simpa using hl) (Cv.mp hn).2
   refine⟨k'::ks',v::vs',by simp only[Az,YF,if_neg h,e],by simp[h1],?_,by simp;lia,?_,by simp only[Az,a6,if_neg h];exact h5⟩
   ·refine Cv.mpr ⟨λz => ?_,h2⟩
    rcases h4 _ z with y|y
    ·exact h y
    ·exact(Cv.mp hn).1 y
   ·intro z hz
    rcases Al.mp hz with y|y
    ·exact .inr (by rw[y];exact Ax)
    ·exact(h4 z y).imp id (Ap _)
theorem HJ(ns:List Int)(n:Nat)(sn:cX)(x:Uw)(ae:Int)(hl:ns.length<=63)(hn:n<800000)(hs:M5 n sn)(hr:0<ae):∃p sn',0<=p/\p<ae/\M5 (n+2) sn'/\aJ [WT ns,XS n,sn,.str x,.int ae]=some (.int p,[XS (n+2),sn']):=by
 obtain⟨ks,vs,rfl,h1,h2,h3⟩:=hs;obtain⟨a,ha⟩:=Wn ks vs (.inr x) (IQ ns n ae);obtain⟨y,hy,ey⟩:=WP ns (n+1) [.int 1,.int 1,.int 1,.int 0,.int 3] hl (by lia) (by simp);obtain⟨b,rfl⟩:∃b,y=.int b:=by simp only[Al,Bb,or_false] at hy;rcases hy with h|h|h|h|h<;>exact⟨_,h⟩
 obtain⟨ks',vs',e,h4,h5,h6,h7,h8⟩:=putI ks vs (.inr x) ((a+b) % ae) h1 h2;refine⟨(a+b) % ae,.dct ks' (vs'.map .int),Ik _ (by lia),Eu _ hr,⟨ks',vs',rfl,h4,h5,by lia⟩,?_⟩;have hk:ks.length<16777216:=by lia
 unfold aJ;rw[bG];unfold UI;simp[bD,W9 ns n ae hl (by lia) hr,ha,ey,hr,hk,h2,e,h8]
inductive aD(M:Int->Prop):cX->Prop
 |number {n:Int}:0<=n->n<=999->aD M (.tup [.str "number",.int n])
 |two {x:String} {a b:Int}:x∈["over","plus","minus","times","least","most","less"]->M a->M b->aD M (.tup [.str x,.int a,.int b])
 |pick {c a b:Int}:M c->M a->M b->aD M (.tup [.str "pick",.int c,.int a,.int b])
 |load {p:Int}:0<=p->p<=63->aD M (.tup [.str "load",.int p])
 |take {p c a:Int}:0<=p->p<=63->M c->M a->aD M (.tup [.str "take",.int p,.int c,.int a])
 |store {p a:Int}:0<=p->p<=63->M a->aD M (.tup [.str "store",.int p,.int a])
 |put {p a c:Int}:0<=p->p<=63->M a->M c->aD M (.tup [.str "put",.int p,.int a,.int c])
theorem oJ(ns:List Int)(n:Nat)(made:List Int)(hl:ns.length<=63)(hn:n<800000)(hm:0<made.length)(s:Sl):∃a b c,a∈made/\b∈made/\c∈made∧Z9 3 1 (gN 3) U1 (f2 bT (fV 2) (f2 oMax (fC (.int 0)) (f2 N0 (f2 N0 (f1 Y3 (fV 2)) (fC (.int 1))) (cL 3 [1] bR (aE (fV 0) (aO 1 (aE (fC (.int 6)) cA))))))) [.int 0,.int 1,.int 2] [] [.va (WT ns),.ow (XS n),.va (.lst (made.map .int))]=some ([.int a,.int b,.int c],[.va (WT ns),.ow (XS (n+3)),.va (.lst (made.map .int))]):=by
 have one:∀m,∃a∈made,T0 (made.map cX.int) (if(made.length:Int) - 1 - IQ ns m 6>0 then(made.length:Int) - 1 - IQ ns m 6 else 0)=some (.int a):=λm=>by have:=NC ns m (b:=6) (by decide);exact O9 (by split<;>lia) (by split<;>lia)
 obtain⟨a,ha,ea⟩:=one n;obtain⟨b,hb,eb⟩:=one (n+1);obtain⟨c,hc,ec⟩:=one (n+2);refine⟨a,b,c,ha,hb,hc,?_⟩;have d0:=W9 ns n 6 hl (by lia) (by decide);have d1:=W9 ns (n+1) 6 hl (by lia) (by decide);have d2:=W9 ns (n+2) 6 hl (by lia) (by decide);simp only[gt_iff_lt,Int.sub_pos] at ea eb ec;simp[d0,d1,d2,ea,eb,ec]
def onC(x:String):Prop:=x= "load" ∨x= "take" ∨x= "store" ∨x= "put"
def PlOK(ae:Int)(row:cX):Prop:=∀(x:String) (p:Int) (t:List cX),row=.tup (.str x:: .int p::t)->onC x->p<ae
theorem RT{ae p:Int}{x:String}{t:List cX}(h:p<ae):PlOK ae (.tup (.str x:: .int p::t)):=λy q u e _=>by simp only[cX.tup.injEq,Kf,cX.int.injEq] at e;lia
theorem FQ{ae:Int}{x:String}{t:List cX}(h:¬onC x):PlOK ae (.tup (.str x::t)):=λy q u e hy=>by simp only[cX.tup.injEq,Kf,cX.str.injEq,YX] at e;rw[<-e.1] at hy;exact absurd hy h
theorem EH{x:String}(hx:x∈["over","plus","minus","times","least","most","less"]):¬onC x:=λh=>by simp only[Al,Bb,or_false] at hx;rcases hx with rfl|rfl|rfl|rfl|rfl|rfl|rfl<;>rcases h with h|h|h|h<;>exact absurd h (by decide)
theorem rB(ns:List Int)(n:Nat)(made:List Int)(sn:cX)(ae:Int)(hl:ns.length<=63)(hn:n<700000)(hs:M5 n sn)(hr:0<ae)(hr2:ae<=64):∃row n' sn',n<=n'/\n'<=n+10/\M5 n' sn'/\aD (· ∈made) row/\PlOK ae row/\W1 [WT ns,XS n,.lst (made.map .int),sn,.int ae]=some (row,[XS n',sn']):=by
  have d0:=C7 ns n 13 hl (by lia) (by decide);have k0:=NC ns n (b:=13) (by decide);have k1:=C8 ns n (b:=13) (by decide);generalize IQ ns n 13=kd at*;unfold W1;rw[bG];unfold QO;by_cases h0:made.isEmpty=true∨kd=0
  · have d1 := C7 ns (n + 1) 2 hl (by lia) (by decide)
    have hor:made.isEmpty=true∨(made.isEmpty=false/\kd=0):=by
      cases hm:made.isEmpty with
      |true=>exact .inl rfl
      | false => rcases h0 with h | h
                 · rw[hm] at h;cases h
                 · exact .inr ⟨rfl,h⟩
    by_cases h2:IQ ns (n+1) 2=0
    · have d2 := C7 ns (n + 2) 1000 hl (by lia) (by decide)
      obtain⟨y,hy,ey⟩:=WP ns (n+3) [.int 0,.int 1,.int 2,.int 5,.int 999,.int (IQ ns (n+2) 1000)] hl (by lia) (by simp);obtain⟨b,rfl,hb0,hb1⟩:∃b,y=.int b/\0<=b/\b<=999:=by have:=NC ns (n+2) (b:=1000) (by decide);have:=C8 ns (n+2) (b:=1000) (by decide);simp only[Al,Bb,or_false] at hy;rcases hy with h|h|h|h|h|h<;>exact⟨_,h,by lia,by lia⟩
      refine⟨.tup [.str "number",.int b],n+4,sn,by lia,by lia,hs.mono (by lia),.number hb0 hb1,FQ (by unfold onC;decide),?_⟩;rcases hor with h|⟨h,h'⟩
      · simp[bD,↓d0,XM,h,↓d1,h2,↓d2,ey]
      · simp[bD,↓d0,XM,h,h',↓d1,h2,↓d2,ey]
    · obtain ⟨p,sn',p0,p1,hs',ep⟩ := HJ ns (n + 2) sn "load" ae hl (by lia) (hs.mono (by lia)) hr
      refine⟨.tup [.str "load",.int p],n+4,sn',by lia,by lia,hs',.load p0 (by lia),RT p1,?_⟩;rcases hor with h|⟨h,h'⟩
      · simp[bD,↓d0,XM,h,↓d1,h2,ep]
      · simp[bD,↓d0,XM,h,h',↓d1,h2,ep]
  · obtain⟨hm,hkd⟩:=not_or.mp h0
    have hm':made.isEmpty=false:=by simpa using hm
    have cg:0<made.length:=by
      cases made with
      |nil=>cases hm'
      |cons=>simp
    obtain⟨a,b,c,ha,hb,hc,e3⟩:=oJ ns (n+1) made hl (by lia) cg .no;have nw:(kd=1∨kd=2)∨kd=3∨(kd=4∨kd=5)∨kd=6∨kd=7∨(8<=kd/\kd<=12):=by lia
    have pl:∀x:Uw,∃p sn',0<=p/\p<=63/\p<ae/\M5 (n+6) sn'/\∀s tl,cL 5 [1,2] aJ (aE (fV 0) (aO 1 (aO 3 (aE (fC (.str x)) (aE (fV 4) cA))))) (.va (WT ns):: .ow (XS (n+4))::s:: .ow sn:: .va (.int ae)::tl)=some (.int p,.va (WT ns):: .ow (XS (n+6))::s:: .ow sn':: .va (.int ae)::tl):=λx=>by obtain⟨p,sn',p0,p1,hs',ep⟩:=HJ ns (n+4) sn x ae hl (by lia) (hs.mono (by lia)) hr;exact⟨p,sn',p0,by lia,p1,hs',λs tl=>by simp[ep]⟩
    rcases nw with h|h|h|h|h|h
    · have t12 : (decide (1 = kd) || decide (2 = kd)) = true := by rcases h with rfl | rfl <;> decide
      obtain⟨p,sn',p0,p1,p2,hs',ep⟩:=pl "load";exact⟨.tup [.str "load",.int p],n+6,sn',by lia,by lia,hs',.load p0 p1,RT p2,by simp[bD,↓d0,XM,hm',hkd,bE,e3,↓ep,t12]⟩
    · subst h
      obtain⟨p,sn',p0,p1,p2,hs',ep⟩:=pl "take";exact⟨.tup [.str "take",.int p,.int c,.int a],n+6,sn',by lia,by lia,hs',.take p0 p1 hc ha,RT p2,by simp[bD,↓d0,XM,hm',bE,e3,↓ep]⟩
    · have t45 : (decide (4 = kd) || decide (5 = kd)) = true := by rcases h with rfl | rfl <;> decide
      have n3:¬kd=3:=by lia
      have m1:¬1=kd:=by lia
      have m2:¬2=kd:=by lia
      obtain⟨p,sn',p0,p1,p2,hs',ep⟩:=pl "store";exact⟨.tup [.str "store",.int p,.int a],n+6,sn',by lia,by lia,hs',.store p0 p1 ha,RT p2,by simp[bD,↓d0,XM,hm',hkd,bE,e3,↓ep,n3,m1,m2,t45]⟩
    · subst h
      obtain⟨p,sn',p0,p1,p2,hs',ep⟩:=pl "put";exact⟨.tup [.str "put",.int p,.int a,.int c],n+6,sn',by lia,by lia,hs',.put p0 p1 ha hc,RT p2,by simp[bD,↓d0,XM,hm',bE,e3,↓ep]⟩
    · subst h
      exact⟨.tup [.str "pick",.int c,.int a,.int b],n+4,sn,by lia,by lia,hs.mono (by lia),.pick hc ha hb,FQ (by unfold onC;decide),by simp[bD,↓d0,XM,hm',bE,e3]⟩
    · have d4 := C7 ns (n + 4) 7 hl (by lia) (by decide)
      have q0:=NC ns (n+4) (b:=7) (by decide);have q1:=C8 ns (n+4) (b:=7) (by decide);obtain⟨y,hy,ey⟩:=EW (xs:=["over","plus","minus","times","least","most","less"].map λs:String=>cX.str (Bf s)) q0 (by simpa using q1);obtain⟨x,hx,rfl⟩:=Dj.mp hy;simp only[Az,Eh] at ey;have n1:¬kd=1:=by lia
      have n2:¬kd=2:=by lia
      have n3:¬kd=3:=by lia
      have n4:¬kd=4:=by lia
      have n5:¬kd=5:=by lia
      have n6:¬kd=6:=by lia
      have n7:¬kd=7:=by lia
      have m1:¬1=kd:=by lia
      have m2:¬2=kd:=by lia
      have m4:¬4=kd:=by lia
      have m5:¬5=kd:=by lia
      exact⟨.tup [.str x,.int a,.int b],n+5,sn,by lia,by lia,hs.mono (by lia),.two hx ha hb,FQ (EH hx),by simp[bD,↓d0,XM,hm',hkd,bE,e3,n3,n6,n7,m1,m2,m4,m5,↓d4,ey]⟩
inductive Kd where
 |w|p|n
 deriving DecidableEq
def Nm(kds:List Kd)(k:Kd)(a:Int):Prop:=0<=a/\kds[a.toNat]?=some k
theorem Nm.lt{kds:List Kd}{k:Kd}{a:Int}(h:Nm kds k a):a<kds.length:=by have:=(Ah.mp h.2).1;have:=h.1;lia
theorem Nm.snoc{kds:List Kd}{k j:Kd}{a:Int}(h:Nm kds k a):Nm (kds++[j]) k a:=⟨h.1,by rw[Ak (Ah.mp h.2).1];exact h.2⟩
theorem Nm.new{kds:List Kd}{k:Kd}:Nm (kds++[k]) k kds.length:=⟨by lia,by simp⟩
noncomputable def PD(k:Kd):cX->Kd
 |.tup (.str x::_)=>if x= "store" ∨x= "put" then .n else k
 |_=>.n
theorem aD.imp{M M':Int->Prop}{row:cX}(h:aD M row)(f:∀a,M a->M' a):aD M' row:=by
 cases h with
 |number a b=>exact .number a b
 |two a b c=>exact .two a (f _ b) (f _ c)
 |pick a b c=>exact .pick (f _ a) (f _ b) (f _ c)
 |load a b=>exact .load a b
 |take a b c d=>exact .take a b (f _ c) (f _ d)
 |store a b c=>exact .store a b (f _ c)
 |put a b c d=>exact .put a b (f _ c) (f _ d)
theorem aD.hard{M:Int->Prop}{row:cX}(h:aD M row):row.hard=true:=by
 cases h<;>simp[cX.hard,UK]
@[simp] theorem ud{i:Int}:NY (.int i)=some (.int (-i)):=(rfl)
theorem T1{ds:List cX}{k:Nat}(h:k<=ds.length):V5 ds (some (k:Int)) none=ds.drop k:=by unfold V5;rw[HT.D9,HT.HV,Sm h,Ce (by simp)]
theorem RE{ds:List cX}{k:Nat}:V5 ds none (some (k:Int))=ds.take k:=by
 unfold V5;rw[HT.D9,HT.HV];simp only[Np,Nat.sub_zero];by_cases h:k<=ds.length
 ·rw[Sm h]
 ·rw[Nat.min_eq_right (by lia),Ce (by lia),Ce (by lia)]
@[simp] theorem tJ{d:cX}{ds:List cX}:V5 (d::ds) (some 1) none=ds:=T1 (k:=1) (by simp)
@[simp] theorem vt{d e:cX}{ds:List cX}:V5 (d::e::ds) (some 2) none=ds:=T1 (k:=2) (by simp)
@[simp] theorem wq{ds:List cX}:V5 ds none (some 2)=ds.take 2:=RE (k:=2)
@[simp] theorem uh{ds:List cX}:V5 ds none (some 1)=ds.take 1:=RE (k:=1)
@[simp] theorem uN{α:Type}{xs:List α}{x:α}:T0 (xs++[x]) (-1)=some x:=by
 unfold T0 ixN;rw[if_neg (by decide),if_pos (by simp;lia)];have e:(-1+((xs++[x]).length:Int)).toNat=xs.length:=by simp;lia
 show(xs++[x])[(-1+((xs++[x]).length:Int)).toNat]?=some x;rw[e];simp
@[simp] theorem tZ{α:Type}{x:α}{xs:List α}:T0 (x::xs) 0=some x:=by rw[UB (by decide) (by simp)];rfl
@[simp] theorem uA{α:Type}{x y:α}{xs:List α}:T0 (x::y::xs) 1=some y:=by rw[UB (by decide) (by simp;lia)];rfl
@[simp] theorem v9{α:Type}{x y z:α}{xs:List α}:T0 (x::y::z::xs) 2=some z:=by rw[UB (by decide) (by simp;lia)];rfl
theorem nQ{k:Kd}{x:String}{t:List cX}(hx:x∉["store","put"]):PD k (.tup (.str x::t))=k:=by simp only[Al,Bb,or_false,not_or] at hx;simp[PD,YX,hx]
theorem lZ{k:Kd}{x:String}{t:List cX}(hx:x= "store" ∨x= "put"):PD k (.tup (.str x::t))=.n:=by
 rcases hx with rfl|rfl<;>simp[PD,YX]
theorem RW{M:Int->Prop}{row:cX}(h:aD M row):∃(x:String) (t:List cX),row=.tup (.str x::t)/\x∉["wide","gather","shuffle"]:=by
 cases h with
 |two hx _ _=>
  simp only[Al,Bb,or_false] at hx;rcases hx with rfl|rfl|rfl|rfl|rfl|rfl|rfl<;>exact⟨_,_,rfl,by decide⟩
 |_=>exact⟨_,_,rfl,by decide⟩
@[simp] theorem IM(n lo hi:Int):bW [.int n,.int lo,.int hi]=some (.bl (decide (lo<=n)&&decide (n<=hi)),[]):=by unfold bW;rw[bG];unfold SH;simp[bD];by_cases h:lo<=n<;>simp[h]
theorem BZ{x:String}(h:x∈["over","plus","minus","times","least","most","less"]):aM [.str x]=some (.tup [.str "row",.str "row"],[]):=by simp only[Al,Bb,or_false] at h;rcases h with rfl|rfl|rfl|rfl|rfl|rfl|rfl<;>kernel_rfl
@[simp] theorem uu:aM [.str "number"]=some (.tup [.str "word"],[]):=by kernel_rfl
@[simp] theorem tY:aM [.str "pick"]=some (.tup [.str "row",.str "row",.str "row"],[]):=by kernel_rfl
@[simp] theorem uf:aM [.str "load"]=some (.tup [.str "place"],[]):=by kernel_rfl
@[simp] theorem vN:aM [.str "take"]=some (.tup [.str "place",.str "row",.str "row"],[]):=by kernel_rfl
@[simp] theorem w6:aM [.str "store"]=some (.tup [.str "place",.str "row"],[]):=by kernel_rfl
@[simp] theorem rY:aM [.str "put"]=some (.tup [.str "place",.str "row",.str "row"],[]):=by kernel_rfl
def Ab(able:List Bool)(a:Int):Prop:=0<=a/\able[a.toNat]?=some true
theorem gA{able:List Bool}{a:Int}(h:Ab able a):X1 [.int a,.lst (able.map .bl)]=some (.bl true,[]):=by
 have hlt:=(Ah.mp h.2).1;have h0:=h.1;have h1:a<=(able.length:Int) - 1:=by lia
 have h2:T0 (able.map cX.bl) a=some (.bl true):=by rw[UB h0 (by simp;lia)];simp[h.2]
 unfold X1;rw[bG];unfold SQ;simp[bD,h0,h1,h2]
theorem Y1{able:List Bool}{a:Int}(h:Ab able a):WD [.str "row",.int a,.lst (able.map .bl)]=some (.bl true,[]):=by unfold WD;rw[bG];unfold NK;simp[bD,gA h]
theorem BG{d:cX}{a:Int}(h:0<=a)(h':a<=999):WD [.str "word",.int a,d]=some (.bl true,[]):=by unfold WD;rw[bG];unfold NK;simp[bD,UE,h,h']
theorem VJ{d:cX}{a:Int}(h:0<=a)(h':a<=63):WD [.str "place",.int a,d]=some (.bl true,[]):=by unfold WD;rw[bG];unfold NK;simp[bD,VD,h,h']
@[simp] theorem vi:M7 []=some []:=(rfl)
@[simp] theorem sh{b:Bool}{ds:List cX}:M7 (.bl b::ds)=(M7 ds).map λks=>b::ks:=(rfl)
@[simp] theorem um{g:List Bool->Bool}{ds:List cX}:DK g (.lst ds)=(M7 ds).map λks=>.bl (g ks):=(rfl)
@[simp] theorem wn{ds:List cX}:TQ ds []=[]:=by cases ds<;>rfl
@[simp] theorem vq{d e:cX}{ds es:List cX}:TQ (d::ds) (e::es)=.tup [d,e]::TQ ds es:=(rfl)
theorem eY{able:List Bool}{row:cX}(h:aD (Ab able) row):V3 [row,.lst (able.map .bl)]=some (.bl true,[]):=by
 unfold V3;rw[bG];unfold NL;cases h with
 |number a b=>simp[bD,bE,BG a b]
 |two hx a b=>simp[bD,bE,BZ hx,Y1 a,Y1 b]
 |pick a b c=>simp[bD,bE,Y1 a,Y1 b,Y1 c]
 |load a b=>simp[bD,bE,VJ a b]
 |take a b c d=>simp[bD,bE,VJ a b,Y1 c,Y1 d]
 |store a b c=>simp[bD,bE,VJ a b,Y1 c]
 |put a b c d=>simp[bD,bE,VJ a b,Y1 c,Y1 d]
theorem NB(nn:Nat)(fe:VF)(δ:Ev)(f:cX->cX)(hδ:δ.length=nn):∀(ds acc:List cX),(∀d∈ds,fe (δ++[Sl.va d])=some (f d,δ++[Sl.va d]))->acc.length+ds.length<16777216->Z9 nn 1 (gN nn) U1 fe ds acc δ=some (acc++ds.map f,δ)
 |[],acc,_,_=>by simp
 |d::ds,acc,h,hl=>by
  have gp:(δ++[Sl.no]).set nn (.va d)=δ++[Sl.va d]:=by rw[Gu _ _ (by lia)];simp[hδ]
  have bq:(δ++[Sl.va d]).take nn=δ:=by rw[Cz (by lia),Ce (by lia)]
  have bo:acc.length<16777216:=by simp at hl;lia
  have ih:=NB nn fe δ f hδ ds (acc++[f d]) (λe he=>h e (Ap _ he)) (by simp at hl⊢;lia);simp only[RB,Vp,BH,gp,HP,oQ,Vo,h d Ax,Vz,if_pos bo,bq,ih];simp
theorem hV(k:Nat):(ZC 0 k).length=k:=by simp[ZC]
theorem G8:∀(ks:List aK) (ws:List cX) (i:Nat) (k:aK),ks.Nodup->ks.length=ws.length->ks[i]?=some k->a6 ks ws k=ws[i]?
 |[],_,i,k,_,_,e=>by simp at e
 |k'::ks,[],i,k,_,hl,_=>by simp at hl
 |k'::ks,w::ws,0,k,_,_,e=>by simp at e;simp[a6,e]
 |k'::ks,w::ws,i+1,k,nd,hl,e=>by
  have e':ks[i]?=some k:=by simpa using e
  have hne:¬k'=k:=λz=>(Cv.mp nd).1 (by rw[z];exact Ew e');have:=G8 ks ws i k (Cv.mp nd).2 (by simpa using hl) e';simp[a6,hne,this]
noncomputable def cnt:cX->Nat
 |.tup (.str x::_)=>if x= "number" ∨x= "load" then 0 else if x= "store" then 1 else if x= "pick" then 3 else 2
 |_=>0
theorem dne{x:String}(hx:x∈["over","plus","minus","times","least","most","less"]){y:String}(hy:(["over","plus","minus","times","least","most","less"].contains y)=false):(¬x=y)/\¬y=x:=by
 have h:¬x=y:=λe=>by subst e;rw[List.contains_iff_mem.mpr hx] at hy;cases hy
 exact⟨h,λe=>h e.symm⟩
theorem FE{M:Int->Prop}{row:cX}(h:aD M row):∃as:List Int,(∀a∈as,M a)/\as.length=cnt row/\aC [row]=some (.lst (as.map .int),[])/\WS [row]=some (.lst (as.map .int),[]):=by
 cases h with
 | @number n _ _=>
  refine⟨[],(λ_ h=>nomatch h),by kernel_rfl,?_,?_⟩
  ·kernel_rfl
  ·kernel_rfl
 | @two x a b hx ha hb=>
  refine⟨[a,b],by simp[ha,hb],?_,?_,?_⟩
  ·simp only[Al,Bb,or_false] at hx
   rcases hx with rfl|rfl|rfl|rfl|rfl|rfl|rfl<;>kernel_rfl
  ·simp only[Al,Bb,or_false] at hx
   rcases hx with rfl|rfl|rfl|rfl|rfl|rfl|rfl<;>kernel_rfl
  ·simp only[Al,Bb,or_false] at hx
   rcases hx with rfl|rfl|rfl|rfl|rfl|rfl|rfl<;>kernel_rfl
 | @pick c a b hc ha hb=>
  refine⟨[c,a,b],by simp[hc,ha,hb],by kernel_rfl,?_,?_⟩
  ·kernel_rfl
  ·kernel_rfl
 | @load p _ _=>
  refine⟨[],(λ_ h=>nomatch h),by kernel_rfl,?_,?_⟩
  ·kernel_rfl
  ·kernel_rfl
 | @take p c a _ _ hc ha=>
  refine⟨[c,a],by simp[hc,ha],by kernel_rfl,?_,?_⟩
  ·kernel_rfl
  ·kernel_rfl
 | @store p a _ _ ha=>
  refine⟨[a],by simp[ha],by kernel_rfl,?_,?_⟩
  ·kernel_rfl
  ·kernel_rfl
 | @put p a c _ _ ha hc=>
  refine⟨[a,c],by simp[ha,hc],by kernel_rfl,?_,?_⟩
  ·kernel_rfl
  ·kernel_rfl
inductive Bl:List Kd->List cX->List Kd->Prop
 |nil {kds:List Kd}:Bl kds [] kds
 |cons {kds al:List Kd} {row:cX} {rows:List cX}:aD (Nm kds .w) row->Bl (kds++[PD .w row]) rows al->Bl kds (row::rows) al
theorem Bl.snoc{kds al:List Kd}{rows:List cX}{row:cX}(h:Bl kds rows al)(r:aD (Nm al .w) row):Bl kds (rows++[row]) (al++[PD .w row]):=by
 induction h with
 |nil=>exact .cons r .nil
 |cons a _ ih=>exact .cons a (ih r)
theorem Bl.len{kds al:List Kd}{rows:List cX}(h:Bl kds rows al):al.length=kds.length+rows.length:=by
 induction h with
 |nil=>simp
 |cons _ _ ih=>simp only[ih,Cc,Bz,Mo];lia
theorem Bl.all{kds al:List Kd}{rows:List cX}(h:Bl kds rows al):∀d∈rows,aD (Nm al .w) d:=by
 induction h with
 |nil=>intro d hd;cases hd
 | @cons kds al row rows a t ih=>
  intro d hd;rcases Al.mp hd with rfl|hd
  ·refine a.imp λx hx => ?_
   have:∀{k k':List Kd} {rs:List cX},Bl k rs k'->Nm k .w x->Nm k' .w x:=by
    intro k k' rs h;induction h with
    |nil=>exact id
    |cons _ _ ih=>exact λz=>ih z.snoc
   exact this t hx.snoc
  ·exact ih d hd
theorem QP:∀ns:List Int,XV (ns.map .int)=some ns
 |[]=>rfl
 |i::ns=>by show(XV (ns.map .int)).map (λns=>i::ns)=_;rw[QP ns];rfl
theorem DT{n:Int}:∀{ns:List Int},n∈ns->∃j:Nat,WI n ns=some j/\j<ns.length
 | i :: ns,h => by
  unfold WI;by_cases e:i=n
  ·rw[if_pos e];exact⟨0,rfl,by simp⟩
  ·rw[if_neg e]
   obtain⟨j,h1,h2⟩:=DT (ns:=ns) (by
    rcases Al.mp h with z|z
    ·exact absurd z.symm e
    ·exact z)
   exact⟨j+1,by rw[h1];rfl,by simp;lia⟩
noncomputable def AD(ns:List Int)(n:Nat)(rows:List cX)(made:List Int)(sn:cX)(ae:Int)(last:cX)(fi:Int)(bs:List Int)(s9 s10:Sl):Ev:=
 [.va (WT ns),.ow (XS n),.va (.lst rows),.va (.lst (made.map .int)),.ow sn,.va (.int ae),.va last,.va (.int fi),.ow (.lst (bs.map .int)),s9,s10]
theorem oX(ns:List Int)(n:Nat)(rows:List cX)(made:List Int)(sn:cX)(ae:Int)(last:cX)(fi:Int)(bs:List Int)(a:Int)(s10:Sl)(hl:ns.length<=63)(hn:n<700000)(ha:a∈made)(hb:bs.length<100):∃b∈made,∃iw,Y7 (AD ns n rows made sn ae last fi bs (.va (.int a)) s10)=some (.nx (AD ns (n+1) rows made sn ae last fi (bs++[b]) (.va (.int a)) iw)):=by
 obtain⟨j,hj,hj2⟩:=DT ha;obtain⟨x,hx,ex⟩:=WP ns n [.int 1,.int 1,.int 1,.int 1,.int (-1),.int 0,.int 2] hl (by lia) (by simp);obtain⟨p,rfl⟩:∃p,x=.int p:=by simp only[Al,Bb,or_false] at hx;rcases hx with rfl|rfl|rfl|rfl|rfl|rfl|rfl<;>exact⟨_,rfl⟩
 have hi:FJ (.lst (made.map .int)) (.int a)=some (.int j):=by show(XV (made.map .int)).bind (λns=>(WI a ns).map λj=>cX.int j)=_;rw[QP,Af,hj];rfl
 have hb':bs.length<16777216:=by lia
 by_cases h1:0<=(j:Int)+p/\(j:Int)+p<made.length
 ·obtain⟨q,hq,eq⟩:=O9 (ns:=made) h1.1 h1.2
  by_cases h2:q=(rows.length:Int) - 1
  ·refine⟨a,ha,.va (.int (j+p)),?_⟩
   unfold Y7;simp[AD,hi,ex,h1.1,h1.2,eq,h2,hb']
  ·refine⟨q,hq,.va (.int (j+p)),?_⟩
   unfold Y7;simp[AD,hi,ex,h1.1,h1.2,eq,h2,hb']
 ·refine⟨a,ha,.va (.int (j+p)),?_⟩
  unfold Y7;by_cases h3:0<=(j:Int)+p
  ·have h4 : ¬ (j : Int) + p < made.length := λz => h1 ⟨h3,z⟩
   simp[AD,hi,ex,h3,h4,hb']
  ·simp[AD,hi,ex,h3,hb']
theorem FG(ns:List Int)(rows:List cX)(made:List Int)(sn:cX)(ae:Int)(last:cX)(fi:Int)(hl:ns.length<=63):∀(as:List Int) (n:Nat) (bs:List Int) (s9 s10:Sl),n+as.length<700000->(∀a∈as,a∈made)->bs.length+as.length<100->∃cs:List Int,(∀c∈cs,c∈made)/\cs.length=as.length/\∃s9' iw,WQ (gN 9) Y7 (as.map .int) (AD ns n rows made sn ae last fi bs s9 s10)=some (.nx (AD ns (n+as.length) rows made sn ae last fi (bs++cs) s9' iw))
 |[],n,bs,s9,s10,_,_,_=>⟨[],by simp,rfl,s9,s10,by simp⟩
 | a :: as,n,bs,s9,s10,hn,ha,hb => by
  simp only[Bz] at hn hb;obtain⟨b,hb1,u10,e⟩:=oX ns n rows made sn ae last fi bs a s10 hl (by lia) (ha a Ax) (by lia);obtain⟨cs,h1,h2,s9',iw,ih⟩:=FG ns rows made sn ae last fi hl as (n+1) (bs++[b]) (.va (.int a)) u10 (by lia) (λx hx=>ha x (Ap _ hx)) (by simp;lia);refine⟨b::cs,λc hc=>?_,by simp[h2],s9',iw,?_⟩
  ·rcases Al.mp hc with rfl|hc
   ·exact hb1
   ·exact h1 c hc
  rw[Az,NJ,BH,HM,show(AD ns n rows made sn ae last fi bs s9 s10).set 9 (.va (.int a))=AD ns n rows made sn ae last fi bs (.va (.int a)) s10 from rfl,e,HN,ih];simp[Nat.add_assoc,Qn 1]
theorem cel4{x:String}(h:onC x):(decide ("load"=x) || (decide ("take"=x) || (decide ("store"=x) || decide ("put"=x))))=true:=by
 rcases h with rfl|rfl|rfl|rfl<;>decide
theorem snM{m k:Nat}{d:cX}(h:Sn m d)(hk:m<=k):Sn k d:=by obtain⟨ks,vs,e,h1,h2,h3⟩:=h;exact⟨ks,vs,e,h1,h2,by lia⟩
theorem PF(ns:List Int)(n:Nat)(rows:List cX)(made:List Int)(sn:cX)(ae:Int){x:String}{p:Int}{as:List Int}{m:Nat}(hl:ns.length<=63)(hn:n<600000)(hm:m<8000000)(hs:Sn m sn)(hr:0<ae)(hx:onC x)(au:T0 rows (-1)=some (.tup (.str x:: .int p::as.map .int)))(ha:∀a∈as,a∈made)(h3:as.length<=3):∃(q:Int) (cs:List Int) (sn':cX),0<=q/\q<ae/\(∀c∈cs,c∈made)/\cs.length=as.length/\Sn (m+1) sn'/\ZO [WT ns,XS n,.lst rows,.lst (made.map .int),sn,.int ae]=some (.tup (.str x:: .int q::cs.map .int),[XS (n+as.length),sn']):=by
 obtain⟨cs,h1,h2,s9,s10,e⟩:=FG ns rows made sn ae (.tup (.str x:: .int p::as.map .int)) 2 hl as n [] .no .no (by lia) ha (by simp;lia);simp only[AD,Fg,Eh] at e;obtain⟨ks,vs,rfl,k1,k2,k3⟩:=hs;obtain⟨ks',vs',pe,h4,h5,h6,h7,h8⟩:=putI ks vs (.inr (x:Uw)) ((p+1) % ae) k1 k2;have hk:ks.length<16777216:=by lia
 refine⟨(p+1) % ae,cs,.dct ks' (vs'.map .int),Ik _ (by lia),Eu _ hr,h1,h2,⟨ks',vs',rfl,h4,h5,by lia⟩,?_⟩;unfold ZO;rw[bG,VL.eq_1];have hin:=cel4 hx;have j7:V5 (.str x:: .int p::as.map cX.int) (some 2) none=as.map cX.int:=by have:=T1 (ds:=.str x:: .int p::as.map cX.int) (k:=2) (by simp);simpa using this
 have hcl:2+cs.length<=16777216:=by lia
 simp[bD,au,hin,j7,e,hr,hk,k2,pe,h8,hcl]
theorem off4{x:String}(h:¬onC x):(¬x= "load" /\¬ "load"=x)/\(¬x= "take" /\¬ "take"=x)/\(¬x= "store" /\¬ "store"=x)/\¬x= "put" /\¬ "put"=x:=by refine⟨⟨λz=>h (.inl z),λz=>h (.inl z.symm)⟩,⟨λz=>h (.inr (.inl z)),λz=>h (.inr (.inl z.symm))⟩,⟨λz=>h (.inr (.inr (.inl z))),λz=>h (.inr (.inr (.inl z.symm)))⟩,λz=>h (.inr (.inr (.inr z))),λz=>h (.inr (.inr (.inr z.symm)))⟩
theorem HD(ns:List Int)(n:Nat)(rows:List cX)(made:List Int)(sn:cX)(ae:Int){x:String}{as:List Int}(hl:ns.length<=63)(hn:n<600000)(hx:¬onC x)(au:T0 rows (-1)=some (.tup (.str x::as.map .int)))(ha:∀a∈as,a∈made)(h3:as.length<=3):∃cs:List Int,(∀c∈cs,c∈made)/\cs.length=as.length/\ZO [WT ns,XS n,.lst rows,.lst (made.map .int),sn,.int ae]=some (.tup (.str x::cs.map .int),[XS (n+as.length),sn]):=by
 obtain⟨cs,h1,h2,s9,s10,e⟩:=FG ns rows made sn ae (.tup (.str x::as.map .int)) 1 hl as n [] .no .no (by lia) ha (by simp;lia);simp only[AD,Fg,Eh] at e;refine⟨cs,h1,h2,?_⟩;unfold ZO;rw[bG,VL.eq_1];obtain⟨⟨_,z1⟩,⟨_,z2⟩,⟨_,z3⟩,_,z4⟩:=off4 hx;have j7:V5 (.str x::as.map cX.int) (some 1) none=as.map cX.int:=by have:=T1 (ds:=.str x::as.map cX.int) (k:=1) (by simp);simpa using this
 have nv:V5 (.str x::as.map cX.int) none (some 1)=[.str x]:=by have:=RE (ds:=.str x::as.map cX.int) (k:=1);simpa using this
 have hcl:1+cs.length<=16777216:=by lia
 simp[bD,au,z1,z2,z3,z4,j7,nv,e,hcl]
theorem Zo(ns:List Int)(n:Nat)(rows:List cX)(made:List Int)(sn:cX)(ae:Int){last:cX}{m:Nat}(hl:ns.length<=63)(hn:n<600000)(hm:m<8000000)(hs:Sn m sn)(hr:0<ae)(hr2:ae<=64)(au:T0 rows (-1)=some last)(ok:aD (· ∈made) last)(nn:∀k,last≠ .tup [.str "number",.int k]):∃row n' sn',n<=n'/\n'<=n+3/\Sn (m+1) sn'/\aD (· ∈made) row/\ZO [WT ns,XS n,.lst rows,.lst (made.map .int),sn,.int ae]=some (row,[XS n',sn']):=by
 cases ok with
 |number=>exact absurd rfl (nn _)
 | @two x a b hx ha hb=>
  obtain⟨cs,h1,h2,e⟩:=HD ns n rows made sn ae (x:=x) (as:=[a,b]) hl hn (EH hx) au (by simp[ha,hb]) (by simp);match cs,h2 with
  |[c,d],_=>exact⟨_,n+2,sn,by lia,by lia,snM hs (by lia),.two hx (h1 c (by simp)) (h1 d (by simp)),e⟩
 | @pick c a b hc ha hb=>
  obtain⟨cs,h1,h2,e⟩:=HD ns n rows made sn ae (x:= "pick") (as:=[c,a,b]) hl hn (λz=>by rcases z with z|z|z|z<;>exact absurd z (by decide)) au (by simp[ha,hb,hc]) (by simp);match cs,h2 with
  |[c,d,f],_=>exact⟨_,n+3,sn,by lia,by lia,snM hs (by lia),.pick (h1 c (by simp)) (h1 d (by simp)) (h1 f (by simp)),e⟩
 | @load p p0 p1=>
  obtain⟨q,cs,sn',q0,q1,h1,h2,hs',e⟩:=PF ns n rows made sn ae (x:= "load") (p:=p) (as:=[]) hl hn hm hs hr (.inl rfl) au (by simp) (by simp);match cs,h2 with
  |[],_=>exact⟨_,n+0,sn',by lia,by lia,hs',.load q0 (by lia),e⟩
 | @take p c a p0 p1 hc ha=>
  obtain⟨q,cs,sn',q0,q1,h1,h2,hs',e⟩:=PF ns n rows made sn ae (x:= "take") (p:=p) (as:=[c,a]) hl hn hm hs hr (.inr (.inl rfl)) au (by simp[hc,ha]) (by simp);match cs,h2 with
  |[c,d],_=>exact⟨_,n+2,sn',by lia,by lia,hs',.take q0 (by lia) (h1 c (by simp)) (h1 d (by simp)),e⟩
 | @store p a p0 p1 ha=>
  obtain⟨q,cs,sn',q0,q1,h1,h2,hs',e⟩:=PF ns n rows made sn ae (x:= "store") (p:=p) (as:=[a]) hl hn hm hs hr (.inr (.inr (.inl rfl))) au (by simp[ha]) (by simp);match cs,h2 with
  |[c],_=>exact⟨_,n+1,sn',by lia,by lia,hs',.store q0 (by lia) (h1 c (by simp)),e⟩
 | @put p a c p0 p1 ha hc=>
  obtain⟨q,cs,sn',q0,q1,h1,h2,hs',e⟩:=PF ns n rows made sn ae (x:= "put") (p:=p) (as:=[a,c]) hl hn hm hs hr (.inr (.inr (.inr rfl))) au (by simp[ha,hc]) (by simp);match cs,h2 with
  |[c,d],_=>exact⟨_,n+2,sn',by lia,by lia,hs',.put q0 (by lia) (h1 c (by simp)) (h1 d (by simp)),e⟩
structure RI(rows:List cX)(made:List Int)(kds:List Kd):Prop where
 bl:Bl [] rows kds
 ex:∀a,a∈made↔Nm kds .w a
 ml:made.length<=rows.length
theorem RI.len{rows:List cX}{made:List Int}{kds:List Kd}(h:RI rows made kds):kds.length=rows.length:=by have:=h.bl.len;simpa using this
theorem lT{kds:List Kd}{k:Kd}{a:Int}:Nm (kds++[k]) .w a↔Nm kds .w a∨(k=.w/\a=kds.length):=by
 constructor
 ·intro h
  have h0:=h.1;have hl:=h.lt;rw[Cc,Je] at hl;by_cases hi:a.toNat<kds.length
  ·exact .inl ⟨h0,by have:=h.2;rwa[Ak hi] at this⟩
  ·have hi : a.toNat = kds.length := by lia
   have e:=h.2;rw[hi] at e;simp at e;exact .inr ⟨e,by lia⟩
 ·rintro (h|⟨rfl,rfl⟩)
  ·exact h.snoc
  ·exact Nm.new
theorem RI.more{rows:List cX}{made:List Int}{kds:List Kd}{row:cX}(h:RI rows made kds)(r:aD (· ∈made) row):RI (rows++[row]) (if PD .w row=.w then made++[(rows.length:Int)] else made) (kds++[PD .w row]):=by
 refine⟨h.bl.snoc (r.imp λa ha=>(h.ex a).mp ha),λa=>?_,?_⟩
 ·rw[lT,<- h.ex a,h.len]
  split
  ·rename_i e
   simp[e]
  ·rename_i e
   simp[e]
 ·have:=h.ml
  split<;>simp<;>lia
theorem RI.last{rs:List cX}{last:cX}{made:List Int}{kds:List Kd}(h:RI (rs++[last]) made kds):aD (· ∈made) last:=(h.bl.all last (by simp)).imp λa ha=>(h.ex a).mpr ha
noncomputable def PV(ns:List Int)(n:Nat)(many ae:Int)(rows:List cX)(made:List Int)(sn:cX)(s7:Sl):Ev:=
 [.va (WT ns),.ow (XS n),.va (.int many),.va (.int ae),.ow (.lst rows),.ow (.lst (made.map .int)),.ow sn,s7]
theorem LH:∀vs:List Int,UK (vs.map .int)=true
 |[]=>rfl
 |_::vs=>by show((cX.int _).hard&&UK (vs.map .int))=true;rw[LH vs];rfl
theorem EC{m:Nat}{sn:cX}(h:Sn m sn):UM sn=true:=by obtain⟨ks,vs,rfl,_⟩:=h;exact LH vs
theorem DH{row:cX}(x:String)(t:List cX)(e:row=.tup (.str x::t)):PD .w row=.w↔ ¬(x= "store" ∨x= "put"):=by
 subst e;by_cases h:x= "store" ∨x= "put"
 ·rw[lZ h];simp[h]
 ·have : x ∉ ["store","put"] := by simpa using h
  rw[nQ this];simp[h]
theorem rP(ns:List Int)(n:Nat)(many ae:Int){rows:List cX}{made:List Int}{kds:List Kd}{sn:cX}{m:Nat}(s7:Sl)(hl:ns.length<=63)(hn:n<600000)(hm:m<8000000)(hs:Sn m sn)(hr:0<ae)(hr2:ae<=64)(R:RI rows made kds)(h0:rows≠[])(ah:rows.length<1000):∃ak ar al n' sn',RI ak ar al/\rows.length<=ak.length/\((rows.length:Int)<=many->(ak.length:Int)<=many)/\ak.length<=rows.length+1/\n<=n'/\n'<=n+3/\Sn (m+1) sn'/\Y8 (PV ns n many ae rows made sn s7)=some (.nx (PV ns n' many ae ak ar sn' s7)):=by
 obtain⟨rs,last,rfl⟩:∃rs last,rows=rs++[last]:=⟨rows.dropLast,rows.getLast h0,(List.dropLast_concat_getLast h0).symm⟩;have ok:=R.last;have au:=Q7 rs last;have hml:made.length<16777216:=by have:=R.ml;lia
 have hrl:(rs++[last]).length<16777216:=by lia
 generalize rk:rs++[last]=rows at*;obtain⟨x,t,e0,_⟩:=RW ok;by_cases h1:(rows.length:Int)<many
 ·by_cases h2:x= "number"
  ·refine ⟨rows,made,kds,n,sn,R,Am _,id,by lia,by lia,by lia,snM hs (by lia),?_⟩
   unfold Y8;simp[PV,h1,au,e0,h2]
  ·obtain ⟨row,n',sn',n0,n1,hs',okr,e⟩ := Zo ns n rows made sn ae hl hn hm hs hr hr2 au ok (λk z => by rw [e0] at z;simp [YX] at z;exact h2 z.1)
   obtain⟨y,u,e1,_⟩:=RW okr;have hl2:=Q7 rows row;refine⟨_,_,_,n',sn',R.more okr,by simp,by simp;lia,by simp,n0,n1,hs',?_⟩;unfold Y8;have key:=DH y u e1;have hrd:=okr.hard;rw[e1] at hrd;have hsn:=EC hs';by_cases h3:y= "store" ∨y= "put"
   ·rw [if_neg (by rw [key];simp [h3])]
    rcases h3 with rfl|rfl
    ·simp[PV,h1,au,e0,h2,e,hl2,e1,hrl,hrd,hsn]
    ·simp[PV,h1,au,e0,h2,e,hl2,e1,hrl,hrd,hsn]
   ·rw [if_pos (by rw [key];exact h3)]
    have z1:¬ "store"=y:=λz=>h3 (.inl z.symm);have z2:¬ "put"=y:=λz=>h3 (.inr z.symm);simp[PV,h1,au,e0,h2,e,hl2,e1,hrl,hrd,hsn,z1,z2,hml]
 ·refine ⟨rows,made,kds,n,sn,R,Am _,id,by lia,by lia,by lia,snM hs (by lia),?_⟩
  unfold Y8;simp[PV,h1]
theorem Zc(ns:List Int)(many ae:Int)(hl:ns.length<=63)(hr:0<ae)(hr2:ae<=64):∀(ds:List cX) (n:Nat) {rows:List cX} {made:List Int} {kds:List Kd} {sn:cX} {m:Nat} (s7:Sl),n+3*ds.length<600000->m+ds.length<8000000->Sn m sn->RI rows made kds->rows≠[]->rows.length+ds.length<1000->∃ak ar al n' sn' s7',RI ak ar al/\rows.length<=ak.length/\((rows.length:Int)<=many->(ak.length:Int)<=many)/\n<=n'/\n'<=n+3*ds.length/\Sn (m+ds.length) sn'/\WQ (gN 7) Y8 ds (PV ns n many ae rows made sn s7)=some (.nx (PV ns n' many ae ak ar sn' s7'))
 |[],n,rows,made,kds,sn,m,s7,_,_,hs,R,_,_=>⟨rows,made,kds,n,sn,s7,R,Am _,id,by lia,by simp,hs,by simp⟩
 |d::ds,n,rows,made,kds,sn,m,s7,hn,hm,hs,R,h0,hz=>by simp only[Bz] at hn hm hz;obtain⟨lb,my,qf,n1,sn1,R1,a1,a2,a3,a4,a5,hs1,e1⟩:=rP ns n many ae (.va d) hl (by lia) (by lia) hs hr hr2 R h0 (by lia);obtain⟨ak,ar,al,n',sn',s7',R',b1,b2,b3,b4,hs',e⟩:=Zc ns many ae hl hr hr2 ds n1 (.va d) (by lia) (by lia) hs1 R1 (λz=>by rw[z] at a1;simp at a1;exact h0 a1) (by lia);refine⟨ak,ar,al,n',sn',s7',R',by lia,λz=>b2 (a2 z),by lia,by simp only[Bz];lia,snM hs' (by simp only[Bz];lia),?_⟩;rw[NJ,BH,HM,show(PV ns n many ae rows made sn s7).set 7 (.va d)=PV ns n many ae rows made sn (.va d) from rfl,e1,HN,e]
theorem iA(ns:List Int)(n:Nat)(many ae:Int){rows:List cX}{made:List Int}{kds:List Kd}{sn:cX}(s7:Sl)(hl:ns.length<=63)(hn:n<500000)(hs:M5 n sn)(hr:0<ae)(hr2:ae<=64)(R:RI rows made kds)(hlt:(rows.length:Int)<many)(h40:many<=40):∃ak ar al n' sn' s7',RI ak ar al/\rows.length<ak.length/\(ak.length:Int)<=many/\n<=n'/\n'<=n+20/\M5 n' sn'/\W8 (PV ns n many ae rows made sn s7)=some (.nx (PV ns n' many ae ak ar sn' s7')):=by
 obtain⟨row,n1,sn1,c1,c2,hs1,okr,_,e⟩:=rB ns n made sn ae hl (by lia) hs hr hr2;obtain⟨x,hx,ex⟩:=WP ns n1 [.int 0,.int 1,.int 1,.int 2,.int 3] hl (by lia) (by simp);obtain⟨k,rfl,k0,k3⟩:∃k:Nat,x=.int k/\0<=k/\k<=3:=by
  simp only[Al,Bb,or_false] at hx;rcases hx with rfl|rfl|rfl|rfl|rfl
  ·exact⟨0,rfl,by lia,by lia⟩
  ·exact⟨1,rfl,by lia,by lia⟩
  ·exact⟨1,rfl,by lia,by lia⟩
  ·exact⟨2,rfl,by lia,by lia⟩
  ·exact⟨3,rfl,by lia,by lia⟩
 have R1:=R.more okr;have hrl:rows.length<16777216:=by lia
 have hml:made.length<16777216:=by have:=R.ml;lia
 have hdl:(ZC 0 k).length=k:=hV k;obtain⟨ak,ar,al,n',sn',s7',R',b1,b2,b3,b4,hs',ef⟩:=Zc ns many ae hl hr hr2 (ZC 0 k) (n1+1) s7 (by lia) (by lia) hs1 R1 (by simp) (by simp;lia);refine⟨ak,ar,al,n',sn',s7',R',by simp at b1;lia,b2 (by simp;lia),by lia,by lia,snM hs' (by lia),?_⟩;obtain⟨y,u,e1,_⟩:=RW okr;have hl2:=Q7 rows row;have key:=DH y u e1;have hrd:=okr.hard;rw[e1] at hrd;have hsn:=EC hs1;have hk1:(-4611686018427387904:Int)<=k/\(k:Int)<4611686018427387904:=by lia
 unfold W8;by_cases h3:y= "store" ∨y= "put"
 ·rw [if_neg (by rw [key];simp [h3])] at ef
  simp only[PV] at ef;rw[e1] at ef;rcases h3 with rfl|rfl
  ·simp[PV,e,hl2,e1,hrl,hrd,hsn,ex,hk1,ef]
  ·simp[PV,e,hl2,e1,hrl,hrd,hsn,ex,hk1,ef]
 ·rw [if_pos (by rw [key];exact h3)] at ef
  simp only[PV,Ij,Az,Eh] at ef;rw[e1] at ef;have z1:¬ "store"=y:=λz=>h3 (.inl z.symm);have z2:¬ "put"=y:=λz=>h3 (.inr z.symm);simp[PV,e,hl2,e1,hrl,hrd,hsn,ex,hk1,z1,z2,hml,ef]
theorem IL{t:VB}{g:VS}{k:Nat}{δ δ1 δ2:Ev}(h:t δ=some (true,δ1))(h2:g δ1=some (.nx δ2)):aQ t g (k+1) δ=aQ t g k δ2:=by show((t δ).bind λp=>if p.1=true then(g p.2).bind (again (aQ t g k)) else some (.nx p.2))=_;rw[h,Af];show(if true=true then(g δ1).bind (again (aQ t g k)) else _)=_;rw[if_pos rfl,h2];rfl
theorem OS{t:VB}{g:VS}{k:Nat}{δ δ1:Ev}(h:t δ=some (false,δ1)):aQ t g (k+1) δ=some (.nx δ1):=by show((t δ).bind λp=>if p.1=true then(g p.2).bind (again (aQ t g k)) else some (.nx p.2))=_;rw[h];rfl
theorem Zg(ns:List Int)(many ae:Int)(hl:ns.length<=63)(hr:0<ae)(hr2:ae<=64)(h40:many<=40):∀(f:Nat) (n:Nat) {rows:List cX} {made:List Int} {kds:List Kd} {sn:cX} (s7:Sl),many - rows.length<=f->(rows.length:Int)<=many->n+20*f<500000->M5 n sn->RI rows made kds->∃ak ar al n' sn' s7',RI ak ar al/\(ak.length:Int)=many/\n<=n'/\n'<=n+20*f/\aQ (fB (f2 oLt (f1 Y3 (fO 4)) (fV 2))) W8 (f+1) (PV ns n many ae rows made sn s7)=some (.nx (PV ns n' many ae ak ar sn' s7'))
 |0,n,rows,made,kds,sn,s7,h1,h2,hn,hs,R=>by
  refine⟨rows,made,kds,n,sn,s7,R,by lia,by lia,by lia,OS ?_⟩;have:¬(rows.length:Int)<many:=by lia
  simp[PV,this]
 | f + 1,n,rows,made,kds,sn,s7,h1,h2,hn,hs,R => by
  by_cases hlt:(rows.length:Int)<many
  ·obtain ⟨lb,my,qf,n1,sn1,u7,R1,a1,a2,a3,a4,hs1,e1⟩ := iA ns n many ae s7 hl (by lia) hs hr hr2 R hlt h40
   obtain⟨ak,ar,al,n',sn',s7',R',b1,b2,b3,e⟩:=Zg ns many ae hl hr hr2 h40 f n1 u7 (by lia) a2 (by lia) hs1 R1;refine⟨ak,ar,al,n',sn',s7',R',b1,by lia,by lia,?_⟩;rw[IL (δ1:=PV ns n many ae rows made sn s7) (by simp[PV,hlt]) e1,e]
  ·refine ⟨rows,made,kds,n,sn,s7,R,by lia,by lia,by lia,OS ?_⟩
   simp[PV,hlt]
theorem mX(ns:List Int)(n:Nat)(many ae:Int)(hl:ns.length<=63)(hn:n<400000)(hr:0<ae)(hr2:ae<=64)(h0:0<=many)(h40:many<=40):∃rows kds n',Bl [] rows kds/\(rows.length:Int)=many/\n<=n'/\n'<=n+20*40/\X0 [WT ns,XS n,.int many,.int ae]=some (.tup rows,[XS n']):=by obtain⟨rows,made,kds,n',sn,s7,R,a1,a2,a3,e⟩:=Zg ns many ae hl hr hr2 h40 many.toNat n (rows:=[]) (made:=[]) (kds:=[]) (sn:=.dct [] []) .no (by simp;lia) (by simpa using h0) (by lia) ⟨[],[],rfl,rfl,List.nodup_nil,Di _⟩ ⟨.nil,λa=>by simp[Nm],by simp⟩;refine⟨rows,kds,n',R.bl,a1,a2,by lia,?_⟩;have e:=MA e;simp only[PV,Eh] at e;unfold X0;rw[bG,SN.eq_1];simp[bD,e]
theorem gU{f g:VF}{δ δ1 δ2:Ev}{i j:Int}(h1:f δ=some (.int i,δ1))(h2:g δ1=some (.int j,δ2))(hb:(-4611686018427387904<=i/\i<4611686018427387904)/\ -4611686018427387904<=j/\j<4611686018427387904):iR2 f g δ=some (ZC i (j - i).toNat,δ2):=by unfold iR2;rw[h1,Af,h2,Af];exact if_pos hb
theorem OZ(nn:Nat)(tb:VB)(p:cX->Bool)(fe:VF)(f:cX->cX)(δ:Ev)(hδ:δ.length=nn):∀(ds acc:List cX),(∀d∈ds,tb (δ++[Sl.va d])=some (p d,δ++[Sl.va d])/\(p d=true->fe (δ++[Sl.va d])=some (f d,δ++[Sl.va d])))->acc.length+ds.length<16777216->Z9 nn 1 (gN nn) tb fe ds acc δ=some (acc++(ds.filter p).map f,δ)
 |[],acc,_,_=>by simp
 | d :: ds,acc,h,hl => by
  have gp:(δ++[Sl.no]).set nn (.va d)=δ++[Sl.va d]:=by rw[Gu _ _ (by lia)];simp[hδ]
  have bq:(δ++[Sl.va d]).take nn=δ:=by rw[Cz (by lia),Ce (by lia)]
  have bo:acc.length<16777216:=by simp at hl;lia
  obtain⟨h1,h2⟩:=h d Ax;cases hp:p d with
  |true=>
   have ih:=OZ nn tb p fe f δ hδ ds (acc++[f d]) (λe he=>h e (Ap _ he)) (by simp at hl⊢;lia);have h2:=h2 hp;rw[hp] at h1;simp only[RB,Vp,BH,gp,HP,h1,Vo,h2,Vz,if_pos bo,bq,ih];simp[hp]
  |false=>
   have ih:=OZ nn tb p fe f δ hδ ds acc (λe he=>h e (Ap _ he)) (by simp at hl⊢;lia);rw[hp] at h1;simp only[RB,Vp,BH,gp,HP,h1,Yy,bq,ih];simp[hp]
theorem aD.ints{M:Int->Prop}{row:cX}(h:aD M row):∃(x:String) (a:Int) (as:List Int),row=.tup (.str x:: .int a::as.map .int)/\(x= "over" ->∃b,as=[b]/\M b):=by
 cases h with
 | @number n _ _=>exact⟨"number",n,[],rfl,λz=>absurd z (by decide)⟩
 | @two x a b hx ha hb=>exact⟨x,a,[b],rfl,λ_=>⟨b,rfl,hb⟩⟩
 | @pick c a b _ _ _=>exact⟨"pick",c,[a,b],rfl,λz=>absurd z (by decide)⟩
 | @load p _ _=>exact⟨"load",p,[],rfl,λz=>absurd z (by decide)⟩
 | @take p c a _ _ _ _=>exact⟨"take",p,[c,a],rfl,λz=>absurd z (by decide)⟩
 | @store p a _ _ _=>exact⟨"store",p,[a],rfl,λz=>absurd z (by decide)⟩
 | @put p a c _ _ _ _=>exact⟨"put",p,[a,c],rfl,λz=>absurd z (by decide)⟩
theorem UL{k:Nat}:∀as:List Int,∀d∈as.map cX.int,T5 k d
 |[],d,h=>nomatch h
 |a::as,d,h=>by
  rcases Al.mp h with rfl|h
  ·exact ZP
  ·exact UL as d h
theorem D6{M:Int->Prop}{row:cX}(h:aD M row):T5 1 row:=by obtain⟨x,a,as,rfl,_⟩:=h.ints;exact VT (bK ZQ (bK ZP (UL as)))
theorem Zh{sure:Int}{rows:List cX}{kds:List Kd}(hb:Bl [] rows kds){i:Int}(h0:0<=i)(h1:i<rows.length):∃b,Y5 [.tup [.int sure,.tup rows],.int i]=some (.bl b,[]):=by
 have ah:kds.length=rows.length:=by simpa using hb.len
 obtain⟨row,iz,e0⟩:∃row∈rows,T0 rows i=some row:=by
  have hi:i.toNat<rows.length:=by lia
  exact⟨rows[i.toNat],Mc hi,by rw[UB h0 h1];simp[hi]⟩
 have ok:=hb.all row iz;obtain⟨x,a,as,rfl,hov⟩:=ok.ints;unfold Y5;rw[bG];unfold QN;by_cases hx:onC x
 ·have m1:=cel4 hx
  exact⟨_,by simp[bD,e0,m1];rfl⟩
 ·obtain⟨⟨_,z1⟩,⟨_,z2⟩,⟨_,z3⟩,_,z4⟩:=off4 hx
  by_cases ho:x= "over"
  ·obtain⟨b,rfl,hbn⟩:=hov ho
   subst ho;have b0:=hbn.1;have b1:=hbn.lt;obtain⟨og,hr2,e2⟩:∃row∈rows,T0 rows b=some row:=by
    have hi:b.toNat<rows.length:=by lia
    exact⟨rows[b.toNat],Mc hi,by rw[UB b0 (by lia)];simp[hi]⟩
   obtain⟨x2,a2,as2,rfl,_⟩:=(hb.all og hr2).ints;have j7:V5 (.str x2:: .int a2::as2.map cX.int) none (some 2)=[.str x2,.int a2]:=by have:=RE (ds:=.str x2:: .int a2::as2.map cX.int) (k:=2);simpa using this
   have ei:∀δ,iR2 (fC (.int 1)) (fC (.int 1000)) δ=some (ZC 1 ((1000:Int) - 1).toNat,δ):=λδ=>gU (f:=fC (.int 1)) (g:=fC (.int 1000)) (δ:=δ) (δ1:=δ) (δ2:=δ) (i:=1) (j:=1000) rfl rfl (by lia);have ec:=NB 0 (Z1 (cS (fC (.str "number")) (cS (fV 0) b9))) [] (λd=>.tup [.str "number",d]) rfl (ZC 1 ((1000:Int) - 1).toNat) [] (λd _=>by simp) (by simp[ZC]);have hin:∀neg,∃b,Z8 neg (.tup [.str x2,.int a2]) (.lst ((ZC 1 ((1000:Int) - 1).toNat).map λd=>.tup [.str "number",d]))=some (.bl b):=λneg=>⟨_,J0 (j:=1) (k:=1) (VT (bK ZQ (bK ZP ZR))) (λe he=>by
    obtain⟨d,hd,rfl⟩:=Dj.mp he;obtain⟨q,rfl⟩:∃q,d=.int q:=by unfold ZC at hd;obtain⟨q,_,rfl⟩:=Dj.mp hd;exact⟨_,rfl⟩
    exact VT (bK ZQ (bK ZP ZR)))⟩
   obtain⟨bb,hbb⟩:=hin true;simp only[Fg] at ec;generalize (ZC 1 ((1000:Int) - 1).toNat).map (λd=>cX.tup [.str "number",d])=big at*;generalize ZC 1 ((1000:Int) - 1).toNat=rg at*;exact⟨bb,by simp -implicitDefEqProofs [bD,e0,e2,j7,bE,ei,ec,hbb]⟩
  ·exact⟨false,by simp[bD,e0,z1,z2,z3,z4,ho]⟩
def Z7(p:Int×Int):cX:=.tup [.int p.1,.int p.2]
noncomputable def M9:cX:=.tup [.str "load",.str "take",.str "store",.str "put"]
noncomputable def QS(blk:cX)(ps:List (Int×Int))(j:Int)(there:Sl)(s5 s6 s7 s8:Sl):Ev:=
 [.va blk,.ow (.lst (ps.map Z7)),.va M9,.va (.int j),there,s5,s6,s7,s8]
theorem iM{bs:List Bool}:Z8 false (.bl true) (.lst (bs.map .bl))=some (.bl (bs.any id)):=by
 rw[J0 (j:=0) (k:=0) FM (λe he=>by obtain⟨b,_,rfl⟩:=Dj.mp he;exact FM)]
 induction bs with
 |nil=>rfl
 |cons b bs ih=>
  have e:eqD (.bl b) (.bl true)=b:=by cases b<;>rfl
  simp only[Az,Wa,Gx,id,e];simp only[Fo,if_false,Option.some.injEq,cX.bl.injEq] at ih⊢;rw[ih]
theorem DC{i:Int}:∀{as:List Int},i∈as->LJ (.int i) (as.map .int)=true
 |q::as,h=>by
  simp only[Az,Wa];rcases Al.mp h with rfl|h
  ·simp
  ·simp[DC h]
noncomputable def wrT:cX->Bool
 |.tup (.str x::_)=>decide (Bf "store"=x) || decide (Bf "put"=x)
 |_=>false
theorem OI{s1 s2:VS}{δ δ1:Ev}{r:Option Ou}(h1:s1 δ=some (.nx δ1))(h2:s2 δ1=r):cE s1 s2 δ=r:=by rw[US,h1,HL,h2]
theorem eG{sure:Int}{rows:List cX}{kds:List Kd}(hb:Bl [] rows kds)(ps:List (Int×Int)){i j:Int}{here there:cX}(i0:0<=i)(i1:i<rows.length)(j0:0<=j)(j1:j<rows.length)(hh:here∈rows)(ht:there∈rows){as:List Int}(hn:aC [there]=some (.lst (as.map .int),[]))(s7 s8:Sl)(hp:ps.length<1000000):∃(c:Bool) (t7 t8:Sl),(i∈as->c=true)/\W6 (QS (.tup [.int sure,.tup rows]) ps j (.va there) (.va (.int i)) (.va here) s7 s8)=some (.nx (QS (.tup [.int sure,.tup rows]) (ps++if c then[(i,j)] else[]) j (.va there) (.va (.int i)) (.va here) t7 t8)):=by
 obtain⟨b1,e1⟩:=Zh (sure:=sure) hb i0 i1;obtain⟨b2,e2⟩:=Zh (sure:=sure) hb j0 j1;have okh:=hb.all here hh;have okt:=hb.all there ht;have kh:=D6 okh;have kt:=D6 okt;obtain⟨x,a,xs,eh,_⟩:=okh.ints;obtain⟨y,b,ys,et,_⟩:=okt.ints;have hin:Z8 false (.int i) (.lst (as.map .int))=some (.bl (LJ (.int i) (as.map .int))):=by rw[J0 (j:=0) (k:=0) ZP (UL as)];simp
 have qu:=DC (i:=i) (as:=as);generalize LJ (.int i) (as.map .int)=bi at*;have ew:∃w:List cX,Z9 0 1 (gN 0) (fB (f2 (Z8 false) (f2 bT (fV 0) (fC (.int 0))) (Z1 (cS (fC (.str "store")) (cS (fC (.str "put")) b9))))) (fV 0) [here,there] [] []=some (w,[])/\∀d∈w,T5 1 d:=by
  have c:=OZ 0 (fB (f2 (Z8 false) (f2 bT (fV 0) (fC (.int 0))) (Z1 (cS (fC (.str "store")) (cS (fC (.str "put")) b9))))) wrT (fV 0) id [] rfl [here,there] [] (λd hd=>by
   simp only[Al,Bb,or_false] at hd;rcases hd with rfl|rfl
   ·rw[eh];simp[wrT,YX]
   ·rw[et];simp[wrT,YX]) (by simp)
  refine⟨_,c,λd hd=>?_⟩;simp only[Fg,List.map_id_fun,id,Hu,Al,Bb,or_false] at hd;rcases hd.1 with rfl|rfl
  ·exact kh
  ·exact kt
 obtain⟨w,ew,kw⟩:=ew;have hne:QW (.lst w) (.lst [])=some (.bl (!eqD (.lst w) (.lst []))):=DN (j:=2) (k:=0+1) (YE kw) (YE ZR);generalize (!eqD (.lst w) (.lst []))=bw at*;have hp':ps.length<16777216:=by lia
 have x4:∃bx,Z8 false (.str x) M9=some (.bl bx):=⟨_,Ys⟩;have y4:∃by',Z8 false (.str y) M9=some (.bl by'):=⟨_,Ys⟩;have x2:∃bx,Z8 false (.str x) (.tup [.str "store",.str "put"])=some (.bl bx):=⟨_,DD⟩;have y2:∃by',Z8 false (.str y) (.tup [.str "store",.str "put"])=some (.bl by'):=⟨_,DD⟩;obtain⟨bx,x4⟩:=x4;obtain⟨by',y4⟩:=y4;obtain⟨wx,x2⟩:=x2;obtain⟨wy,y2⟩:=y2;subst eh et;have hbl:=iM (bs:=[bi,b1&&b2,bx&&(by'&&(decide (a=b)&&bw)),b1&&wy,b2&&wx]);simp only[Az,Eh] at hbl;refine⟨[bi,b1&&b2,bx&&(by'&&(decide (a=b)&&bw)),b1&&wy,b2&&wx].any id,.va (.lst w),.ow (.lst [.bl bi,.bl (b1&&b2),.bl (bx&&(by'&&(decide (a=b)&&bw))),.bl (b1&&wy),.bl (b2&&wx)]),?_,?_⟩
 ·intro hi
  rw[qu hi];rfl
 ·unfold W6
  refine OI (δ1:=QS (.tup [.int sure,.tup rows]) ps j (.va (.tup (.str y:: .int b::ys.map .int))) (.va (.int i)) (.va (.tup (.str x:: .int a::xs.map .int))) (.va (.lst w)) s8) (by simp[QS,bE,ew]) ?_;refine OI (δ1:=QS (.tup [.int sure,.tup rows]) ps j (.va (.tup (.str y:: .int b::ys.map .int))) (.va (.int i)) (.va (.tup (.str x:: .int a::xs.map .int))) (.va (.lst w)) (.ow (.lst [.bl bi,.bl (b1&&b2)]))) ?_ ?_
  ·clear hbl
   cases b1<;>simp[QS,hn,hin,e1,e2]
  refine OI (δ1:=QS (.tup [.int sure,.tup rows]) ps j (.va (.tup (.str y:: .int b::ys.map .int))) (.va (.int i)) (.va (.tup (.str x:: .int a::xs.map .int))) (.va (.lst w)) (.ow (.lst [.bl bi,.bl (b1&&b2),.bl (bx&&(by'&&(decide (a=b)&&bw)))]))) ?_ ?_
  ·clear hbl
   cases bx<;>cases by'<;>by_cases hab:a=b<;>simp[QS,x4,y4,hne,hab]
  refine OI (δ1:=QS (.tup [.int sure,.tup rows]) ps j (.va (.tup (.str y:: .int b::ys.map .int))) (.va (.int i)) (.va (.tup (.str x:: .int a::xs.map .int))) (.va (.lst w)) (.ow (.lst [.bl bi,.bl (b1&&b2),.bl (bx&&(by'&&(decide (a=b)&&bw))),.bl (b1&&wy)]))) ?_ ?_
  ·clear hbl
   generalize (bx&&(by'&&(decide (a=b)&&bw)))=q3;cases b1<;>simp[-DD,QS,e1,y2]
  refine OI (δ1:=QS (.tup [.int sure,.tup rows]) ps j (.va (.tup (.str y:: .int b::ys.map .int))) (.va (.int i)) (.va (.tup (.str x:: .int a::xs.map .int))) (.va (.lst w)) (.ow (.lst [.bl bi,.bl (b1&&b2),.bl (bx&&(by'&&(decide (a=b)&&bw))),.bl (b1&&wy),.bl (b2&&wx)]))) ?_ ?_
  ·clear hbl
   generalize (bx&&(by'&&(decide (a=b)&&bw)))=q3;cases b2<;>simp[-DD,QS,e2,x2]
  generalize (bx&&(by'&&(decide (a=b)&&bw)))=q3 at*;generalize hq1:(b1&&b2)=q1 at*;generalize hq4:(b1&&wy)=q4 at*;generalize hq5:(b2&&wx)=q5 at*;generalize hc:[bi,q1,q3,q4,q5].any id=c at*;cases c
  ·simp[QS,hbl]
  ·simp[QS,hbl,hp',Z7]
theorem QL(i:Nat)(d:cX)(ds:List cX):YC i (d::ds)=.tup [.int i,d]::YC (i+1) ds:=rfl
abbrev GP(a b:Nat):VG:=GY 2 (aY (gN a) (aY (gN b) WY))
theorem Wo{sure:Int}{rows:List cX}{kds:List Kd}(hb:Bl [] rows kds){j:Int}{there:cX}(j0:0<=j)(j1:j<rows.length)(ht:there∈rows){as:List Int}(hn:aC [there]=some (.lst (as.map .int),[])):∀(hs:List cX) (k:Nat) (ps:List (Int×Int)) (s5 s6 s7 s8:Sl),(∀d∈hs,d∈rows)->k+hs.length<=rows.length->ps.length+hs.length<1000000->∃(qs:List (Int×Int)) (t5 t6 t7 t8:Sl),(∀p∈qs,p.2=j/\(k:Int)<=p.1/\p.1<k+hs.length)/\(∀i∈as,(k:Int)<=i->i<k+hs.length->(i,j)∈qs)/\qs.length<=hs.length∧WQ (GP 5 6) W6 (YC k hs) (QS (.tup [.int sure,.tup rows]) ps j (.va there) s5 s6 s7 s8)=some (.nx (QS (.tup [.int sure,.tup rows]) (ps++qs) j (.va there) t5 t6 t7 t8))
 |[],k,ps,s5,s6,s7,s8,_,_,_=>⟨[],s5,s6,s7,s8,by simp,λi _ h1 h2=>by simp at h2;lia,by simp,by simp[YC]⟩
 | h :: hs,k,ps,s5,s6,s7,s8,hm,hk,hp => by
  simp only[Bz] at hk hp;obtain⟨c,t7,t8,c1,e⟩:=eG (sure:=sure) hb ps (i:=(k:Int)) (j:=j) (here:=h) (there:=there) (by lia) (by lia) j0 j1 (hm h Ax) ht hn s7 s8 (by lia);obtain⟨qs,u5,u6,u7,u8,q1,q2,q3,ih⟩:=Wo hb j0 j1 ht hn hs (k+1) (ps++if c then[((k:Int),j)] else[]) (.va (.int k)) (.va h) t7 t8 (λd hd=>hm d (Ap _ hd)) (by lia) (by cases c<;>simp<;>lia);refine⟨(if c then[((k:Int),j)] else[])++qs,u5,u6,u7,u8,?_,?_,?_,?_⟩
  ·intro p hp
   simp only[Bz];rcases Ck.mp hp with z|z
   ·cases c
    ·simp at z
    ·simp at z;subst z;exact⟨rfl,by simp,by simp;lia⟩
   ·obtain⟨z1,z2,z3⟩:=q1 p z
    exact⟨z1,by lia,by lia⟩
  ·intro i hi h1 h2
   simp only[Bz] at h2;by_cases h3:i=k
   ·subst h3
    rw[c1 hi];simp
   ·exact Ck.mpr (.inr (q2 i hi (by lia) (by lia)))
  ·cases c<;>simp<;>lia
  ·rw[QL,NJ]
   have s1:GP 5 6 (.tup [.int k,h]) (QS (.tup [.int sure,.tup rows]) ps j (.va there) s5 s6 s7 s8)=some (QS (.tup [.int sure,.tup rows]) ps j (.va there) (.va (.int k)) (.va h) s7 s8):=by simp[QS]
   rw[s1,HM,e,HN,ih,Ek]
structure Prs(rows:List cX)(ps:List (Int×Int)):Prop where
 lt:∀p∈ps,0<=p.1/\p.1<p.2/\p.2<rows.length
 nm:∀(j:Nat) (row:cX) (as:List Int),rows[j]?=some row->aC [row]=some (.lst (as.map .int),[])->∀i∈as,0<=i->i<j->(i,(j:Int))∈ps
theorem iR{as bs:List Int}(h:as.map cX.int=bs.map cX.int):as=bs:=by
 induction as generalizing bs with
 |nil=>cases bs with
  |nil=>rfl
  |cons=>simp at h
 | cons a as ih => cases bs with
  |nil=>simp at h
  |cons b bs=>
   simp only[Az,Kf,cX.int.injEq] at h;rw[h.1,ih h.2]
noncomputable def tri:Nat->Nat->Nat
 |0,_=>0
 |t+1,k=>k+tri t (k+1)
theorem pJ{n:Nat}(h:n<=10):tri n 0<64:=by have:=Ei.mp (show(Ar 11).all (λn=>decide (tri n 0<64))=true by decide) n (Ca.mpr (by lia));exact of_decide_eq_true this
theorem Yr{sure:Int}{rows:List cX}{kds:List Kd}(hb:Bl [] rows kds)(h40:rows.length<=10):∀(ts:List cX) (k:Nat) (ps:List (Int×Int)) (s3:Int) (s4 s5 s6 s7 s8:Sl) (x3:Sl),rows.drop k=ts->k+ts.length=rows.length->ps.length+40*ts.length<10000->∃(qs:List (Int×Int)) (t3 t4 t5 t6 t7 t8:Sl),(∀p∈qs,0<=p.1/\p.1<p.2/\p.2<rows.length)/\(∀(j:Nat) (row:cX) (as:List Int),k<=j->rows[j]?=some row->aC [row]=some (.lst (as.map .int),[])->∀i∈as,0<=i->i<j->(i,(j:Int))∈qs)/\(qs.length<=tri ts.length k/\qs.length<=40*ts.length)∧WQ (GP 3 4) W7 (YC k ts) [.va (.tup [.int sure,.tup rows]),.ow (.lst (ps.map Z7)),.va M9,x3,s4,s5,s6,s7,s8]=some (.nx [.va (.tup [.int sure,.tup rows]),.ow (.lst ((ps++qs).map Z7)),.va M9,t3,t4,t5,t6,t7,t8])
 |[],k,ps,s3,s4,s5,s6,s7,s8,x3,h1,h2,_=>by refine⟨[],x3,s4,s5,s6,s7,s8,by simp,λj row as h3 h4=>?_,by simp[tri],by simp[YC]⟩;have:=(Ah.mp h4).1;simp at h2;lia
 | t :: ts,k,ps,s3,s4,s5,s6,s7,s8,x3,h1,h2,hp => by
  simp only[Bz] at h2 hp;have ht:t∈rows:=List.mem_of_mem_drop (by rw[h1];exact Ax);have hk:rows[k]?=some t:=by
   have:(rows.drop k)[0]?=some t:=by rw[h1];rfl
   simpa using this
  obtain⟨as,_,_,hn,_⟩:=FE (hb.all t ht);have ah:(rows.take k).length=k:=by rw[Cb];lia
  obtain⟨qs1,t5,t6,t7,t8,q1,q2,q3,e⟩:=Wo (sure:=sure) hb (j:=(k:Int)) (by lia) (by lia) ht hn (rows.take k) 0 ps s5 s6 s7 s8 (λd hd=>List.mem_of_mem_take hd) (by lia) (by lia);obtain⟨qs2,u3,u4,u5,u6,u7,u8,r1,r2,r3,ih⟩:=Yr hb h40 ts (k+1) (ps++qs1) 0 (.va t) t5 t6 t7 t8 (.va (.int k)) (by rw[<-List.drop_drop,h1];rfl) (by lia) (by simp;lia);refine⟨qs1++qs2,u3,u4,u5,u6,u7,u8,?_,?_,?_,?_⟩
  ·intro p hp
   rcases Ck.mp hp with z|z
   ·obtain⟨z1,z2,z3⟩:=q1 p z
    rw[ah] at z3;exact⟨by lia,by lia,by lia⟩
   ·exact r1 p z
  ·intro j row bs hj hr hbs i hi i0 i1
   by_cases hjk:j=k
   ·subst hjk
    rw[hk] at hr;injection hr with hr;subst hr;rw[hn] at hbs;have:as=bs:=iR (by simpa using hbs);subst this;exact Ck.mpr (.inl (q2 i hi (by lia) (by rw[ah];lia)))
   ·exact Ck.mpr (.inr (r2 j row bs (by lia) hr hbs i hi i0 i1))
  ·simp only[Cc,Bz,tri];lia
  ·rw[QL,NJ]
   have s1:GP 3 4 (.tup [.int k,t]) [.va (.tup [.int sure,.tup rows]),.ow (.lst (ps.map Z7)),.va M9,x3,s4,s5,s6,s7,s8]=some (QS (.tup [.int sure,.tup rows]) ps k (.va t) s5 s6 s7 s8):=by simp[QS]
   have s2:W7 (QS (.tup [.int sure,.tup rows]) ps k (.va t) s5 s6 s7 s8)=some (.nx (QS (.tup [.int sure,.tup rows]) (ps++qs1) k (.va t) t5 t6 t7 t8)):=by
    unfold W7;have hc:=RE (ds:=rows) (k:=k);rw[jA];have:NQ (BF (f2 bT (fV 0) (fC (.int 1))) pNo (BY (fV 3))) (QS (.tup [.int sure,.tup rows]) ps k (.va t) s5 s6 s7 s8)=some (YC 0 (rows.take k),QS (.tup [.int sure,.tup rows]) ps k (.va t) s5 s6 s7 s8):=by simp[QS,hc]
    rw[this,qF_s];exact e
   rw[s1,HM,s2,HN];simp only[QS];rw[ih,Ek]
theorem DU:∀ps:List (Int×Int),N7 (ps.map Z7)=some ps
 |[]=>rfl
 |p::ps=>by show(prD (Z7 p)).bind (λq=>(N7 (ps.map Z7)).map λqs=>q::qs)=_;rw[DU ps];rfl
theorem iW(ps:List (Int×Int))(h64:ps.length<64):∃qs:List (Int×Int),qs.Perm ps/\FL (.lst (ps.map Z7))=some (.lst (qs.map Z7)):=by
 refine⟨(IB ps).map λi=>ps.getD i (0,0),?_,?_⟩
 ·have h := (T9 ps).map λi => ps.getD i (0,0)
  refine h.trans ?_;have:(Ar ps.length).map (λi=>ps.getD i (0,0))=ps:=by refine List.ext_getElem (by simp) λi h1 h2=>?_;simp at h1;simp[h1]
  rw[this]
 ·show (if (ps.map Z7).length < 64 then (N7 (ps.map Z7)).bind λqs => some (cX.lst ((IB qs).map λi => (ps.map Z7).getD i cX.non)) else none) = _
  rw[if_pos (by simpa using h64),DU,Af,Qo];congr 2;refine Jx λi hi=>?_;have:i<ps.length:=Ca.mp ((T9 ps).mem_iff.mp hi);simp[this]
theorem gL{sure:Int}{rows:List cX}{kds:List Kd}(hb:Bl [] rows kds)(h40:rows.length<=10):∃ps:List (Int×Int),Prs rows ps/\ps.length<=1600/\XY [.tup [.int sure,.tup rows]]=some (.lst (ps.map Z7),[]):=by obtain⟨qs,t3,t4,t5,t6,t7,t8,q1,q2,q3,e⟩:=Yr (sure:=sure) hb h40 rows 0 [] 0 .no .no .no .no .no .no (by simp) (by simp) (by simp;lia);simp only[Eh,Fg,M9] at e;obtain⟨ps,hp,es⟩:=iW qs (by have:=pJ h40;lia);refine⟨ps,⟨λp h=>q1 p (hp.mem_iff.mp h),λj row as h1 h2 i hi i0 i1=>hp.mem_iff.mpr (q2 j row as (by lia) h1 h2 i hi i0 i1)⟩,by rw[hp.length_eq];lia,?_⟩;unfold XY;rw[bG,SJ.eq_1];simp[bD,e,es]
theorem RD(nn:Nat)(tb:VB)(p:cX->Bool)(fe:VF)(f:cX->cX)(δ:Ev)(hδ:δ.length=nn):∀(ds acc:List cX),(∀d∈ds,∃a b,d=.tup [a,b]/\tb (δ++[Sl.va a,Sl.va b])=some (p d,δ++[Sl.va a,Sl.va b])/\(p d=true->fe (δ++[Sl.va a,Sl.va b])=some (f d,δ++[Sl.va a,Sl.va b])))->acc.length+ds.length<16777216->Z9 nn 2 (GP nn (nn+1)) tb fe ds acc δ=some (acc++(ds.filter p).map f,δ)
 |[],acc,_,_=>by simp
 | d :: ds,acc,h,hl => by
  obtain⟨a,b,rfl,h1,h2⟩:=h d Ax;have gp:GP nn (nn+1) (.tup [a,b]) (δ++[Sl.no,Sl.no])=some (δ++[Sl.va a,Sl.va b]):=by
   have e1:(δ++[Sl.no,Sl.no]).set nn (.va a)=δ++[Sl.va a,Sl.no]:=by rw[Gu _ _ (by lia)];simp[hδ]
   have e2:(δ++[Sl.va a,Sl.no]).set (nn+1) (.va b)=δ++[Sl.va a,Sl.va b]:=by rw[Gu _ _ (by lia),hδ,show nn+1 - nn=1 by lia];rfl
   simp[e1,e2]
  have bq:(δ++[Sl.va a,Sl.va b]).take nn=δ:=by rw[Cz (by lia),Ce (by lia)]
  have bo:acc.length<16777216:=by simp at hl;lia
  cases hp:p (.tup [a,b]) with
  |true=>
   have ih:=RD nn tb p fe f δ hδ ds (acc++[f (.tup [a,b])]) (λe he=>h e (Ap _ he)) (by simp at hl⊢;lia);have h2:=h2 hp;rw[hp] at h1;simp only[RB,Yj,gp,HP,h1,Vo,h2,Vz,if_pos bo,bq,ih];simp[hp]
  |false=>
   have ih:=RD nn tb p fe f δ hδ ds acc (λe he=>h e (Ap _ he)) (by simp at hl⊢;lia);rw[hp] at h1;simp only[RB,Yj,gp,HP,h1,Yy,bq,ih];simp[hp]
noncomputable def ost(ns:List Int)(n:Nat)(blk:cX)(ps:List (Int×Int))(left made:List Int)(s6:Sl):Ev:=
 [.va (WT ns),.ow (XS n),.va blk,.va (.lst (ps.map Z7)),.ow (.lst (left.map .int)),.ow (.lst (made.map .int)),s6]
noncomputable def pw(left:List Int)(r:Int):cX->Bool
 |.tup [.int a,.int b]=>decide (b=r)&&LJ (.int a) (left.map .int)
 |_=>false
theorem JT{i:Int}:∀{as:List Int},LJ (.int i) (as.map .int)=true↔i∈as
 |[]=>by simp
 |a::as=>by rw[Az,Wa,Ih,eE,decide_eq_true_eq,JT (as:=as),Al];exact⟨λh=>h.imp Eq.symm id,λh=>h.imp Eq.symm id⟩
theorem nB(ps:List (Int×Int))(left:List Int)(r:Int)(hp:ps.length<16777216):Z9 2 2 (GP 2 3) (PQ (fB (f2 WZ (fV 3) (fV 1))) (fB (f2 (Z8 false) (fV 2) (fO 0)))) (fC (.int 1)) (ps.map Z7) [] [.ow (.lst (left.map .int)),.va (.int r)]=some (((ps.map Z7).filter (pw left r)).map λ_=>.int 1,[.ow (.lst (left.map .int)),.va (.int r)]):=by
 have hin:∀a:Int,Z8 false (.int a) (.lst (left.map .int))=some (.bl (LJ (.int a) (left.map .int))):=λa=>by rw[J0 (j:=0) (k:=0) ZP (UL left)];simp
 have:=RD 2 (PQ (fB (f2 WZ (fV 3) (fV 1))) (fB (f2 (Z8 false) (fV 2) (fO 0)))) (pw left r) (fC (.int 1)) (λ_=>.int 1) [.ow (.lst (left.map .int)),.va (.int r)] rfl (ps.map Z7) [] (λd hd=>by
  obtain⟨⟨a,b⟩,_,rfl⟩:=Dj.mp hd;refine⟨.int a,.int b,rfl,?_,λ_=>by simp⟩;have hi:=hin a;have hpw:pw left r (Z7 (a,b))=(decide (b=r)&&LJ (.int a) (left.map .int)):=rfl;rw[hpw];generalize left.map cX.int=L at*;by_cases hb:b=r
  ·simp[hb,hi]
  ·simp[hb]) (by simpa using hp)
 simpa using this
theorem E5{ds:List cX}:eqD (.lst ds) (.lst [])=ds.isEmpty:=by cases ds<;>rfl
def rdD(ps:List (Int×Int))(left:List Int):cX->Bool
 |.int r=>((ps.map Z7).filter (pw left r)).isEmpty
 |_=>false
theorem N6{x:Int}:∀{ns:List Int},x∈ns->∃j,WI x ns=some j/\ns.eraseIdx j=ns.erase x
 | i :: ns,h => by
  unfold WI;by_cases e:i=x
  ·rw[if_pos e];exact⟨0,rfl,by simp[e]⟩
  ·rw[if_neg e]
   obtain⟨j,h1,h2⟩:=N6 (ns:=ns) (by
    rcases Al.mp h with z|z
    ·exact absurd z.symm e
    ·exact z)
   refine⟨j+1,by rw[h1];rfl,?_⟩;rw[List.eraseIdx_cons_succ,h2,List.erase_cons_tail (by simpa using e)]
theorem oV{x:Int}{ns:List Int}(h:x∈ns):mRem (ns.map .int) [.int x]=some ((ns.erase x).map .int):=by obtain⟨j,h1,h2⟩:=N6 h;show(XV (ns.map .int)).bind (λns=>(WI x ns).map λj=>(ns.eraseIdx j).map cX.int)=_;rw[QP,Af,h1,So,h2]
theorem D2{ps:List (Int×Int)}{left:List Int}{r:Int}:rdD ps left (.int r)=true↔ ∀p∈ps,p.2=r->p.1∉left:=by
 show((ps.map Z7).filter (pw left r)).isEmpty=true↔_;rw[Qu,List.filter_eq_nil_iff];constructor
 ·intro h p hp he hl
  have:=h (Z7 p) (Dj.mpr ⟨p,hp,rfl⟩);refine this ?_;show(decide (p.2=r)&&LJ (.int p.1) (left.map .int))=true;rw[JT.mpr hl,he];simp
 ·intro h d hd z
  obtain⟨p,hp,rfl⟩:=Dj.mp hd;have z:(decide (p.2=r)&&LJ (.int p.1) (left.map .int))=true:=z;rw[Ae,decide_eq_true_eq,JT] at z;exact h p hp z.1 z.2
theorem pA(ps:List (Int×Int))(left:List Int)(hp:ps.length<16777216)(hll:left.length<16777216):Z9 2 1 (gN 2) (fB (f2 WZ (ZW [1,2] 2 (U3 (fV 0)) (GY 2 (aY (gN 2) (aY (gN 3) WY))) (PQ (fB (f2 WZ (fV 3) (fV 1))) (fB (f2 (Z8 false) (fV 2) (fO 0)))) (fC (.int 1))) (aA b9))) (fV 2) (left.map .int) [] [.va (.lst (ps.map Z7)),.ow (.lst (left.map .int))]=some ((left.filter λr=>rdD ps left (.int r)).map .int,[.va (.lst (ps.map Z7)),.ow (.lst (left.map .int))]):=by
 have:=OZ 2 (fB (f2 WZ (ZW [1,2] 2 (U3 (fV 0)) (GY 2 (aY (gN 2) (aY (gN 3) WY))) (PQ (fB (f2 WZ (fV 3) (fV 1))) (fB (f2 (Z8 false) (fV 2) (fO 0)))) (fC (.int 1))) (aA b9))) (rdD ps left) (fV 2) id [.va (.lst (ps.map Z7)),.ow (.lst (left.map .int))] rfl (left.map .int) [] (λd hd=>by
  obtain⟨r,_,rfl⟩:=Dj.mp hd;refine⟨?_,λ_=>by simp⟩;have w:=nB ps left r hp;have hq:WZ (.lst (((ps.map Z7).filter (pw left r)).map λ_=>cX.int 1)) (.lst [])=some (.bl (rdD ps left (.int r))):=by
   rw[dZ (j:=1) (k:=1) (YE λd hd=>by obtain⟨_,_,rfl⟩:=Dj.mp hd;exact ZP) (YE ZR),E5,List.isEmpty_map]
   rfl
  generalize ((ps.map Z7).filter (pw left r)).map (λ_=>cX.int 1)=W at*;generalize rdD ps left (.int r)=B at*;generalize left.map cX.int=L at*;generalize ps.map Z7=Q at*;simp[bE,w,hq]) (by simpa using hll)
 rw[this,List.filter_map];simp[Function.comp_def]
theorem rA(ns:List Int)(n:Nat)(blk:cX)(ps:List (Int×Int))(left made:List Int)(s6:Sl)(hl:ns.length<=63)(hn:n<800000)(hne:left≠[])(hs:left.Pairwise (· < ·))(hlt:∀p∈ps,p.1<p.2)(hll:left.length<1000)(hml:made.length<1000)(hpl:ps.length<10000):∃x∈left,(∀p∈ps,p.2=x->p.1∉left)/\∃s6',ZX (ost ns n blk ps left made s6)=some (.nx (ost ns (n+1) blk ps (left.erase x) (made++[x]) s6')):=by
 have hr:=pA ps left (by lia) (by lia);have h0:0<((left.filter λr=>rdD ps left (.int r)).map cX.int).length:=by
  match left,hne,hs with
  |a::t,_,hs=>
   have:a∈((a::t).filter λr=>rdD ps (a::t) (.int r)):=by
    refine Hu.mpr ⟨Ax,D2.mpr λp hp he hi=>?_⟩;have h1:=hlt p hp;rw[he] at h1;rcases Al.mp hi with z|z
    ·lia
    ·have:=(List.pairwise_cons.mp hs).1 _ z
     lia
   rw[By];exact List.length_pos_of_mem this
 obtain⟨d,hd,ed⟩:=WP ns n ((left.filter λr=>rdD ps left (.int r)).map .int) hl (by lia) h0;obtain⟨x,hx,rfl⟩:=Dj.mp hd;obtain⟨hx1,hx2⟩:=Hu.mp hx;have hm:=oV hx1;have hla:=Q7 (made.map cX.int) (.int x);have qt:made.length<16777216:=by lia
 refine⟨x,hx1,D2.mp hx2,.va (.lst ((left.filter λr=>rdD ps left (.int r)).map .int)),?_⟩;unfold ZX;simp only[ost,Ij,Az,Eh];generalize (left.filter λr=>rdD ps left (.int r)).map cX.int=R at*;generalize (left.erase x).map cX.int=E at*;generalize left.map cX.int=L at*;generalize ps.map Z7=Q at*;have qr:(made.map cX.int).length<16777216:=by simpa using qt
 generalize made.map cX.int=D at*;simp[bE,hr,ed,hm,hla,qr]
theorem DR(ns:List Int)(blk:cX)(ps:List (Int×Int))(hl:ns.length<=63)(hlt:∀p∈ps,p.1<p.2)(hpl:ps.length<10000):∀(f n:Nat) (left made:List Int) (s6:Sl),left.length=f->n+f<700000->left.Pairwise (· < ·)->made.length+left.length<1000->(∀p∈ps,p.1∈made∨p.1∈left)->(∀p∈ps,∀k:Nat,made[k]?=some p.2->p.1∈made.take k)->∃(order:List Int) (s6':Sl),order.Perm (made++left)/\(∀p∈ps,∀k:Nat,order[k]?=some p.2->p.1∈order.take k)/\aQ (fB (f2 QW (fO 4) (aA b9))) ZX (f+1) (ost ns n blk ps left made s6)=some (.nx (ost ns (n+f) blk ps [] order s6'))
 |0,n,left,made,s6,hf,hn,hs,hm,h1,h2=>by
  have:left=[]:=Gi.mp hf;subst this;refine⟨made,s6,by simp,h2,OS ?_⟩;have e:QW (.lst []) (.lst [])=some (.bl false):=by rw[DN (j:=1) (k:=1) (YE ZR) (YE ZR),E5];rfl
  simp[ost,e]
 | f + 1,n,left,made,s6,hf,hn,hs,hm,h1,h2 => by
  have hne:left≠[]:=λz=>by rw[z] at hf;simp at hf
  obtain⟨x,hx,hp,u6,e1⟩:=rA ns n blk ps left made s6 hl (by lia) hne hs hlt (by lia) (by lia) hpl;have hle:=List.length_erase_of_mem hx;obtain⟨order,s6',o1,o2,e2⟩:=DR ns blk ps hl hlt hpl f (n+1) (left.erase x) (made++[x]) u6 (by lia) (by lia) (hs.sublist (List.erase_sublist)) (by simp;lia) (λp hp'=>by
   rcases h1 p hp' with z|z
   ·exact .inl (Ck.mpr (.inl z))
   ·by_cases hxx:p.1=x
    ·exact .inl (by simp[hxx])
    ·exact .inr ((List.mem_erase_of_ne hxx).mpr z)) (λp hp' k hk=>by
   by_cases hkl:k<made.length
   ·rw[Ak hkl] at hk
    rw[Cz (by lia)];exact h2 p hp' k hk
   ·have fo:=(Ah.mp hk).1
    simp at fo;have:k=made.length:=by lia
    subst this;simp at hk;have hnl:=hp p hp' hk.symm;rw[Sw];exact(h1 p hp').resolve_right hnl)
  refine⟨order,s6',?_,o2,?_⟩
  ·refine o1.trans ?_
   rw[Ek,List.singleton_append];exact(List.perm_cons_erase hx).symm.append_left made
  ·have e:QW (.lst (left.map .int)) (.lst [])=some (.bl true):=by
    rw[DN (j:=1) (k:=1) (YE (UL left)) (YE ZR),E5];cases left with
    |nil=>exact absurd rfl hne
    |cons=>rfl
   rw[IL (δ1:=ost ns n blk ps left made s6) (by simp[ost,e]) e1,e2,show n+1+f=n+(f+1) by lia]
theorem BE{f:VF}{δ δ1:Ev}{j:Int}(h:f δ=some (.int j,δ1))(h0:0<=j)(h1:j<=16777216):T2 f δ=some (.lst (ZC 0 j.toNat),δ1):=by unfold T2;rw[h,Af];exact if_pos ⟨h0,h1⟩
def CA(k:Nat):List Int:=(Ar k).map λi:Nat=>(i:Int)
theorem oB(k:Nat):ZC 0 k=(CA k).map .int:=by simp[ZC,CA]
theorem D5{k:Nat}{a:Int}:a∈CA k↔0<=a/\a<k:=by
 unfold CA;rw[Dj];constructor
 ·rintro ⟨i,hi,rfl⟩
  have:=Ca.mp hi;lia
 ·rintro ⟨h0,h1⟩
  exact⟨a.toNat,Ca.mpr (by lia),by lia⟩
theorem FY(k:Nat):(CA k).Pairwise (· < ·):=Lf _ (λa b h=>by lia) (List.pairwise_lt_range)
theorem KB(k:Nat):(CA k).length=k:=by simp[CA]
theorem hW(ns:List Int)(n:Nat){sure:Int}{rows:List cX}{kds:List Kd}(hl:ns.length<=63)(hn:n<500000)(hb:Bl [] rows kds)(h40:rows.length<=10):∃(ps:List (Int×Int)) (order:List Int),Prs rows ps/\order.Perm (CA rows.length)/\(∀p∈ps,∀k:Nat,order[k]?=some p.2->p.1∈order.take k)/\aI [WT ns,XS n,.tup [.int sure,.tup rows]]=some (.lst (order.map .int),[XS (n+rows.length)]):=by
 obtain⟨ps,P,hpl,em⟩:=gL (sure:=sure) hb h40;obtain⟨order,s6,o1,o2,e⟩:=DR ns (.tup [.int sure,.tup rows]) ps hl (λp hp=>(P.lt p hp).2.1) (by lia) rows.length n (CA rows.length) [] .no (KB _) (by lia) (FY _) (by simp[KB];lia) (λp hp=>.inr (D5.mpr ⟨(P.lt p hp).1,by have:=P.lt p hp;lia⟩)) (λp hp k hk=>by simp at hk);refine⟨ps,order,P,by simpa using o1,o2,?_⟩;have e:=MA e;simp only[ost,Eh] at e;have er:T2 (f1 Y3 (f2 bT (fV 2) (fC (.int 1)))) [.va (WT ns),.ow (XS n),.va (.tup [.int sure,.tup rows]),.no,.no,.no,.no]=some (.lst ((CA rows.length).map .int),[.va (WT ns),.ow (XS n),.va (.tup [.int sure,.tup rows]),.no,.no,.no,.no]):=by rw[<-oB,BE (j:=(rows.length:Int)) (δ1:=[.va (WT ns),.ow (XS n),.va (.tup [.int sure,.tup rows]),.no,.no,.no,.no]) (by simp) (by lia) (by lia)];simp
 unfold aI;rw[bG,YD.eq_1];generalize (CA rows.length).map cX.int=L at*;generalize order.map cX.int=O at*;generalize ps.map Z7=Q at*;simp[bD,em,er,e]
theorem aD.strong{M:Int->Prop}{row:cX}(h:aD M row):∃as:List Int,(∀a∈as,M a)/\aD (· ∈as) row/\aC [row]=some (.lst (as.map .int),[]):=by
 cases h with
 | @number n h0 h1=>exact⟨[],(λ_ h=>nomatch h),.number h0 h1,by kernel_rfl⟩
 | @two x a b hx ha hb=>
  refine⟨[a,b],by simp[ha,hb],.two hx (by simp) (by simp),?_⟩;simp only[Al,Bb,or_false] at hx;rcases hx with rfl|rfl|rfl|rfl|rfl|rfl|rfl<;>kernel_rfl
 | @pick c a b hc ha hb=>exact⟨[c,a,b],by simp[hc,ha,hb],.pick (by simp) (by simp) (by simp),by kernel_rfl⟩
 | @load p h0 h1=>exact⟨[],(λ_ h=>nomatch h),.load h0 h1,by kernel_rfl⟩
 | @take p c a h0 h1 hc ha=>exact⟨[c,a],by simp[hc,ha],.take h0 h1 (by simp) (by simp),by kernel_rfl⟩
 | @store p a h0 h1 ha=>exact⟨[a],by simp[ha],.store h0 h1 (by simp),by kernel_rfl⟩
 | @put p a c h0 h1 ha hc=>exact⟨[a,c],by simp[ha,hc],.put h0 h1 (by simp) (by simp),by kernel_rfl⟩
theorem FX{as:List Int}{row:cX}(h:aD (· ∈as) row){ks:List aK}{vs:List cX}(μ:Int->Int)(hk:∀a∈as,a6 ks vs (.inl a)=some (.int (μ a))):∃cf,bV [row,.dct ks vs]=some (cf,[])/\aD (λb=>∃a∈as,b=μ a) cf/\PD .w cf=PD .w row:=by
 cases h with
 | @number n h0 h1=>
  refine⟨_,?_,.number h0 h1,rfl⟩;unfold bV;rw[bG];unfold aL;simp[bD]
 | @two x a b hx ha hb=>
  have z0:=(dne hx (y:= "number") (by decide)).1;have z1:=(dne hx (y:= "load") (by decide)).2;have z2:=(dne hx (y:= "take") (by decide)).2;have z3:=(dne hx (y:= "store") (by decide)).2;have z4:=(dne hx (y:= "put") (by decide)).2;refine⟨.tup [.str x,.int (μ a),.int (μ b)],?_,.two hx ⟨a,ha,rfl⟩ ⟨b,hb,rfl⟩,?_⟩
  ·unfold bV
   rw[bG];unfold aL;simp[bD,z0,z1,z2,z3,z4,bE,hk a ha,hk b hb]
  ·simp only[Al,Bb,or_false] at hx
   rcases hx with rfl|rfl|rfl|rfl|rfl|rfl|rfl<;>rfl
 | @pick c a b hc ha hb=>
  refine⟨.tup [.str "pick",.int (μ c),.int (μ a),.int (μ b)],?_,.pick ⟨c,hc,rfl⟩ ⟨a,ha,rfl⟩ ⟨b,hb,rfl⟩,rfl⟩;unfold bV;rw[bG];unfold aL;simp[bD,bE,hk a ha,hk b hb,hk c hc]
 | @load p h0 h1=>
  refine⟨.tup [.str "load",.int p],?_,.load h0 h1,rfl⟩;unfold bV;rw[bG];unfold aL;simp[bD,bE]
 | @take p c a h0 h1 hc ha=>
  refine⟨.tup [.str "take",.int p,.int (μ c),.int (μ a)],?_,.take h0 h1 ⟨c,hc,rfl⟩ ⟨a,ha,rfl⟩,rfl⟩;unfold bV;rw[bG];unfold aL;simp[bD,bE,hk a ha,hk c hc]
 | @store p a h0 h1 ha=>
  refine⟨.tup [.str "store",.int p,.int (μ a)],?_,.store h0 h1 ⟨a,ha,rfl⟩,rfl⟩;unfold bV;rw[bG];unfold aL;simp[bD,bE,hk a ha]
 | @put p a c h0 h1 ha hc=>
  refine⟨.tup [.str "put",.int p,.int (μ a),.int (μ c)],?_,.put h0 h1 ⟨a,ha,rfl⟩ ⟨c,hc,rfl⟩,rfl⟩;unfold bV;rw[bG];unfold aL;simp[bD,bE,hk a ha,hk c hc]
theorem Bl.at{kds al:List Kd}{rows:List cX}(h:Bl kds rows al):∀{j:Nat} {row:cX},rows[j]?=some row->aD (λa=>Nm al .w a/\a<kds.length+j) row/\al[kds.length+j]?=some (PD .w row)/\∀a,Nm kds .w a->Nm al .w a:=by
 have keep:∀{k k':List Kd} {rs:List cX},Bl k rs k'->∀(i:Nat) (x:Kd),k[i]?=some x->k'[i]?=some x:=by
  intro k k' rs h;induction h with
  |nil=>exact λ_ _ z=>z
  |cons _ _ ih=>exact λi x z=>ih i x (by rw[Ak (Ah.mp z).1];exact z)
 induction h with
 |nil=>intro j row hr;simp at hr
 | @cons kds al r rows a t ih=>
  intro j row hr;cases j with
  |zero=>
   simp at hr;subst hr;refine⟨a.imp λx hx=>⟨⟨hx.1,keep t _ _ (hx.snoc (j:=PD .w r)).2⟩,by have:=hx.lt;lia⟩,keep t _ _ (by simp),λx hx=>⟨hx.1,keep t _ _ (hx.snoc (j:=PD .w r)).2⟩⟩
  |succ j=>
   obtain⟨h1,h2,h3⟩:=ih (by simpa using hr);rw[Cc,Je] at h1 h2;refine⟨h1.imp λx hx=>⟨hx.1,by have:=hx.2;lia⟩,by rw[show kds.length+(j+1)=kds.length+1+j by lia];exact h2,λx hx=>h3 x hx.snoc⟩
noncomputable def swD:cX->cX
 |.tup [a,b]=>.tup [b,a]
 |_=>.non
noncomputable def AB:Nat->List Int->List (aK×cX)
 |_,[]=>[]
 |k,x::xs=>(.inl x,.int (k:Int))::AB (k+1) xs
theorem G3:∀(xs:List Int) (k:Nat),UN ((YC k (xs.map .int)).map swD)=some (AB k xs)
 |[],_=>rfl
 |x::xs,k=>by rw[Az,QL,Az];show(BN (.tup [.int x,.int (k:Int)])).bind (λp=>(UN ((YC (k+1) (xs.map .int)).map swD)).map λps=>p::ps)=_;rw[G3 xs (k+1)];rfl
theorem PC:∀(xs:List Int) (k:Nat),(AB k xs).map Dn=xs.map .inl
 |[],_=>rfl
 |x::xs,k=>by rw[AB,Az,PC xs (k+1)];rfl
theorem DF:∀(xs:List Int) (k i:Nat),i<xs.length->((AB k xs).map Eo)[i]?=some (.int ((k+i:Nat):Int))
 |[],_,i,h=>by simp at h
 |x::xs,k,0,_=>rfl
 |x::xs,k,i+1,h=>by have:=DF xs (k+1) i (by simpa using h);rw[AB,Az,List.getElem?_cons_succ,this];congr 3;lia
theorem lB{order:List Int}(nd:order.Nodup){a:Int}(ha:a∈order):a6 ((AB 0 order).map Dn) ((AB 0 order).map Eo) (.inl a)=some (.int (order.idxOf a:Int)):=by
 have hi:order.idxOf a<order.length:=Kg ha;rw[G8 _ _ (order.idxOf a) (.inl a) ?_ (by simp) ?_,DF _ _ _ hi]
 ·simp
 ·rw[PC]
  exact Lf _ (λa b h e=>h (by injection e)) nd
 ·rw[PC,Co,Dg hi,Pl hi]
  rfl
def U8(rows:List cX)(r:Int):cX:=(rows[r.toNat]?).getD .non
noncomputable def FW(rows:List cX)(names:cX):cX->cX
 |.int r=>match bV [U8 rows r,names] with
  |some (d,_)=>d
  |none=>.non
 |_=>.non
theorem D3{rows os:List cX}{names cf:cX}{r:Int}(e:bV [U8 rows r,names]=some (cf,os)):FW rows names (.int r)=cf:=by simp only[FW,e]
def JN(order:List Int):cX:=.dct ((AB 0 order).map Dn) ((AB 0 order).map Eo)
theorem Wg{rows:List cX}{kds:List Kd}(hb:Bl [] rows kds){ps:List (Int×Int)}(P:Prs rows ps){order:List Int}(o1:order.Perm (CA rows.length))(o2:∀p∈ps,∀k:Nat,order[k]?=some p.2->p.1∈order.take k){pre rest:List Int}{r:Int}(ho:order=pre++r::rest):∃cf,bV [U8 rows r,JN order]=some (cf,[])/\T0 rows r=some (U8 rows r)/\aD (Nm (pre.map λa=>PD .w (U8 rows a)) .w) cf/\PD .w cf=PD .w (U8 rows r):=by
 have nd:order.Nodup:=o1.nodup_iff.mpr ((FY _).imp λh=>by lia);have hr:r∈order:=by rw[ho];simp
 have hr2:=D5.mp (o1.mem_iff.mp hr);have iz:rows[r.toNat]?=some (U8 rows r):=by unfold U8;rw[Dg (by lia)];rfl
 obtain⟨h1,h2,_⟩:=hb.at iz;obtain⟨as,a1,a2,a3⟩:=h1.strong;have cg:∀a∈as,a∈pre:=λa ha=>by
  have h3:=a1 a ha;have h4:a<r:=by have:=h3.2;simp at this;lia
  have hp:=P.nm r.toNat _ as iz a3 a ha h3.1.1 (by lia);have:=o2 _ hp pre.length (by rw[ho];simp;lia);rw[ho,Sw] at this;exact this
 obtain⟨cf,e,ok,mk⟩:=FX a2 (ks:=(AB 0 order).map Dn) (vs:=(AB 0 order).map Eo) (λa=>(order.idxOf a:Int)) (λa ha=>lB nd (by rw[ho];exact Ck.mpr (.inl (cg a ha))));refine⟨cf,e,by rw[UB hr2.1 (by lia)];exact iz,ok.imp λb hb'=>?_,mk⟩;obtain⟨a,ha,rfl⟩:=hb';have hap:=cg a ha;have hi:pre.idxOf a<pre.length:=Kg hap;have hio:order.idxOf a=pre.idxOf a:=by rw[ho,List.idxOf_append,if_pos hap]
 refine⟨by lia,?_⟩;rw[hio,Ir,Co,Dg hi,Pl hi];have h3:=(a1 a ha).1;have hlt:=h3.lt;have ah:kds.length=rows.length:=by simpa using hb.len
 have nk:rows[a.toNat]?=some (U8 rows a):=by unfold U8;rw[Dg (by have:=h3.1;lia)];rfl
 obtain⟨_,h5,_⟩:=hb.at nk;simp only[Mo,Ja] at h5;have:=h3.2;rw[h5] at this;injection this with this;rw[So,this]
theorem Wm{rows:List cX}{kds:List Kd}(hb:Bl [] rows kds){ps:List (Int×Int)}(P:Prs rows ps){order:List Int}(o1:order.Perm (CA rows.length))(o2:∀p∈ps,∀k:Nat,order[k]?=some p.2->p.1∈order.take k):∀(rest pre:List Int),order=pre++rest->Bl (pre.map λa=>PD .w (U8 rows a)) ((rest.map .int).map (FW rows (JN order))) (order.map λa=>PD .w (U8 rows a))
 |[],pre,ho=>by rw[ho,Cu];exact .nil
 |r::rest,pre,ho=>by obtain⟨cf,e,_,ok,mk⟩:=Wg hb P o1 o2 ho;have er:=D3 e;have ih:=Wm hb P o1 o2 rest (pre++[r]) (by rw[ho,Ek];rfl);rw[Az,Az,er];refine .cons ok ?_;rw[mk];simpa using ih
theorem fF(ns:List Int)(n:Nat)(most:Int)(hl:ns.length<=63)(hn:n<100000)(h0:0<=most)(h40:most<=10):∃(sure:Int) (rows:List cX) (kds:List Kd) (n':Nat),Bl [] rows kds/\(rows.length:Int)<=most/\0<=sure/\sure<=64/\n'<=n+1000/\ZU [WT ns,XS n,.int most]=some (.tup [.int sure,.tup rows],[XS n']):=by
 obtain⟨x,hx,ex⟩:=WP ns n [.int 3,.int 6,.int 9,.int 64] hl (by lia) (by simp);obtain⟨ae,rfl,r0,r1⟩:∃q:Int,x=.int q/\0<q/\q<=64:=by simp only[Al,Bb,or_false] at hx;rcases hx with rfl|rfl|rfl|rfl<;>exact⟨_,rfl,by lia,by lia⟩
 have d1:=W9 ns (n+1) (ae+1) hl (by lia) (by lia);have d1a:=NC ns (n+1) (b:=ae+1) (by lia);have d1b:IQ ns (n+1) (ae+1)<ae+1:=Eu _ (by lia);obtain⟨y,hy,ey⟩:=WP ns (n+2) [.int 0,.int ae,.int ae,.int (IQ ns (n+1) (ae+1))] hl (by lia) (by simp);obtain⟨sure,rfl,s0,s1⟩:∃q:Int,y=.int q/\0<=q/\q<=64:=by simp only[Al,Bb,or_false] at hy;rcases hy with rfl|rfl|rfl|rfl<;>exact⟨_,rfl,by lia,by lia⟩
 have d2:=W9 ns (n+3) (most+1) hl (by lia) (by lia);have d2a:=NC ns (n+3) (b:=most+1) (by lia);have d2b:IQ ns (n+3) (most+1)<most+1:=Eu _ (by lia);obtain⟨rows,kds,n1,hb,ah,m1,m2,e1⟩:=mX ns (n+4) (IQ ns (n+3) (most+1)) ae hl (by lia) r0 r1 d2a (by lia);have d3:=W9 ns n1 3 hl (by lia) (by decide);have hrl:rows.length<=10:=by lia
 by_cases h3:0<IQ ns n1 3
 ·refine ⟨sure,rows,kds,n1 + 1,hb,by lia,s0,s1,by lia,?_⟩
  unfold ZU;rw[bG];unfold WN;simp[bD,ex,d1,ey,d2,e1,d3,h3]
 ·obtain ⟨ps,order,P,o1,o2,e2⟩ := hW ns (n1 + 1) (sure := sure) hl (by lia) hb hrl
  have hol:order.length=rows.length:=by rw[o1.length_eq,KB]
  have nd:order.Nodup:=o1.nodup_iff.mpr ((FY _).imp λh=>by lia);have c1:=RD 0 U1 (λ_=>true) (Z1 (cS (fV 1) (cS (fV 0) b9))) swD [] rfl (YC 0 (order.map .int)) [] (λd hd=>by obtain⟨i,hi,e⟩:=List.getElem_of_mem hd;obtain⟨z,_,rfl⟩:=NE (Ah.mpr ⟨hi,e⟩);exact⟨_,_,rfl,by simp,λ_=>by simp[swD]⟩) (by rw[NF];simp;lia)
  have f1:(YC 0 (order.map cX.int)).filter (λ_=>true)=YC 0 (order.map .int):=List.filter_eq_self.mpr λ_ _=>rfl;rw[f1,Fg] at c1;have hd:DL (.lst ((YC 0 (order.map .int)).map swD))=some (JN order):=by
   show(UN ((YC 0 (order.map .int)).map swD)).bind (λkds=>if(kds.map Dn).Nodup then some (cX.dct (kds.map Dn) (kds.map Eo)) else none)=_;rw[G3,Af,if_pos]
   ·rfl
   ·rw[PC]
    exact Lf _ (λa b h e=>h (by injection e)) nd
  have c2:=NB 2 (cL 2 [] bV (aE (f2 bT (f2 bT (fV 0) (fC (.int 1))) (fV 2)) (aE (fV 1) cA))) [.va (.tup [.int sure,.tup rows]),.va (JN order)] (FW rows (JN order)) rfl (order.map .int) [] (λd hd=>by obtain⟨r,hr,rfl⟩:=Dj.mp hd;obtain⟨pre,rest,ho⟩:=List.append_of_mem hr;obtain⟨cf,e,ea,_,_⟩:=Wg hb P o1 o2 ho;have er:=D3 e;rw[er];simp[ea,e]) (by simp;lia)
  rw[Fg] at c2;have B:=Wm hb P o1 o2 order [] rfl;refine⟨sure,(order.map .int).map (FW rows (JN order)),_,n1+1+rows.length,B,by simp;lia,s0,s1,by lia,?_⟩;have h3':¬0<IQ ns n1 3:=h3;unfold ZU;rw[bG];unfold WN;have hln:((order.map cX.int).map (FW rows (JN order))).length<=16777216:=by simp;lia
  generalize (order.map cX.int).map (FW rows (JN order))=R at*;generalize (YC 0 (order.map cX.int)).map swD=S at*;generalize JN order=D at*;simp[bD,ex,d1,ey,d2,e1,d3,h3',e2,bE,c1,hd,c2]
noncomputable def LU:List cX:=[.non,.int 5,.tup [],.tup [.int 0],.tup [.int 0,.lst []],.lst [.int 0,.tup []],.tup [.int (-1),.tup []],.tup [.int 65,.tup []],.tup [.bl true,.tup []],.tup [.str "0",.tup []],.tup [.int 0,.tup [],.tup []],.tup [.int 0,.tup [.tup []]],.tup [.int 0,.tup [.tup [.str "number"]]],.tup [.int 0,.tup [.tup [.str "number",.int 1000]]],.tup [.int 0,.tup [.tup [.str "plus",.int 0,.int 0]]],.tup [.int 0,.tup [.lst [.str "load",.int 0]]],.tup [.int 0,.tup [.tup [.str "load",.int 64]]],.tup [.int 0,.tup [.tup [.str "load",.int (-1)]]],.tup [.int 0,.tup [.tup [.str "halve",.int 0]]],.tup [.int 0,.tup [.tup [.int 5,.int 0]]],.tup [.int 0,.tup [.tup [.str "number",.int 1],.tup [.str "store",.int 0,.int 0],.tup [.str "plus",.int 0,.int 1]]],.tup [.int 0,.tup (As 41 (.tup [.str "number",.int 1]))],.tup [.int 0,.tup [.tup [.str "number",.int 1],.tup [.str "plus",.int 0,.int 1]]]]
theorem pV(a b:cX):SK [.va a,.ow b,.no]=bO (cL 3 [1] bS (aE (fV 0) (aO 1 (aE (fV 2) cA)))) [.va a,.ow b,.va (.lst LU)]:=by kernel_rfl
theorem JY(ns:List Int)(n:Nat)(hl:ns.length<=63)(hn:n<900000):∃x∈LU,YT [WT ns,XS n]=some (x,[XS (n+1)]):=by obtain⟨x,hx,ex⟩:=WP ns n LU hl hn (by simp[LU]);refine⟨x,hx,?_⟩;unfold YT;rw[bG,show bD [1] 3 [WT ns,XS n]=[.va (WT ns),.ow (XS n),.no] from rfl,pV];simp[ex]
noncomputable def AA:Kd->Bool
 |.w=>true
 |_=>false
theorem gG{kds:List Kd}{a:Int}(h:Nm kds .w a):Ab (kds.map AA) a:=⟨h.1,by rw[Co,h.2];rfl⟩
theorem mkw{x:String}{t:List cX}:Y6 [.tup (.str x::t)]=some (.bl (AA (PD .w (.tup (.str x::t)))),[]):=by
 unfold Y6;rw[bG];unfold VM;by_cases h:x= "store"
 ·subst h
  simp[bD,X3,PD,YX,AA]
 ·by_cases h2:x= "put"
  ·subst h2
   simp[bD,X3,PD,YX,AA]
  ·have h3 : ¬ "store" = x := λz => h z.symm
   have h4:¬ "put"=x:=λz=>h2 z.symm;simp[bD,X3,PD,YX,AA,h,h2,h3,h4]
theorem dL(rest:List cX)(blk rws:cX)(sure:Int){kds al:List Kd}{rows:List cX}(h:Bl kds rows al):kds.length+rows.length<1000->∀s:Sl,∃s',WQ (gN 4) YB (rows++rest) [.va blk,.va (.int sure),.va rws,.ow (.lst ((kds.map AA).map .bl)),s]=WQ (gN 4) YB rest [.va blk,.va (.int sure),.va rws,.ow (.lst ((al.map AA).map .bl)),s']:=by
 induction h with
 |nil=>exact λ_ s=>⟨s,rfl⟩
 | @cons kds al row rows ok h ih=>
  intro hk s;obtain⟨s',ih⟩:=ih (by simp at hk⊢;lia) (.va row);refine⟨s',?_⟩;have e:=eY (ok.imp λa=>gG);obtain⟨x,t,rfl,_⟩:=RW ok;have hk':kds.length<16777216:=by simp at hk;lia
  rw[Ij,Ij] at ih;simp only[Az,Eh] at ih;rw[Ji,NJ,BH,HM];have b1:YB [.va blk,.va (.int sure),.va rws,.ow (.lst ((kds.map AA).map .bl)),.va (.tup (.str x::t))]=some (.nx [.va blk,.va (.int sure),.va rws,.ow (.lst ((kds.map AA).map .bl++[.bl (AA (PD .w (.tup (.str x::t))))])),.va (.tup (.str x::t))]):=by unfold YB;simp only[Qo] at e;simp[e,mkw,hk',cX.hard]
  have s1:([.va blk,.va (.int sure),.va rws,.ow (.lst ((kds.map AA).map .bl)),s]:Ev).set 4 (.va (.tup (.str x::t)))=[.va blk,.va (.int sure),.va rws,.ow (.lst ((kds.map AA).map .bl)),.va (.tup (.str x::t))]:=rfl;rw[s1,b1,HN];exact ih
theorem E8{sure:Int}{rows:List cX}{kds:List Kd}(h:Bl [] rows kds)(s0:0<=sure)(s1:sure<=64)(r40:rows.length<=40):aV [.tup [.int sure,.tup rows]]=some (.bl true,[]):=by
 obtain⟨s',e1⟩:=dL [] (.tup [.int sure,.tup rows]) (.tup rows) sure h (by simp;lia) .no;rw[Cu] at e1;simp only[Eh] at e1;have h40:¬(40:Int)<(rows.length:Int):=by lia
 unfold aV;rw[bG,SG.eq_1];simp[bD,UD,UC,s0,s1,h40,e1]
theorem rep1(k:Nat)(d:cX):WJ k [d]=As k d:=by
 unfold WJ;induction k with
 |zero=>rfl
 |succ k ih=>rw[Dz,Gc,ih,Dz];rfl
theorem Ww(d:cX)(k:Int)(h0:0<=k)(h1:k<=64):RP (.lst [d]) (.int k)=some (.lst (As k.toNat d)):=by simp only[RP];rw[if_pos ⟨⟨h0,by lia⟩,by simp;lia⟩,rep1]
theorem mM{k:Nat}{d:cX}(h:T5 k d)(hk:k<=64:=by decide):QW d d=some (.bl false):=by rw[DN h h hk hk,qE h];rfl
theorem ML(d:cX):YQ [.exr "NoRow" "row" d]=some (.tup [.str "refused",.int 2],[]):=by kernel_rfl
theorem Wu{δ:Ev}:DX δ none=none:=(rfl)
theorem Yt:qRet none=none:=(rfl)
theorem pl2{a b:cX}:VU [.d a,.d b]=some [a,b]:=(rfl)
theorem R7{d:cX}{lo hi:cX}(hd:d=.non∨(∃b,d=.bl b)∨(∃s,d=.str s)∨∃l,d=.lst l):bW [d,lo,hi]=some (.bl false,[]):=by
 rcases hd with rfl|⟨b,rfl⟩|⟨s,rfl⟩|⟨l,rfl⟩<;>kernel_rfl
noncomputable def gl1:VS:=(aG 1 (xO (aA b9)))
noncomputable def gl2:VS:=(WR (fB (f2 QW (ZW [0,1] 1 (iR1 (fC (.int 3))) (gN 2) U1 (cL 3 [] bQ (aE (fV 2) (aE (cL 2 [1] YT (aE (fV 0) (aO 1 cA))) (aE (fC .non) cA))))) (f2 RP (fC (.lst [.tup [.str "refused",.int 0]])) (fC (.int 3))))) (bO (fC (.bl false))) Z3)
noncomputable def gl3:VS:=(aG 2 (xV (cL 3 [1] ZU (aE (fV 0) (aO 1 (aE (fC (.int 9)) cA))))))
noncomputable def gl4:VS:=(aG 3 (xV (f1 Y3 (f2 bT (fV 2) (fC (.int 1))))))
noncomputable def gl5:VS:=(PX (U3 (aA (cS (fC .non) (cS (f1 NY (fC (.int 1))) (cS (fC (.str "0")) (cS (fV 3) (cS (aA (cS (fC (.int 0)) b9)) (cS (Z1 (cS (fC (.int 0)) b9)) b9)))))))) (gN 4) Q8)
noncomputable def gl6:VS:=(aG 5 (xV (cL 3 [] bQ (aE (fC (.int 0)) (aE (fV 2) (aE (fC (.bl false)) cA))))))
noncomputable def gl7:VS:=(WR (EX (fB (f2 QW (fV 5) (fC (.tup [.str "row",.bl false,.bl true,.tup [.str "refused",.int 2]])))) (VC (fB (f2 SV (f2 bT (fV 5) (fC (.int 1))) (fC (.ty "bool")))))) (bO (fC (.bl false))) Z3)
noncomputable def gl8:VS:=(bO (U2 (f2 WZ (cL 3 [] bQ (aE (fC (.int 2)) (aE (fC (.tup [.int 0,.tup []])) (aE (fC .non) cA)))) (aA b9)) (f2 WZ (cL 3 [] bQ (aE (fC (.int 0)) (aE (fC (.tup [.int 1,.tup [.tup [.str "load",.int 0]]])) (aE (fC (.int 0)) cA)))) (aA b9))))
theorem qW:Vy=cE gl1 (cE gl2 (cE gl3 (cE gl4 (cE gl5 (cE gl6 (cE gl7 (gl8))))))):=rfl
theorem CS(l:List cX){lo hi:cX}:bW [.tup l,lo,hi]=some (.bl false,[]):=by kernel_rfl
theorem FH:LU.map (λx=>(bQ [.int 0,x,.non],bQ [.int 1,x,.non],bQ [.int 2,x,.non]))=As 23 (some (.tup [.str "refused",.int 0],[]),some (.tup [.str "refused",.int 0],[]),some (.tup [.str "refused",.int 0],[])):=by kernel_rfl
theorem M6{x:cX}(hx:x∈LU):bQ [.int 0,x,.non]=some (.tup [.str "refused",.int 0],[])/\bQ [.int 1,x,.non]=some (.tup [.str "refused",.int 0],[])/\bQ [.int 2,x,.non]=some (.tup [.str "refused",.int 0],[]):=by have:=List.eq_of_mem_replicate (FH▸Nz hx);exact⟨congrArg (·.1) this,congrArg (·.2.1) this,congrArg (·.2.2) this⟩
section
variable{blk d:cX}{rows:List cX}{sure:Int}(hb:aV [.tup [.int sure,.tup rows]]=some (.bl true,[]))
include hb
theorem CB(hw:bW [d,.int 0,.int ((rows.length:Int) - 1)]=some (.bl false,[])):YY [.tup [.int sure,.tup rows],d]=none/\Y0 [.tup [.int sure,.tup rows],d]=some (("NoRow":Uw),some (("row":Uw),d)):=by
 constructor
 ·unfold YY
  rw[bG];unfold NP;simp[bD,hb,hw];rfl
 ·unfold Y0 MX OU
  simp[bD,hb,hw,zAlt,zIf,zSeq,zNo,PL]
theorem C0(hw:bW [d,.int 0,.int ((rows.length:Int) - 1)]=some (.bl false,[])):bQ [.int 0,.tup [.int sure,.tup rows],d]=some (.tup [.str "row",d,.bl true,.tup [.str "refused",.int 2]],[])/\bQ [.int 1,.tup [.int sure,.tup rows],d]=some (.tup [.str "row",d,.bl true,.tup [.str "refused",.int 2]],[]):=by
 obtain⟨h1,h2⟩:=CB hb hw;have r1:TU [.tup [.int sure,.tup rows],d]=none:=by unfold TU;rw[bG];unfold JR;simp[bD,h1];rfl
 have r2:TW [.tup [.int sure,.tup rows],d]=some (("NoRow":Uw),some (("row":Uw),d)):=by unfold TW MX KQ;show((Y0 [.tup [.int sure,.tup rows],d]).map λx=>(x,_)).map (·.1)=_;rw[h2];rfl
 have v1:YR [.tup [.int sure,.tup rows],d]=none:=by unfold YR;rw[bG];unfold UJ;simp[bD,h1];rfl
 have v2:YS [.tup [.int sure,.tup rows],d]=some (("NoRow":Uw),some (("row":Uw),d)):=by unfold YS MX UY;show((Y0 [.tup [.int sure,.tup rows],d]).map λx=>(x,_)).map (·.1)=_;rw[h2];rfl
 constructor
 ·unfold bQ
  rw[bG];unfold T3;simp[bD,EA,HX,zIf,NG,OT,OL,SY,SA,YX,r1,r2,ML,Wu,Yt,pl2,GW,NX,V7,LV,PK,WC]
 ·unfold bQ
  rw[bG];unfold T3;simp[bD,EA,HX,zIf,NG,OT,OL,SY,SA,YX,v1,v2,ML,Wu,Yt,pl2,GW,NX,V7,LV,PK,WC]
theorem pT{a T m s5:Sl}{w:cX}{k:Nat}(hk:k<=60)(hw:T5 k w)(hn:bW [w,.int 0,.int ((rows.length:Int) - 1)]=some (.bl false,[])):Q8 [a,T,.va (.tup [.int sure,.tup rows]),m,.va w,s5]=some (.nx [a,T,.va (.tup [.int sure,.tup rows]),m,.va w,s5]):=by
 obtain⟨a0,a1⟩:=C0 hb hn;have r2:=Ww (.tup [.str "row",w,.bl true,.tup [.str "refused",.int 2]]) 2 (by decide) (by decide);have ok:T5 (k+3) (.lst [.tup [.str "row",w,.bl true,.tup [.str "refused",.int 2]],.tup [.str "row",w,.bl true,.tup [.str "refused",.int 2]]]):=by have hu:∀j,T5 (j+1) (.tup [.str "refused",.int 2]):=λj=>VT (bK ZQ (bK ZP ZR));have hw2:T5 (k+1) w:=⟨hw.1,hw.2.1,Qb hw.2.2⟩;have h1:T5 (k+2) (.tup [.str "row",w,.bl true,.tup [.str "refused",.int 2]]):=VT (bK ZQ (bK hw2 (bK FM (bK (hu k) ZR))));exact YE (bK h1 (bK h1 ZR))
 have r3:=mM ok (by lia);rw[show(2:Int).toNat=2 from rfl,show As 2 (cX.tup [.str "row",w,.bl true,.tup [.str "refused",.int 2]])=[.tup [.str "row",w,.bl true,.tup [.str "refused",.int 2]],.tup [.str "row",w,.bl true,.tup [.str "refused",.int 2]]] from rfl] at r2;unfold Q8;generalize cX.tup [.int sure,.tup rows]=blk at*;simp[a0,a1,bE,ZV,r2,r3]
end
theorem pS(ns:List Int)(hl:ns.length<=63):gl2 [.va (WT ns),.ow (XS 0),.no,.no,.no,.no]=some (.nx [.va (WT ns),.ow (XS 3),.no,.no,.no,.no]):=by
 obtain⟨x,hx,ex⟩:=JY ns 0 hl (by lia);obtain⟨y,hy,ey⟩:=JY ns 1 hl (by lia);obtain⟨z,hz,ez⟩:=JY ns 2 hl (by lia);have ax:=(M6 hx).1;have ay:=(M6 hy).2.1;have az:=(M6 hz).2.2;have r2:=Ww (.tup [.str "refused",.int 0]) 3 (by decide) (by decide);rw[Ja] at ex;unfold gl2;have r3:QW (.lst [.tup [.str "refused",.int 0],.tup [.str "refused",.int 0],.tup [.str "refused",.int 0]]) (.lst [.tup [.str "refused",.int 0],.tup [.str "refused",.int 0],.tup [.str "refused",.int 0]])=some (.bl false):=by kernel_rfl
 simp[ex,ey,ez,ax,ay,az,bE,ZV,r2,r3]
theorem lA(a b r m w:Sl):gl7 [a,b,r,m,w,.va (.tup [.str "row",.bl false,.bl true,.tup [.str "refused",.int 2]])]=some (.nx [a,b,r,m,w,.va (.tup [.str "row",.bl false,.bl true,.tup [.str "refused",.int 2]])]):=by kernel_rfl
theorem mD(a b r m w t:Sl):gl8 [a,b,r,m,w,t]=some (.rt (.bl true) [a,b,r,m,w,t]):=by kernel_rfl
end L2
namespace RR
open PySem L2
theorem dM(ns:List Int)(hl:ns.length<=63):KR [.lst (ns.map .int)]=some (.bl true,[]):=by
 obtain⟨sure,rows,kds,n,hb,ah,s0,s1,hn,e1⟩:=fF ns 3 9 hl (by lia) (by lia) (by lia);have r40:rows.length<=40:=by lia
 have hib:=E8 hb s0 s1 r40;have hS:cX.lst (ns.map .int)=WT ns:=rfl;have hx0:bD [] 6 [WT ns]=[.va (WT ns),.no,.no,.no,.no,.no]:=rfl;have g1:gl1 [.va (WT ns),.no,.no,.no,.no,.no]=some (.nx [.va (WT ns),.ow (XS 0),.no,.no,.no,.no]):=rfl;have g3:gl3 [.va (WT ns),.ow (XS 3),.no,.no,.no,.no]=some (.nx [.va (WT ns),.ow (XS n),.va (.tup [.int sure,.tup rows]),.no,.no,.no]):=by unfold gl3;simp[e1]
 have g4:gl4 [.va (WT ns),.ow (XS n),.va (.tup [.int sure,.tup rows]),.no,.no,.no]=some (.nx [.va (WT ns),.ow (XS n),.va (.tup [.int sure,.tup rows]),.va (.int rows.length),.no,.no]):=by unfold gl4;simp
 have w1:bW [.int (-1),.int 0,.int ((rows.length:Int) - 1)]=some (.bl false,[]):=by rw[IM];simp
 have w2:bW [.int rows.length,.int 0,.int ((rows.length:Int) - 1)]=some (.bl false,[]):=by
  rw[IM];have:¬(rows.length:Int)<=(rows.length:Int) - 1:=by lia
  simp[this]
 have g5:gl5 [.va (WT ns),.ow (XS n),.va (.tup [.int sure,.tup rows]),.va (.int rows.length),.no,.no]=some (.nx [.va (WT ns),.ow (XS n),.va (.tup [.int sure,.tup rows]),.va (.int rows.length),.va (.tup [.int 0]),.no]):=by have t:∀{w:cX},T5 1 w->bW [w,.int 0,.int ((rows.length:Int) - 1)]=some (.bl false,[])->Q8 [.va (WT ns),.ow (XS n),.va (.tup [.int sure,.tup rows]),.va (.int rows.length),.va w,.no]=some (.nx [.va (WT ns),.ow (XS n),.va (.tup [.int sure,.tup rows]),.va (.int rows.length),.va w,.no]):=λh1 h2=>pT hib (by decide) h1 h2;have t1:=t kE (R7 (.inl rfl));have t2:=t ZP w1;have t3:=t (w:=.str "0") ZQ (R7 (.inr (.inr (.inl ⟨_,rfl⟩))));have t4:=t ZP w2;have t5:=t (w:=.lst [.int 0]) (YE (bK ZP ZR)) (R7 (.inr (.inr (.inr ⟨_,rfl⟩))));have t6:=t (w:=.tup [.int 0]) (VT (bK ZP ZR)) (CS _);unfold gl5;generalize cX.tup [.int sure,.tup rows]=blk at*;simp[t1,t2,t3,t4,t5,t6]
 have a0:=(C0 (d:=.bl false) hib (R7 (.inr (.inl ⟨_,rfl⟩)))).1;have g6:gl6 [.va (WT ns),.ow (XS n),.va (.tup [.int sure,.tup rows]),.va (.int rows.length),.va (.tup [.int 0]),.no]=some (.nx [.va (WT ns),.ow (XS n),.va (.tup [.int sure,.tup rows]),.va (.int rows.length),.va (.tup [.int 0]),.va (.tup [.str "row",.bl false,.bl true,.tup [.str "refused",.int 2]])]):=by unfold gl6;generalize cX.tup [.int sure,.tup rows]=blk at*;simp[a0]
 rw[hS];unfold KR;rw[bG,qW,hx0,US,g1,HL,US,pS ns hl,HL,US,g3,HL,US,g4,HL,US,g5,HL,US,g6,HL,US,lA,HL,mD];rfl
end RR
namespace KK
open PySem PySem.W
noncomputable abbrev g(a i:Nat)(n:Uw)(d m:Uq):Vc:=⟨.type "function",none,.func (fnOf n n (L2.YW (RR.top i)) (L2.aT (RR.top i)) (L2.cU (RR.top i)) d .none .none m none (.ref (a - 1)) .none),#[]⟩
theorem p(P:Qh)(a i:Nat)(n:Uw)(m:Uq)(h1:nsIn (K P) Uu n=some (some (.ref a)):=by kernel_rfl)(h2:(K P).lookup a=some (g a i n .none m):=by kernel_rfl)(h3:codeIn (K P) (.ref (a - 1)) n=true:=by kernel_rfl):L2.A4 (K P) n (RR.top i) a:=L2.a4 h1 h2 h3 (by unfold keepIn;simp only[h2])
end KK
namespace RR
open PySem L2
abbrev Zn(K:Ai)(x:Uw):Prop:=Er K Uu x=some none
abbrev Gn(K:Ai)(x:Uw)(v:Uq):Prop:=Er K Uu x=some (some v)
theorem QG{α:Type}{P:List α->Prop}(z:∀a,P [a]):∀us:List α,us.length=1->P us
 |[a],_=>z a
theorem SD{α:Type}{P:List α->Prop}(z:∀a b,P [a,b]):∀us:List α,us.length=2->P us
 |[a,b],_=>z a b
theorem IT{α:Type}{P:List α->Prop}(z:∀a b c,P [a,b,c]):∀us:List α,us.length=3->P us
 |[a,b,c],_=>z a b c
theorem Len4{α:Type}{P:List α->Prop}(z:∀a b c d,P [a,b,c,d]):∀us:List α,us.length=4->P us
 |[a,b,c,d],_=>z a b c d
theorem Len5{α:Type}{P:List α->Prop}(z:∀a b c d e,P [a,b,c,d,e]):∀us:List α,us.length=5->P us
 |[a,b,c,d,e],_=>z a b c d e
theorem Len6{α:Type}{P:List α->Prop}(z:∀a b c d e f,P [a,b,c,d,e,f]):∀us:List α,us.length=6->P us
 |[a,b,c,d,e,f],_=>z a b c d e f
theorem BJ{K:Ai}{fd:Df}(f:Ur)(F:YZ K "__init__" "NoRow.__init__" (mem 4 0) f fd):KS K "NoRow.__init__" (mem 4 0) "row" "there is no such row" f fd:=
 ⟨F,ZK,F.binds λ_ _ _ _ _ _=>SD λ_ _=>rfl,rfl,rfl,rfl,by decide,by decide,⟨_,_,_,_,_,_,_,_,_,_,_,_,rfl,λ_ _=>rfl,λ_ _=>rfl,λ_ _=>rfl⟩⟩
theorem zKA{l:Ua}{w:Uy}{K:Ai}{h:Va}{mg:Uw->Option Uq}{fa:Ur}(X:K.In h)(G:h.Ns Uu mg)(hfa:mg "law"=some (.ref fa)){f_x0 f_x1 f_x2 f_x3 f_x4 f_x5 f_x6 f_x7 f_x8 f_x9 f_x10 f_x11 f_x12 f_x13 f_x14 f_x15 f_x16 f_x17 f_x18 f_x19 f_x20 f_x21 f_x22 f_x23 f_x24 f_x26 f_x25 f_x28 f_x29 f_x30 f_x33 f_x34 f_x27 f_x31 f_x32 f_x35 f_x36:Ur}{kV_x36 dc_x36 pm_x36 cd_x36 ct_x36:Uq}{t1 t2 t3 t4 t5 t6 t7 t8:Vl}{a9:Ur}{t10 t11 t12 t13 t14:Vl}{a15:Ur}{t16 t17 t18 t19 t20 t21 t22:Vl}{a23:Ur}{t24 t25 t26:Vl}{a27:Ur}{t28:Vl}{a29:Ur}{t30 t31 t32:Vl}{a33:Ur}{t34 t35:Vl}{a36:Ur}{t37 t38 t39:Vl}{a40 a41:Ur}{h42 h43 h44 h45 h46 h47:Int}{t48 t49:Vl}{a50:Ur}{t51 t52:Vl}{a53 a54 a55 a56 a57 a58 a59 a60 a61 a62 a63 a64 a65 a66 a67 a68:Ur}(pj:A4 K "is_whole" (top 19) f_x0)(ph:A4 K "parts_of" (top 28) f_x1)(oz:A4 K "makes_word" (top 29) f_x2)(ou:A4 K "place_of" (top 30) f_x3)(oq:A4 K "names_of" (top 31) f_x4)(oo:A4 K "may_name" (top 32) f_x5)(on:A4 K "fits" (top 33) f_x6)(om:A4 K "is_row" (top 34) f_x7)(oj:A4 K "is_block" (top 35) f_x8)(lc:A4 K "row_at" (top 36) f_x9)(md:A4 K "writes" (top 38) f_x10)(ma:A4 K "is_safe_number" (top 39) f_x11)(m9:A4 K "can_fault" (top 40) f_x12)(m8:A4 K "share_written_cell" (top 41) f_x13)(m6:A4 K "must_stay" (top 42) f_x14)(lz:A4 K "must_pairs" (top 43) f_x15)(i6:A4 K "may_fault" (top 44) f_x16)(jz:A4 K "must" (top 45) f_x17)(i5:A4 K "ahead" (top 46) f_x18)(ly:A4 K "_law_cell_at" (top 48) f_x19)(lx:A4 K "_law_mixed" (top 49) f_x20)(lw:A4 K "_law_draw" (top 50) f_x21)(lv:A4 K "_law_pick" (top 51) f_x22)(lu:A4 K "_law_place" (top 52) f_x23)(ls:A4 K "_law_row" (top 53) f_x24)(lq:A4 K "_law_next" (top 55) f_x26)(lr:A4 K "_law_rows" (top 54) f_x25)(ln:A4 K "_law_names" (top 57) f_x28)(lm:A4 K "_law_may" (top 58) f_x29)(ll:A4 K "_law_must" (top 59) f_x30)(lh:A4 K "_law_mixed_order" (top 62) f_x33)(lg:A4 K "_law_renamed" (top 63) f_x34)(lp:A4 K "_law_block" (top 56) f_x27)(lj:A4 K "_law_which" (top 60) f_x31)(li:A4 K "_law_none" (top 61) f_x32)(lf:A4 K "_law_ask" (top 64) f_x35)(o9:Er K Uu "law"=some (some (.ref f_x36)))(nb:K.lookup f_x36=some ⟨.type "function",none,.func (Ly "law" "law" (YW (top 65)) (aT (top 65)) (cU (top 65)) .none kV_x36 dc_x36 pm_x36 none cd_x36 ct_x36),#[]⟩)(o8:Ol K cd_x36 "law"=true)(nh:Hz K (.ref f_x36)=true)(l7:Zn K "len")(jt:Zn K "range")(l5:Zn K "min")(l6:Zn K "max")(k8:Zn K "list")(js:Zn K "tuple")(ip:Zn K "sorted")(ee:Zn K "isinstance")(ka:Zn K "bool")(l8:Zn K "int")(l0:Zn K "str")(f7:Zn K "enumerate")(kz:Zn K "zip")(la:Zn K "all")(l9:Zn K "any")(k9:Zn K "dict")(eg:Zn K "ValueError")(gn:Zn K "reversed")(gf:Gn K "MOST_WORD" (.int 999 t1))(pq:K.lookup a9=some ⟨.type "tuple",none,.seq #[.str "plus" t2,.str "minus" t3,.str "times" t4,.str "least" t5,.str "most" t6,.str "less" t7,.str "over" t8] 0,#[]⟩)(jv:Gn K "DEEDS" (.ref a9))(gj:Gn K "MOST_SURE" (.int 64 t10))(gk:Gn K "MOST_ROWS" (.int 40 t11))(eu:Gn K "MOST_PLACE" (.int 63 t12))(mw:K.lookup a15=some ⟨.type "tuple",none,.seq #[.str "row" t13,.str "row" t14] 0,#[]⟩)(ev:Gn K "DEED_PARTS" (.ref a15))(mv:K.lookup a23=some ⟨.type "tuple",none,.seq #[.str "word" t22] 0,#[]⟩)(mq:K.lookup a27=some ⟨.type "tuple",none,.seq #[.str "row" t24,.str "row" t25,.str "row" t26] 0,#[]⟩)(mo:K.lookup a29=some ⟨.type "tuple",none,.seq #[.str "place" t28] 0,#[]⟩)(mn:K.lookup a33=some ⟨.type "tuple",none,.seq #[.str "place" t30,.str "row" t31,.str "row" t32] 0,#[]⟩)(mm:K.lookup a36=some ⟨.type "tuple",none,.seq #[.str "place" t34,.str "row" t35] 0,#[]⟩)(mj:K.lookup a40=some ⟨.type "tuple",none,.seq #[.str "place" t37,.str "row" t38,.str "row" t39] 0,#[]⟩)(mi:K.lookup a41=some ⟨.type "dict",none,.dict #[⟨h42,.str "number" t16,.ref a23⟩,⟨h43,.str "pick" t17,.ref a27⟩,⟨h44,.str "load" t18,.ref a29⟩,⟨h45,.str "take" t19,.ref a33⟩,⟨h46,.str "store" t20,.ref a36⟩,⟨h47,.str "put" t21,.ref a40⟩] 6,#[]⟩)(mz:(a41==Fu)=false)(dh:Gn K "OTHER_PARTS" (.ref a41))(mh:K.lookup a50=some ⟨.type "tuple",none,.seq #[.str "load" t48,.str "take" t49] 0,#[]⟩)(im:Gn K "READERS" (.ref a50))(mf:K.lookup a53=some ⟨.type "tuple",none,.seq #[.str "store" t51,.str "put" t52] 0,#[]⟩)(il:Gn K "WRITERS" (.ref a53))(dm:Gn K "Nothing" (.ref a54))(da:Gn K "NotValid" (.ref a55))(dk:Gn K "TooLong" (.ref a56))(dj:Gn K "TooMany" (.ref a57))(gc:Gn K "NoName" (.ref a58))(g9:Gn K "NoText" (.ref a59))(gd:Gn K "NoLoop" (.ref a60))(g8:Gn K "NoTree" (.ref a61))(cx:Gn K "NoProgram" (.ref a62))(gb:Gn K "NoPlan" (.ref a63))(dn:Gn K "NoLanes" (.ref a64))(i8:Gn K "NoRow" (.ref a65))(dq:Gn K "NoCells" (.ref a66))(du:Gn K "NoBlock" (.ref a67))(cw:Gn K "PackError" (.ref a68))(bz:XE K "NoBlock" a67)(c8:XZ K "NoRow" "row" a65)(iq:xqOk K PK "NoRow" a65=true)(xk:xiOk K PK WC=true):∃fd:Df,(∀(s:Ad) (v:Uq),Pq s fd ⟨[v],[]⟩ [("_law_script",v)])/\∀base:Va,K.In base->base.Ns Uu mg->aW l.prog w K mg base CX0 9 fa fd ["_law_script"] (spV K [] 1 KR):=by
 have e:=hfa.symm.trans (Ds X G o9);cases e;have T:Txt K mg:=⟨λ_ _ e=>Ds X G e,Ct X G l7,Ct X G jt,Ct X G l5,Ct X G l6,Ct X G k8,Ct X G js,Ct X G ip,Ct X G ee,Ct X G ka,Ct X G l8,Ct X G l0,Ct X G f7,Ct X G kz,Ct X G la,Ct X G l9,Ct X G k9,Ct X G eg,Ct X G gn,⟨_,.ref a9,Ds X G jv,rfl,λ_ _ _=>(.tup (xs:=[.str "plus",.str "minus",.str "times",.str "least",.str "most",.str "less",.str "over"]) (.inr ⟨_,_,_,pq,rfl,rfl,(by show 7<=sizeLine;decide),(.cons ⟨_,rfl⟩ (.cons ⟨_,rfl⟩ (.cons ⟨_,rfl⟩ (.cons ⟨_,rfl⟩ (.cons ⟨_,rfl⟩ (.cons ⟨_,rfl⟩ (.cons ⟨_,rfl⟩ .nil)))))))⟩) (.cons (.str _) (.cons (.str _) (.cons (.str _) (.cons (.str _) (.cons (.str _) (.cons (.str _) (.cons (.str _) .nil))))))))⟩,⟨_,.ref a15,Ds X G ev,rfl,λ_ _ _=>(.tup (xs:=[.str "row",.str "row"]) (.inr ⟨_,_,_,mw,rfl,rfl,(by show 2<=sizeLine;decide),(.cons ⟨_,rfl⟩ (.cons ⟨_,rfl⟩ .nil))⟩) (.cons (.str _) (.cons (.str _) .nil)))⟩,⟨_,.int 63,Ds X G eu,⟨_,rfl⟩,λ_ _ _=>(.int _)⟩,⟨_,.int 40,Ds X G gk,⟨_,rfl⟩,λ_ _ _=>(.int _)⟩,⟨_,.int 64,Ds X G gj,⟨_,rfl⟩,λ_ _ _=>(.int _)⟩,⟨_,.int 999,Ds X G gf,⟨_,rfl⟩,λ_ _ _=>(.int _)⟩,⟨_,.ref a41,Ds X G dh,rfl,λ_ _ _=>(.ktb (D:=[("number",.ref a23),("pick",.ref a27),("load",.ref a29),("take",.ref a33),("store",.ref a36),("put",.ref a40)]) ⟨mz,_,_,_,mi,⟨rfl,rfl,rfl⟩,rfl,(.cons rfl rfl (.cons rfl rfl (.cons rfl rfl (.cons rfl rfl (.cons rfl rfl (.cons rfl rfl .nil))))))⟩ (.cons (.tup (xs:=[.str "word"]) (.inr ⟨_,_,_,mv,rfl,rfl,(by show 1<=sizeLine;decide),(.cons ⟨_,rfl⟩ .nil)⟩) (.cons (.str _) .nil)) (.cons (.tup (xs:=[.str "row",.str "row",.str "row"]) (.inr ⟨_,_,_,mq,rfl,rfl,(by show 3<=sizeLine;decide),(.cons ⟨_,rfl⟩ (.cons ⟨_,rfl⟩ (.cons ⟨_,rfl⟩ .nil)))⟩) (.cons (.str _) (.cons (.str _) (.cons (.str _) .nil)))) (.cons (.tup (xs:=[.str "place"]) (.inr ⟨_,_,_,mo,rfl,rfl,(by show 1<=sizeLine;decide),(.cons ⟨_,rfl⟩ .nil)⟩) (.cons (.str _) .nil)) (.cons (.tup (xs:=[.str "place",.str "row",.str "row"]) (.inr ⟨_,_,_,mn,rfl,rfl,(by show 3<=sizeLine;decide),(.cons ⟨_,rfl⟩ (.cons ⟨_,rfl⟩ (.cons ⟨_,rfl⟩ .nil)))⟩) (.cons (.str _) (.cons (.str _) (.cons (.str _) .nil)))) (.cons (.tup (xs:=[.str "place",.str "row"]) (.inr ⟨_,_,_,mm,rfl,rfl,(by show 2<=sizeLine;decide),(.cons ⟨_,rfl⟩ (.cons ⟨_,rfl⟩ .nil))⟩) (.cons (.str _) (.cons (.str _) .nil))) (.cons (.tup (xs:=[.str "place",.str "row",.str "row"]) (.inr ⟨_,_,_,mj,rfl,rfl,(by show 3<=sizeLine;decide),(.cons ⟨_,rfl⟩ (.cons ⟨_,rfl⟩ (.cons ⟨_,rfl⟩ .nil)))⟩) (.cons (.str _) (.cons (.str _) (.cons (.str _) .nil)))) .nil)))))))⟩,⟨_,.ref a50,Ds X G im,rfl,λ_ _ _=>(.tup (xs:=[.str "load",.str "take"]) (.inr ⟨_,_,_,mh,rfl,rfl,(by show 2<=sizeLine;decide),(.cons ⟨_,rfl⟩ (.cons ⟨_,rfl⟩ .nil))⟩) (.cons (.str _) (.cons (.str _) .nil)))⟩,⟨_,.ref a53,Ds X G il,rfl,λ_ _ _=>(.tup (xs:=[.str "store",.str "put"]) (.inr ⟨_,_,_,mf,rfl,rfl,(by show 2<=sizeLine;decide),(.cons ⟨_,rfl⟩ (.cons ⟨_,rfl⟩ .nil))⟩) (.cons (.str _) (.cons (.str _) .nil)))⟩,⟨_,.ref a54,Ds X G dm,rfl,λ_ _ _=>.fn dm⟩,⟨_,.ref a55,Ds X G da,rfl,λ_ _ _=>.fn da⟩,⟨_,.ref a56,Ds X G dk,rfl,λ_ _ _=>.fn dk⟩,⟨_,.ref a57,Ds X G dj,rfl,λ_ _ _=>.fn dj⟩,⟨_,.ref a58,Ds X G gc,rfl,λ_ _ _=>.fn gc⟩,⟨_,.ref a59,Ds X G g9,rfl,λ_ _ _=>.fn g9⟩,⟨_,.ref a60,Ds X G gd,rfl,λ_ _ _=>.fn gd⟩,⟨_,.ref a61,Ds X G g8,rfl,λ_ _ _=>.fn g8⟩,⟨_,.ref a62,Ds X G cx,rfl,λ_ _ _=>.fn cx⟩,⟨_,.ref a63,Ds X G gb,rfl,λ_ _ _=>.fn gb⟩,⟨_,.ref a64,Ds X G dn,rfl,λ_ _ _=>.fn dn⟩,⟨_,.ref a65,Ds X G i8,rfl,λ_ _ _=>.fn i8⟩,⟨_,.ref a66,Ds X G dq,rfl,λ_ _ _=>.fn dq⟩,⟨_,.ref a67,Ds X G du,rfl,λ_ _ _=>.fn du⟩,⟨_,.ref f_x16,Ds X G i6.ns,rfl,λ_ _ _=>.fn i6.ns⟩,⟨_,.ref f_x18,Ds X G i5.ns,rfl,λ_ _ _=>.fn i5.ns⟩,⟨_,.ref a68,Ds X G cw,rfl,λ_ _ _=>.fn cw⟩,⟨_,bz,Ds X G bz.xc.at_⟩,⟨_,c8,Ds X G c8.xc.at_⟩,⟨_,Ds X G c8.xc.at_,XQ.of iq⟩,XI.of (Nj.mpr ⟨⟨_,bz.xc⟩,Nj.mpr ⟨⟨_,c8.xc⟩,nofun⟩⟩) xk⟩
 have oa:=JQ (st:=top 65) nb o8 nh;refine⟨Ly "law" "law" (YW (top 65)) (aT (top 65)) (cU (top 65)) .none kV_x36 dc_x36 pm_x36 none cd_x36 ct_x36,λs v=>.of_eq rfl,λbase _ _=>?_⟩;have bu:bZ l.prog w K mg base "is_whole" 1 Qx0 [] bW f_x0:=ZB X G pj (λU=>jS U T) (IT λ_ _ _=>rfl);have io:bZ l.prog w K mg base "parts_of" 1 Qx1 [] aM f_x1:=ZB X G ph (λU=>fQ U T) (QG λ_=>rfl);have ky:bZ l.prog w K mg base "makes_word" 1 Qx2 [] Y6 f_x2:=ZB X G oz (λU=>dO U T) (QG λ_=>rfl);have gv:bZ l.prog w K mg base "place_of" 1 Qx3 [] YU f_x3:=ZB X G ou (λU=>iP U T) (QG λ_=>rfl);have kx:bZ l.prog w K mg base "names_of" 2 Qx4 [] WS f_x4:=ZB X G oq (λU=>oA U T io) (QG λ_=>rfl);have ku:bZ l.prog w K mg base "may_name" 2 Qx5 [] X1 f_x5:=ZB X G oo (λU=>Zi U T bu) (SD λ_ _=>rfl);have kr:bZ l.prog w K mg base "fits" 3 Qx6 [] WD f_x6:=ZB X G on (λU=>lI U T bu ku) (IT λ_ _ _=>rfl);have kq:bZ l.prog w K mg base "is_row" 4 Qx7 [] V3 f_x7:=ZB X G om (λU=>nG U T io kr) (SD λ_ _=>rfl);have cu:bZ l.prog w K mg base "is_block" 5 Qx8 [] aV f_x8:=ZB X G oj (λU=>oZ U T bu ky kq) (QG λ_=>rfl);have dz:PM l.prog w K mg base "row_at" 6 AO Y0 f_x9:=DI X G lc (λU=>mV U T bu cu) (SD λ_ _=>rfl);have di:bZ l.prog w K mg base "row_at" 6 AO [] YY f_x9:=ZB X G lc (λU=>pK U T bu cu) (SD λ_ _=>rfl);have cz:bZ l.prog w K mg base "writes" 1 AM [] XR f_x10:=ZB X G md (λU=>kH U T) (QG λ_=>rfl);have jr:bZ l.prog w K mg base "is_safe_number" 1 Qx11 [] Y4 f_x11:=ZB X G ma (λU=>oM U T) (QG λ_=>rfl);have cm:bZ l.prog w K mg base "can_fault" 2 ES [] ZT f_x12:=ZB X G m9 (λU=>gS U T gv jr) (SD λ_ _=>rfl);have jq:bZ l.prog w K mg base "share_written_cell" 2 Qx13 [] ZZ f_x13:=ZB X G m8 (λU=>gK U T gv cz) (SD λ_ _=>rfl);have cy:bZ l.prog w K mg base "must_stay" 3 ET [] Y9 f_x14:=ZB X G m6 (λU=>lY U T kx cz cm jq) (IT λ_ _ _=>rfl);have gm:bZ l.prog w K mg base "must_pairs" 4 AN [] X8 f_x15:=ZB X G lz (λU=>dF U T cy) (QG λ_=>rfl);have i3:PM l.prog w K mg base "may_fault" 7 MN YS f_x16:=DI X G i6 (λU=>rL U T di cm dz) (SD λ_ _=>rfl);have jo:bZ l.prog w K mg base "may_fault" 7 MN [] YR f_x16:=ZB X G i6 (λU=>oH U T di cm) (SD λ_ _=>rfl);have gy:PM l.prog w K mg base "must" 6 IW JA f_x17:=DI X G jz (λU=>jG U T cu gm) (QG λ_=>rfl);have jm:bZ l.prog w K mg base "must" 6 IW [] IS f_x17:=ZB X G jz (λU=>mE U T cu gm) (QG λ_=>rfl);have gw:PM l.prog w K mg base "ahead" 7 MO TW f_x18:=DI X G i5 (λU=>eM U T di cy dz) (SD λ_ _=>rfl);have jl:bZ l.prog w K mg base "ahead" 7 MO [] TU f_x18:=ZB X G i5 (λU=>eC U T di cy) (SD λ_ _=>rfl);have jk:bZ l.prog w K mg base "_law_cell_at" 1 Qx19 [] aB f_x19:=ZB X G ly (λU=>lC U T) (SD λ_ _=>rfl);have jj:bZ l.prog w K mg base "_law_mixed" 2 Qx20 [] YO f_x20:=ZB X G lx (λU=>pG U T jk) (IT λ_ _ _=>rfl);have aq:bZ l.prog w K mg base "_law_draw" 3 GI [1] bR f_x21:=ZB X G lw (λU=>rR U T jj) (IT λ_ _ _=>rfl);have am:bZ l.prog w K mg base "_law_pick" 4 M4 [1] bS f_x22:=ZB X G lv (λU=>lL U T aq) (IT λ_ _ _=>rfl);have dg:bZ l.prog w K mg base "_law_place" 5 Qx23 [1,2] aJ f_x23:=ZB X G lu (λU=>eX U T aq am) (Len5 λ_ _ _ _ _=>rfl);have ji:bZ l.prog w K mg base "_law_row" 6 Qx24 [1,3] W1 f_x24:=ZB X G ls (λU=>gP U T aq am dg) (Len5 λ_ _ _ _ _=>rfl);have jg:bZ l.prog w K mg base "_law_next" 5 Qx26 [1,4] ZO f_x26:=ZB X G lq (λU=>dG U T am) (Len6 λ_ _ _ _ _ _=>rfl);have jh:bZ l.prog w K mg base "_law_rows" 7 Qx25 [1] X0 f_x25:=ZB X G lr (λU=>iJ U T am ji jg) (Len4 λ_ _ _ _=>rfl);have je:bZ l.prog w K mg base "_law_names" 1 Qx28 [] aC f_x28:=ZB X G ln (λU=>mL U T) (QG λ_=>rfl);have dw:bZ l.prog w K mg base "_law_may" 1 Qx29 [] Y5 f_x29:=ZB X G lm (λU=>jI U T) (SD λ_ _=>rfl);have jd:bZ l.prog w K mg base "_law_must" 2 Qx30 [] XY f_x30:=ZB X G ll (λU=>gT U T je dw) (QG λ_=>rfl);have jb:bZ l.prog w K mg base "_law_mixed_order" 5 Qx33 [1] aI f_x33:=ZB X G lh (λU=>qD U T am jd) (IT λ_ _ _=>rfl);have ja:bZ l.prog w K mg base "_law_renamed" 1 Qx34 [] bV f_x34:=ZB X G lg (λU=>oT U T) (SD λ_ _=>rfl);have jf:bZ l.prog w K mg base "_law_block" 8 Qx27 [1] ZU f_x27:=ZB X G lp (λU=>kR U T aq am jh jb ja) (IT λ_ _ _=>rfl);have f6:DefH l.prog w K mg base "_law_which" 1 Qx31 (spV K [] 1 YQ) f_x31:=lS X G lj (λU=>gV U T) (QG λ_=>rfl);have jc:bZ l.prog w K mg base "_law_none" 5 Qx32 [1] YT f_x32:=ZB X G li (λU=>jY U T am) (SD λ_ _=>rfl);have df:bZ l.prog w K mg base "_law_ask" 8 Qx35 [] bQ f_x35:=ZB X G lf (λU=>mK U T jo jm jl f6 i3 gy gw) (IT λ_ _ _=>rfl);exact cY oa T jf jc df
theorem zAS(K:Ai)(H:Hp)(a:Ur)(ns:List Int)(hl:ns.length<=63)(h:YA K H a (ns.map V.int)):spV K [] 1 KR [.ref a] H (λv _=>v=.bl true) λ_ _ _=>False:=by
 have hr:cD K (Zp (λ_=>False) [] [.ref a]) H (ns.map V.int) (ns.map cX.int):=by
  clear h hl;induction ns with
  |nil=>exact .nil
  |cons n ns ih=>exact .cons (.int n) ih
 have hz:∀b,¬Zp (λ_=>False) [] [V.ref a] b:=λb h=>by
  rcases h with h|⟨i,h,_⟩
  ·exact h
  ·cases h
 refine⟨λ_=>False,[.lst (ns.map .int)],.bl true,[],rfl,⟨rfl,(λi h=>nomatch h),λi d hi e=>?_,(λi d h=>nomatch h),(λi j b h=>nomatch h),λa h=>h.elim⟩,dM ns hl,λv H' _ _ r=>by cases r;rfl⟩;cases i with
 |zero=>
  cases e;refine⟨_,rfl,?_⟩;rcases h with(h|⟨o,h⟩)|h
  ·exact .lst h (hz a) hr
  ·exact .fzl (.inl ⟨o,h⟩) hr
  ·exact .fzl (.inr h) hr
 |succ i=>cases i<;>cases e
end RR
open PySem PySem.W PyProof.Rows
set_option maxRecDepth 100000 in
set_option maxHeartbeats 0 in
theorem PySem.Challenge.cw_lanepacks_k08_orders_refused_holds : PySem.Challenge.rw_lanepacks_k08_orders_refused.Holds := by
 w_on;refine holds_law KK.said λsaid=>?_
 refine holds_open (q:=KK.view) (loose:=KK.lo) (Xt:=KK.X) (XP:=XL KK.view []) (Yf:=KK.H.obs) (Ya:=KK.H.val) (YP:=KK.H.says) (N:=9360) KK.hl (Hook.of _) (Hook.keeps _) (λs e=>xl_of s (Dr.mp e).1) XL.keeps (by rfl) (by rfl) (by rfl) (λs e=>recFacts_of (Dr.mp e).2) (by rfl) (by first|assumption|decide+kernel) (by decide+kernel) ⟨rfl,rfl,rfl,rfl,rfl,by decide+kernel⟩ ?hw ?hc
 case hw=>w_witness2
 refine L2.zA4 (l:=Ku) (n:=63) (k:=9) (x:= "_law_script") (CX:=L2.CX0) (sp:=λK=>L2.spV K [] 1 L2.KR) rfl (by decide) rfl ⟨rfl,by decide,by decide⟩ (λw h Y=>W.kIn_of (K:=KK.K) (as:=KK.A) (e:=KK.kA) Y) ?F (λK H a ns hl _ hS=>RR.zAS K H a ns hl hS) λ_ _ _ _ z=>z
 case F=>
  intro w mg fa h KX G hmg;exact RR.zKA (K:=KK.K w.params) (f_x0:=224) (f_x1:=241) (f_x2:=248) (f_x3:=255) (f_x4:=260) (f_x5:=267) (f_x6:=274) (f_x7:=279) (f_x8:=286) (f_x9:=293) (f_x10:=300) (f_x11:=307) (f_x12:=314) (f_x13:=321) (f_x14:=328) (f_x15:=333) (f_x16:=340) (f_x17:=347) (f_x18:=352) (f_x19:=359) (f_x20:=366) (f_x21:=373) (f_x22:=380) (f_x23:=387) (f_x24:=392) (f_x26:=406) (f_x25:=399) (f_x28:=418) (f_x29:=423) (f_x30:=428) (f_x33:=447) (f_x34:=452) (f_x27:=411) (f_x31:=435) (f_x32:=442) (f_x35:=459) (f_x36:=464) (kV_x36:=.none) (dc_x36:=.none) (pm_x36:=.str "law_lanepacks_k08_orders_refused" 667) (cd_x36:=.ref 463) (ct_x36:=.none) (t1:=460) (t2:=462) (t3:=463) (t4:=464) (t5:=465) (t6:=466) (t7:=467) (t8:=468) (a9:=217) (t10:=481) (t11:=483) (t12:=485) (t13:=487) (t14:=488) (a15:=225) (t16:=490) (t17:=492) (t18:=496) (t19:=498) (t20:=502) (t21:=505) (t22:=491) (a23:=227) (t24:=493) (t25:=494) (t26:=495) (a27:=228) (t28:=497) (a29:=229) (t30:=499) (t31:=500) (t32:=501) (a33:=230) (t34:=503) (t35:=504) (a36:=231) (t37:=506) (t38:=507) (t39:=508) (a40:=232) (a41:=226) (h42:=Ex w.params "number") (h43:=Ex w.params "pick") (h44:=Ex w.params "load") (h45:=Ex w.params "take") (h46:=Ex w.params "store") (h47:=Ex w.params "put") (t48:=516) (t49:=517) (a50:=233) (t51:=519) (t52:=520) (a53:=234) (a54:=214) (a55:=202) (a56:=183) (a57:=171) (a58:=159) (a59:=140) (a60:=128) (a61:=116) (a62:=104) (a63:=92) (a64:=80) (a65:=68) (a66:=49) (a67:=37) (a68:=24) KX G hmg
   (KK.p _ 224 19 "is_whole" (.str "lanepacks.words" 458))
   (KK.p _ 241 28 "parts_of" (.str "lanepacks.blocks" 479))
   (KK.p _ 248 29 "makes_word" (.str "lanepacks.blocks" 479))
   (KK.p _ 255 30 "place_of" (.str "lanepacks.blocks" 479))
   (KK.p _ 260 31 "names_of" (.str "lanepacks.blocks" 479))
   (KK.p _ 267 32 "may_name" (.str "lanepacks.blocks" 479))
   (KK.p _ 274 33 "fits" (.str "lanepacks.blocks" 479))
   (KK.p _ 279 34 "is_row" (.str "lanepacks.blocks" 479))
   (KK.p _ 286 35 "is_block" (.str "lanepacks.blocks" 479))
   (KK.p _ 293 36 "row_at" (.str "lanepacks.blocks" 479))
   (KK.p _ 300 38 "writes" (.str "lanepacks.orders" 592))
   (KK.p _ 307 39 "is_safe_number" (.str "lanepacks.orders" 592))
   (KK.p _ 314 40 "can_fault" (.str "lanepacks.orders" 592))
   (KK.p _ 321 41 "share_written_cell" (.str "lanepacks.orders" 592))
   (KK.p _ 328 42 "must_stay" (.str "lanepacks.orders" 592))
   (KK.p _ 333 43 "must_pairs" (.str "lanepacks.orders" 592))
   (KK.p _ 340 44 "may_fault" (.str "lanepacks.orders" 592))
   (KK.p _ 347 45 "must" (.str "lanepacks.orders" 592))
   (KK.p _ 352 46 "ahead" (.str "lanepacks.orders" 592))
   (KK.p _ 359 48 "_law_cell_at" KK.m)
   (KK.p _ 366 49 "_law_mixed" KK.m)
   (KK.p _ 373 50 "_law_draw" KK.m)
   (KK.p _ 380 51 "_law_pick" KK.m)
   (KK.p _ 387 52 "_law_place" KK.m)
   (KK.p _ 392 53 "_law_row" KK.m)
   (KK.p _ 406 55 "_law_next" KK.m)
   (KK.p _ 399 54 "_law_rows" KK.m)
   (KK.p _ 418 57 "_law_names" KK.m)
   (KK.p _ 423 58 "_law_may" KK.m)
   (KK.p _ 428 59 "_law_must" KK.m)
   (KK.p _ 447 62 "_law_mixed_order" KK.m)
   (KK.p _ 452 63 "_law_renamed" KK.m)
   (KK.p _ 411 56 "_law_block" KK.m)
   (KK.p _ 435 60 "_law_which" KK.m)
   (KK.p _ 442 61 "_law_none" KK.m)
   (KK.p _ 459 64 "_law_ask" KK.m)
   (by kernel_rfl)
   (by kernel_rfl)
   (by kernel_rfl)
   (by kernel_rfl)
   (by kernel_rfl)
   (by kernel_rfl)
   (by kernel_rfl)
   (by kernel_rfl)
   (by kernel_rfl)
   (by kernel_rfl)
   (by kernel_rfl)
   (by kernel_rfl)
   (by kernel_rfl)
   (by kernel_rfl)
   (by kernel_rfl)
   (by kernel_rfl)
   (by kernel_rfl)
   (by kernel_rfl)
   (by kernel_rfl)
   (by kernel_rfl)
   (by kernel_rfl)
   (by kernel_rfl)
   (by kernel_rfl)
   (by kernel_rfl)
   (by kernel_rfl)
   (by kernel_rfl)
   (by kernel_rfl)
   (by kernel_rfl)
   (by kernel_rfl)
   (by kernel_rfl)
   (by kernel_rfl)
   (by kernel_rfl)
   (by kernel_rfl)
   (by kernel_rfl)
   (by kernel_rfl)
   (by kernel_rfl)
   (by kernel_rfl)
   (by decide)
   (by kernel_rfl)
   (by kernel_rfl)
   (by kernel_rfl)
   (by kernel_rfl)
   (by kernel_rfl)
   (by kernel_rfl)
   (by kernel_rfl)
   (by kernel_rfl)
   (by kernel_rfl)
   (by kernel_rfl)
   (by kernel_rfl)
   (by kernel_rfl)
   (by kernel_rfl)
   (by kernel_rfl)
   (by kernel_rfl)
   (by kernel_rfl)
   (by kernel_rfl)
   (by kernel_rfl)
   (by kernel_rfl)
   (by kernel_rfl)
   ⟨⟨by kernel_rfl,⟨by kernel_rfl,by kernel_rfl,by kernel_rfl,by kernel_rfl,by kernel_rfl,by kernel_rfl,by kernel_rfl⟩,by kernel_rfl,24,⟨by kernel_rfl,by kernel_rfl,by kernel_rfl,by kernel_rfl,by kernel_rfl⟩⟩,by kernel_rfl⟩
   ⟨⟨by kernel_rfl,⟨by kernel_rfl,by kernel_rfl,by kernel_rfl,by kernel_rfl,by kernel_rfl,by kernel_rfl,by kernel_rfl⟩,by kernel_rfl,24,⟨by kernel_rfl,by kernel_rfl,by kernel_rfl,by kernel_rfl,by kernel_rfl⟩⟩,24,65,"NoRow.__init__",RR.mem 4 0,"there is no such row",_,by kernel_rfl,by kernel_rfl,by kernel_rfl,(RR.BJ _ ⟨⟨.type "function",none,.none,.none,.str "lanepacks.errors" 187,none,.ref 64,.none,#[],rfl,by kernel_rfl,by kernel_rfl⟩,by kernel_rfl⟩),(L2.XG.of (by kernel_rfl) (by kernel_rfl) (by kernel_rfl)),⟨by kernel_rfl,by kernel_rfl,by kernel_rfl⟩⟩
   (by kernel_rfl)
   (by kernel_rfl)
end
