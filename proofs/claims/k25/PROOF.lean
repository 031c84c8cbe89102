import PyProof.Rows.All
import KE.KFromBytes
import KE.KTab
import KE.KIsAll
import KE.KDictOf
import KE.KEqDeep
import KE.KItem
import KE.KUnpackStar
import Wide.FinOn
import Wide.Line
import KE.KSortTup
import PyProof.AttrMissSeq
import OpenK.KOwn
import Open.TreeImp
import OpenK.KMore
import PyProof.InstStoreFacts
import KE.KRevIter
import KE.KLam
import KE.KMinKey
import KE.KDictList
import PySem.Challenge.RW_lanepacks_k25_finding_refused
set_option Elab.async false
set_option linter.all false
set_option maxRecDepth 100000
set_option maxHeartbeats 4000000
set_option bootstrap.genMatcherCode false
set_option compiler.extract_closed false
open Option renaming some->ba,none->bb
open Bool renaming true->bc,false->bd
open PySem renaming Value->Uw,Addr->Ux,wpAny->Uy,starEach->Uz,Str->Va,model->Vb,Expr->Vc,mainGlobals->Vd,World->Ve,assignEach->Vf,Heap->Vg,foldedSetIterable->Vh,Obj->Vi,Stmt->Vj,Scope->Vk,cellsFrom->Vl,NameKind->Vm,assignInOrder->Vn,Sem->Vo,Tok->Vp,Model->Vq
open PySem.W renaming Frag->Vr
open PySem renaming wpAny_bind->Aa,Shared->Ae,wpAny_pure->Ag,Program->Aw,bootBuiltins->Bi,wpAny_mono->Bj,wpAny_holding->Bv,Around->Bw,mem_of_lookup->Bx,wpAny_newObj_type->Cc,sizeLine_eq->Cf,FuncData->Ci,keywordEach->Cw,wpAny_callSpecial?_slot->De,wpAny_call_entry->Dj,compareOp->Dr,wpAny_Call_Name_kw->Ds,wpAny_field->Du,wpAny_seqItems->Ee,wpAny_truthy_bool->Ej,backTo->Em,wpAny_of_eq->Es,wpAny_setField_rec->Et,Spec->Eu,backToKw->Ff,Builtin->Fi,wpAny_standAt->Fm,wpAny_pyIter_list->Fo,codeAny_builtin->Fq,binaryOp->Fz,builtinLookup_eq_fast->Gb,wpAny_passesOwn->Gg,call_meets->Gk,codeAny_mono->Gr,swapsWithSole->Gv,swappedStores->Gw,plainId_quiet->Ha,sysModules->Hb,wpAny_rule->Hc,wpAny_tryCatch->He,wpAny_pyNext_list_item->Hf,codeAny->Hg,swapsWith->Hj,letOwnedTupleGo->Hk,attributeBase->Hn,assign->Hs,Keyword->Ia,wpAny_pyIter_tuple->Ik,behindInMarks->Il,tupleKind_room_in1->Io,wpAny_specialOf->Iq,typeLookup_type->Iz,wpAny_pyIter_rangeiter->Jb,wpAny_assign_Name->Jh,sliceBounds->Jk,wpAny_letGo->Jo,bindName->Jr,wpAny_bindName->Js,recursionLimit->Jt,isSubtype_type->Ju,wpAny_pyNext_list_end->Jw,wpAny_updateSeq_pair->Jz,wpAny_attempt->Kc,importedModules->Kh,wpAny_execs_nil->Km,unpackItems->Kn,wpAny_updateSeq->Kw,wpAny_newFunctionEnv_cells->Lg,Params->Lm,wpAny_typeOf->Lo,firstArgMember->Ls,wpAny_binaryOp_repeat_ref->Lu,Arguments->Lv,wpAny_call->Lx,wpAny_sequenceKey->Ly,wpAny_comprehension_free->Mb,IsRangeIter->Mh,getItem->Mi,wpAny_onRaise->Ml,wpAny_eqBool_int->Mp,noFill_tuple_add->Ms,wpAny_isInstance->Mt,checkBuiltinCall->Mu,wpAny_pyNext_range_end->Mx,DictEntry->Nb,codeAny_call_function->Nf,concat_meets->Ng,call_meetsIn->Ni,codeAny_of_tree->Np,typeIs_int->Nu,ZipApart->Nv,codeAny_call_builtin->Nz,PyData->Oe,newFunctionEnv->Oh,standAt->Oj,again->Ot,wpAny_evalAll_cons->Oz,seq_tuple_add->Pa,seqItems?->Pd,Fin->Ph,frameOf->Pk,ExceptHandler->Pl,wpAny_newList->Pp,getattributeRaised->Pq,holding->Px,BindsTo->Pz,wpAny_evalAll_nil->Qa,valueAt->Qb,wpAny_Call_method->Qc,callerA->Qd,wpAny_pyIter_enum->Qh,newClass_reversed->Qo,call_range_1->Qs,typeOf->Qu,entryPlaceOf->Qy,seqSlot_of->Rn,PassesOwn->Rx,pyIter->Ry,lastMarks->Sa,pushCells->Si,noteFrame->Sj,setField->Sx,Thread->Tf,wpAny_Name->Tg,newObjAsIs->Tj,isInstance->Tk,Builtin->Tw,getAttr?->Ub,Within->Ug,Result->Ui,stored->Uj
open Option renaming bind_eq_some_iff->Ac,map_eq_some_iff->Ao,bind_some->Av,map_some->Go,ne_none_iff_exists'->Ht,isSome_some->Pb,getD_none->Rc
open PySem.Heap renaming get?_push_of_some->Ad,get?_push_size->Aj,lt_size->An,size_push->Ef,SameBut->Fn,ExtBut->Jl,get?_push_ne->Jm,FlyingW->Lp,get?_update_ne->Ow,get?_some_iff->Pj
open Bool renaming and_eq_true->Af,false_ne_true->Cr,and_eq_true_iff->Eb,false_eq_true->Fg,or_eq_true->Ir,beq_eq_decide_eq->Nt,or_false->Tq,false_or->Tr,true_and->Ue
open PySem.W renaming Frag->Ah,kia_one->Fj,nsIn->Gs,kitOne->Hx,keepIn->Hy,kas_item->Ke,SharedT->Mf,cellsFrom_some->Mq,fnOf->Mr,kitx_list->Ol,hideAll_get->Oy,callWith_K->Qt,looks_findIn->Qz,findIn->Rq,codeIn->Rr,methodObj->Rw,kitx_dict->Sb,kasC_bind->Sk,kasC_modify->Sm,kas_item_eq->Sq,absHeap->Tl,openEnds->Tn,subIn->Tx,clsIn->Tz,instObj->Uf
open List renaming getElem?_eq_some_iff->Ai,mem_cons->Ak,mem_cons_of_mem->Ap,size_toArray->Aq,getElem?_append_left->Ar,replicate->As,mem_append_right->At,range->Au,mem_cons_self->Ax,append_assoc->Ay,mem_singleton->Ba,not_mem_nil->Be,map_cons->Bg,getElem?_eq_getElem->Bm,mem_append_left->Bt,length_cons->Bu,getElem?_set_ne->Bz,getElem?_append_right->Cd,length_map->Ce,getElem?_map->Cg,length_set->Ck,length_take->Cn,lookup_cons->Co,length_append->Cs,perm_append_comm->Ct,take_of_length_le->Cu,getElem?_take_of_lt->Cz,mem_append->Dh,nodup_cons->Di,mem_range->Dm,drop_eq_getElem_cons->Dn,getElem?_set_self->Dq,getElem?_eq_none->Dv,mem_map->Dw,take_append_drop->Dy,getElem?_replicate->Dz,take_append_of_le_length->Eg,replicate_succ->Ei,lookup_cons_self->El,append_nil->Ep,mem_of_getElem?->Ew,map_nil->Ey,set_comm->Fb,nil_append->Fs,drop_length->Fw,all_eq_true->Fy,set_append_right->Ga,flatten_cons->Gm,length_eq_zero_iff->Gy,find?_cons->Hl,any_cons->Ho,length_range->Hq,cons_append->Hz,lookup_eq_some_iff->Ih,mem_filterMap->Ii,mem_filter->Ij,map_append->Ix,range_succ_eq_map->Je,length_singleton->Jx,forall_mem_cons->Ka,filterMap_cons->Kl,of_mem_zip->Kq,forIn_cons->Kr,map_congr_left->Ks,idxOf_lt_length_of_mem->La,ext_getElem?->Lz,reverse_perm->Md,getElem_mem->Mw,length_replicate->Nd,length_nil->Nh,mem_iff_getElem?->Nl,getElem?_mapIdx->Nx,drop_zero->Of,forIn_nil->Og,take_take->Oi,lookup->Om,mem_map_of_mem->Oq,getElem_range->Pc,getElem?_take->Pn,getElem_idxOf->Ps,zip_nil_left->Qg,map_map->Qx,getElem_inj->Ra,length_drop->Rb,isEmpty_iff->Rg,zipIdx_cons->Ri,zip_append->Se,zipIdx_nil->Sg,mapM_cons->Sw,take_succ->Sy,drop_take->Sz,drop_drop->Tb,take_left->Te,all_cons->Tt,all_map->Uk
open Nat renaming le_refl->Am,lt_of_lt_of_le->Az,ne_of_lt->Bb,lt_irrefl->Cq,zero_le->Df,le_trans->Fc,ne_of_gt->Ic,min_eq_left->Iy,le_succ->Jn,le_of_succ_le->Jq,zero_add->Jv,lt_of_succ_lt_succ->Mz,not_lt_zero->No,lt_succ_of_lt->Ql,le_of_lt->Qr,lt_trans->Qv,add_comm->Qw,lt_succ_self->Rf,succ_ne_self->Rh,succ_le_succ->Rk,min_le_left->Sh,add_assoc->Uc
open PySem.Str renaming ofString->Bf,ofString_eq_toList->Jg
open PySem.F renaming slot_list_append->Bo,type_list_append->Bp,plain_min_loop->Ec,slot_dict_get->Ek,entry_dict_get->Ft,slot_tuple_iterator_next->Fu,plain_reversed_new->Gf,slot_list_extend->Gp,type_list_extend->Gq,args_tuple_add_2->Ie,entry_tuple_add->Im,args_dict_get_2->Ip,plainAttrs_list->Iu,slot_tuple_add->Jd,entry_min_loop->Jf,args_tuple_iterator_next_1->Kb,entry_tuple_iterator_next->Kt,slot_zip_next->Ku,slot_int_rmul->Kx,slot_dict_getitem->Lr,args_dict_get_3->Mj,plainAttrs_dict->Mk,slot_list_index->Mm,type_list_index->Mn,type_dict_get->Nj,typeCall_reversed_1->Nr,args_object_init_2->Ny,newCall_reversed_1->Ob,entry_reversed_new->Od,args_list_index_2->Op,entry_list_index->Pf,args_tuple_mul_2->Pr,args_zip_next_1->Qi,slot_list_index->Qj,args_int_rmul_2->Qm,entry_tuple_mul->Qn,create_reversed->Qp,entry_zip_next->Rj,entry_int_rmul->Ro,slot_tuple_mul->Rp,fills_int_mul->Sr,made_reversed->Ss
open PySem.NameKind renaming free->Bq,cell->Cm
open PySem.Value renaming ref->Br,bool->Ib,type->Lw,str->Nc,int->Rv,isStrOf->To,builtin->Ud,isInt->Uo,float->Up
open Array renaming toList_append->By,length_toList->Gu,toList_push->Hr,toList_reverse->Hu,perm_iff_toList_perm->Lk,eraseIdxIfInBounds->Ma,getD->Mc,toList_inj->Rm,toList->Uh
open PySem.Builtin.SmallTypes renaming nextOf->Ca,ownedTupleIsFree->Eh,ownedTupleHandOut->Hw
open PySem.PassesOwn renaming never->Cb
open PyProof.Rows renaming callWith_type1->Cj,assignInOrder_cons->Eo,slot_tuple_getitem->Fa,SortSt->Fk,seqObj->Ig,assignInOrder_nil->Ji,AllBare->Mg,subscriptTail_builtinR->My,get?_update_seq->Nq,listUpdate_at->Po,unpackItems_tuple->Py,pairsOf->Qk,SortKind->Ru,seqEpoch_at->So,boot_range->Th,tail_any->Tp,IntsAre->Ts
open Option.some renaming inj->Cv
open PySem.AutoSeq1 renaming wpAny_loadPart'->Db,idx_int->Mv
open PySem.Builtin.Range renaming rangeFitsLong->Dd,rangeSize->Gx,rangeFields->Tc,small->Ut
open Or renaming inr->Dg,inl->Ez
open Prod renaming fst->Dk,snd->Er
open PySem.Obj renaming mapSeq->Dt,data_mapFields->Pe,mapFields->Tv
open List.Perm renaming append_left->Dx,append_right->Hi,trans->Kv,append->Rl,cons->Ta
open Ne renaming symm->Ea
open ForInStep renaming yield->Ed
open PySem.Around renaming under_plainId->Ex,frames_deeper->Nw
open PySem.SeqAt renaming shaped->Fd,list_indexAt->Pg
open PySem.Calls renaming spliced_cons->Fe,evalArgs_plain->Ge,spliced_nil->Gh,callWith_builtin->Hh,Name_function_global->Le
open Int renaming emod_lt_of_pos->Fh,emod_nonneg->Ja,toNat_natCast->Jj
open PySem.PyData renaming keyHash->Fl,depthAll->Fp,canLay0->Hd,canLayAll0->Jp,depth->Jy,eqv->Kf,int->Qf,strOk->Ul
open False renaming elim->Fv
open PySem.Builtin.Slice renaming slicePlaces->Gc,sliceAdjust->Hv,sliceApplied->Li,slicePartIndex->Rs,sliceFields->Sv
open PyProof.Rows.KTD renaming datumAt->Gd
open PySem.Builtin.Tuple renaming tupleExact->Gi,tupleItemsOf->Lj,tupleTooMany->Ll,tupleIsExact->Su
open PySem.Builtin.List renaming listTooLong->Gj
open PySem.Heap.SameBut renaming update->Gz
open Pure renaming pure->Hm
open PyProof.Rows.SortSt renaming mk'->Kg
open PySem.W.Fast renaming tw10156331382660048174->Ki,tw11892475500146522536->Kj,tw14364793385576792824->Kk,tw1435165496053646825->Lb,tw4187177175401517315->Lc,te4187177175401517315->Ld
open PyProof.Rows.IsTup renaming new->Ko
open PySem.Builtin.Builtins renaming bindParams->Ky
open List.cons renaming injEq->Kz
open PySem.Challenge renaming pw_lanepacks_k25_finding_refused->Ln,rw_lanepacks_k25_finding_refused->Lq
open List.Pairwise renaming map->Me,nil->Qe
open PySem.Builtin.Dict renaming updateFrom->Mo,pairItems->Na,missed->Oo
open Classical renaming choose_spec->Nk
open PySem.SeqAt.EqAt renaming bool_bool->Oa
open PySem.EntryCells renaming newEntry->Ov
open PySem.Paired renaming length->Ox,snoc->Us
open Sum renaming inl->Pt,inr->Pw
open Char renaming toNat->Qq
open PySem.W.Looks renaming ld->Rt
open PySem.Data renaming fields->Rz
open PySem.Heap.DictOf renaming new->Sc
open PySem.Shared renaming heap->Sf
open PySem.Walks renaming list->Ti,range->Uq
open Function renaming comp->Tu
open PySem.Heap.UpToSlots renaming of_keeps->Ua
open PySem.MeetsSeq.EqGives renaming int->Um
open PySem.IsRange renaming new->Ur
open PySem.Heap.IsSliceOf renaming new->Uu
open PySem.W.WShape renaming has->Uv
noncomputable section
namespace KK
open PySem PySem.W
noncomputable def EF:List Vi->Nat->BT->Option BT
 |[],_,t=>ba t
 |o::l,n,t=>match((t.ins n o).get n).isSome with
  |true=>EF l (n+1) (t.ins n o)
  |false=>bb
theorem JI{life:Life}:∀{l:List Vi}{n:Nat}{t t':BT},EF l n t=ba t'->Tl t' (n+l.length) life=⟨(Tl t n life).objs++l.toArray,life⟩
 |[],n,t,t',h=>by cases h;simp[Tl]
 | o :: l,n,t,t',h => by
  unfold EF at h;split at h
  ·rename_i g
   have a:=JI (life:=life) h;rw[show n+(o::l).length=n+1+l.length by simp;lia,a,absHeap_ins g];simp[Heap.push]
  ·cases h
def toT(s:Ae):Option Mf:=(EF s.heap.objs.toList 0 .nil).map λt=>⟨t,s.heap.objs.size,s.heap.life,s.gens,s.drawn,s.toks,s.os⟩
def B7{s:Ae}{u:Mf}(h:toT s=ba u):u.abs=s:=by
 unfold toT at h;cases e:EF s.heap.objs.toList 0 .nil with
 |none=>rw[e]at h;cases h
 |some t=>
  rw[e]at h;cases h;have:=JI (life:=s.heap.life) e
  simp only[Jv,Gu]at this;obtain⟨⟨a,life⟩,gens,drawn,toks,os⟩:=s;show(⟨Tl t a.size life,gens,drawn,toks,os⟩:Ae)=_;rw[this];simp[Tl,BT.list]
abbrev StT:=Mf->Tf->Option (Mf×Tf)
noncomputable def topG(st:StT)(ok:Tf->Bool):Nat->Mf->Tf->Option Mf
 |0,_,_=>bb
 | n + 1,s,t => match through t with
  |true=>ba s
  | false => match ok t with
   |false=>bb
   |true=>match st s t with
    |some (s',t')=>topG st ok n s' t'
    |none=>bb
theorem B8{tb:String->Option Fi}{p:Aw}{w:Ve}{a:Nat}{b:Option Uw}:∀{n:Nat}{s s':Mf}{t:Tf},topG (stepT (denote tb) p w) (stepOk a b) n s t=ba s'->topRun tb p w a b n s.abs t=ba s'.abs
 |0,_,_,_,h=>by cases h
 | n + 1,s,s',t,h => by
  unfold topG at h;unfold topRun;cases f:through t with
  |true=>rw[f]at h;cases h;rfl
  |false=>
   rw[f]at h;cases g:stepOk a b t with
   |false=>rw[g]at h;cases h
   |true=>
    rw[g]at h;cases c:stepT (denote tb) p w s t with
    |none=>rw[c]at h;cases h
    |some r=>obtain⟨e,d⟩:=r;rw[c]at h;rw[stepT_spec c];exact B8 h
noncomputable def impG(st:StT):Nat->Mf->Tf->Option Mf
 |0,_,_=>bb
 | n + 1,s,t => match t.atExitBegin with
  |some []=>ba s
  |some (_::_)=>bb
  |none=>match st s t with
   |some (s',t')=>impG st n s' t'
   |none=>bb
theorem AT{tb:String->Option Fi}{p:Aw}{w:Ve}:∀{n:Nat}{s s':Mf}{t:Tf},impG (stepT (denote tb) p w) n s t=ba s'->importEnds tb p w n s.abs t=ba s'.abs
 |0,_,_,_,h=>by cases h
 | n + 1,s,s',t,h => by
  unfold impG at h;unfold importEnds;cases d:t.atExitBegin with
  |some x=>
   rw[d]at h;cases x with
   |nil=>cases h;rfl
   |cons=>cases h
  |none=>
   rw[d]at h;cases a:stepT (denote tb) p w s t with
   |none=>rw[a]at h;cases h
   |some r=>obtain⟨c,b⟩:=r;rw[a]at h;dsimp only;rw[stepT_spec a];exact AT h
noncomputable def chkU(p:Aw)(s₀ s:Ae):Bool:=staticsOk (Kh p.main.body) s₀.heap s.heap&&namesBound p s.heap&&gensDone s&&laidKept s₀.heap s.heap
noncomputable def QQ(p:Aw)(w:Ve)(N:Nat):Option (Ae×Ae):=
 (toT (Lb (opening p)).1).bind λu=>(impG (Ki (Kj Kk) (opening p) w) N u (Lb (opening p)).2).bind λb=>(Fast.tw14289696077712309145 p b.abs).bind λs₀=>
 match s₀.heap.isNs Vd&&s₀.gens.size==0 with
 |true=>(toT s₀).bind λv=>(topG (Ki (Kj Kk) p w) (Fast.tw6613529449190102663 s₀.heap.objs.size (s₀.heap.nsMap Vd "__annotations__")) N v (topStub p)).bind λa=>ba (s₀,a.abs)
 |false=>bb
def gD{p:Aw}{w:Ve}{N:Nat}{q:Ae×Ae}(h:QQ p w N=ba q)(hc:chkU p q.1 q.2=bc):Tn treeTable p w N=ba q.2:=by
 unfold QQ at h;rw[<-Fast.te1435165496053646825,<-Fast.te10156331382660048174,<-Fast.te11892475500146522536,<-Fast.te14364793385576792824,<-Fast.te14289696077712309145,<-Fast.te6613529449190102663]at h;unfold Tn fencedOpening;obtain⟨u,i,h⟩:=Ac.mp h;obtain⟨k,g,h⟩:=Ac.mp h;obtain⟨s₀,f,h⟩:=Ac.mp h;have c:=AT g;rw[B7 i]at c;rw[c,Av,f,Av];unfold topFrom;cases b:(s₀.heap.isNs Vd&&s₀.gens.size==0)with
 |false=>rw[b]at h;cases h
 |true=>
  rw[b]at h;obtain⟨v,e,h⟩:=Ac.mp h;obtain⟨j,d,h⟩:=Ac.mp h;cases h;have a:=B8 d;rw[B7 e]at a;dsimp only;rw[a,Av];unfold chkU at hc;rw[hc]
def mapQ{α β:Type}{p:Aw}{w:Ve}{N:Nat}{f:Ae->α}{g:Ae->β}{v:α}{u:β}(h1:(QQ p w N).map (λq=>f q.2)=ba v)(h2:(QQ p w N).map (λq=>(chkU p q.1 q.2,g q.2))=ba (bc,u)):(Tn treeTable p w N).map (λs=>(f s,g s))=ba (v,u):=by
 cases e:QQ p w N with
 |none=>rw[e]at h1;cases h1
 |some q=>
  rw[e]at h1 h2;obtain⟨b,a⟩:=Prod.mk.inj (Cv h2);rw[gD e b];exact congrArg ba (Prod.ext (Cv h1) a)
end KK
namespace RR
open PySem
def top(i:Nat):Vj:=PySem.Challenge.pw_lanepacks_k25_finding_refused.main.body.getD i (.Pass ⟨0,0,0,0⟩)
end RR
namespace KK
open PySem PySem.W PySem.Calls PyProof.Rows
def dA(s:Vj):Lv:=match s with
 |.FunctionDef _ a _ _ _ _ _ _ _ _=>a
 |_=>⟨[],[],bb,[],[],bb,[]⟩
def dB(s:Vj):List Vj:=match s with
 |.FunctionDef _ _ b _ _ _ _ _ _ _=>b
 |_=>[]
def dS(s:Vj):Vk:=match s with
 |.FunctionDef _ _ _ _ _ _ c _ _ _=>c
 |_=>{kind:=.function,names:=[],isGenerator:=bd,isCoroutine:=bd}
abbrev s(x:Va)(t:Nat):Uw:=.str x t
abbrev e(P:Lm)(x:Va)(t:Nat)(v:Uw):Nb:=⟨PyData.keyHash P x,s x t,v⟩
abbrev f(a i:Nat)(n:Va)(d m:Uw):Nat×Vi:=(a,⟨.type "function",bb,.func (fnOf n n (dA (RR.top i)) (dB (RR.top i)) (dS (RR.top i)) d .none .none m bb (.ref (a-1)) .none),#[]⟩)
abbrev fk(a i:Nat)(n:Va)(d k m:Uw):Nat×Vi:=(a,⟨.type "function",bb,.func (fnOf n n (dA (RR.top i)) (dB (RR.top i)) (dS (RR.top i)) d k .none m bb (.ref (a-1)) .none),#[]⟩)
abbrev co(a:Nat)(n:Va)(t:Nat)(l k:Int)(u:Nat)(x y z v:Uw):Nat×Vi:=(a,⟨.type "code",bb,.fields #[s n t,s n (t+1),s "/claim/cut.py" (t+2),.int l 0,.int k 0,.int 0 0,.int 0 0,.int 3 0,x,.bool bc,.int 181 0,y,.none,z,v,.ref (a-1),.int u 0,.int l 0,s "/claim/cut.py" (u+1)],#[]⟩)
abbrev c(a:Nat)(n:Va)(t:Nat)(l k:Int)(u:Nat):Nat×Vi:=co a n t l k u (.ref (a-5)) (.ref (a-4)) (.ref (a-3)) (.ref (a-2))
abbrev b(a:Nat)(n:Va)(t:Nat)(l k:Int)(u:Nat):Nat×Vi:=co a n t l k u (.ref (a-3)) (.ref (a-2)) .none .none
abbrev m:Uw:=s "law_lanepacks_k25_finding_refused" 846
abbrev kc(a q:Nat)(n:Va)(b t u:Nat):Nat×Vi:=(a,⟨.type "type",bb,.cls {name:=n,bases:=[.ref q],mro:=[.ref a,.ref q,.type "ValueError",.type "Exception",.type "BaseException",.type "object"],ns:=a-1,qualname:=n},#[ba (.ref b),bb,ba (s n t),ba (s n u),ba (.builtin "ValueError.__new__"),ba (.bool bc)]⟩)
abbrev kn(P:Lm)(a m w l r:Nat):Nat×Vi:=(a,⟨.type "dict",bb,.dict #[e P "__module__" m (s "lanepacks.errors" w),e P "__firstlineno__" (m+4) (.int l (m+3)),e P "__static_attributes__" (m+5) (.ref r),e P "__doc__" (m+6) .none] 2,#[]⟩)
abbrev y0:Vi:=⟨.type "code",bb,.fields #[s "best_plan" 795,s "best_plan" 796,s "/claim/cut.py" 797,.int 241 0,.int 1 0,.int 0 0,.int 1 0,.int 3 0,.ref 447,.bool bc,.int 181 0,.ref 448,.none,.none,.none,.ref 449,.int 798 0,.int 241 0,s "/claim/cut.py" 799],#[]⟩
abbrev y1:Vi:=⟨.type "code",bb,.fields #[s "found_plan" 834,s "found_plan" 835,s "/claim/cut.py" 836,.int 281 0,.int 1 0,.int 0 0,.int 1 0,.int 3 0,.ref 475,.bool bc,.int 181 0,.ref 476,.none,.ref 477,.ref 478,.ref 479,.int 843 0,.int 281 0,s "/claim/cut.py" 844],#[]⟩
noncomputable def KR(P:Lm):Vr:=[(3,⟨.type "dict",bb,.dict #[e P "__name__" 165 (s "law_lanepacks_k25_finding_refused" 846),e P "__doc__" 166 (.none),e P "__package__" 167 (.none),e P "__loader__" 168 (.builtin "__main__.__loader__#opaque"),e P "__spec__" 169 (.none),e P "__annotations__" 170 (.ref 6),e P "__builtins__" 171 (.ref 4),e P "__file__" 173 (s "/claim/cut.py" 172),e P "__cached__" 174 (.none),e P "PackError" 206 (.ref 24),e P "NoBlock" 222 (.ref 37),e P "NoCells" 238 (.ref 49),e P "NoRow" 263 (.ref 68),e P "NoLanes" 279 (.ref 80),e P "NoPlan" 295 (.ref 92),e P "NoProgram" 311 (.ref 104),e P "NoTree" 327 (.ref 116),e P "NoLoop" 343 (.ref 128),e P "NoText" 359 (.ref 140),e P "NoName" 384 (.ref 159),e P "TooMany" 400 (.ref 171),e P "TooLong" 416 (.ref 183),e P "NotValid" 441 (.ref 202),e P "Nothing" 457 (.ref 214),e P "MOST_WORD" 461 (.int 999 460),e P "DEEDS" 469 (.ref 217),e P "is_whole" 478 (.ref 224),e P "MOST_SURE" 482 (.int 64 481),e P "MOST_ROWS" 484 (.int 40 483),e P "MOST_PLACE" 486 (.int 63 485),e P "DEED_PARTS" 489 (.ref 225),e P "OTHER_PARTS" 515 (.ref 226),e P "READERS" 518 (.ref 233),e P "WRITERS" 521 (.ref 234),e P "parts_of" 528 (.ref 241),e P "makes_word" 535 (.ref 248),e P "place_of" 542 (.ref 255),e P "names_of" 548 (.ref 260),e P "may_name" 556 (.ref 267),e P "fits" 565 (.ref 274),e P "is_row" 571 (.ref 279),e P "is_block" 582 (.ref 286),e P "row_at" 591 (.ref 293),e P "writes" 600 (.ref 300),e P "is_safe_number" 607 (.ref 307),e P "can_fault" 619 (.ref 314),e P "share_written_cell" 627 (.ref 321),e P "must_stay" 639 (.ref 328),e P "must_pairs" 645 (.ref 333),e P "ahead" 651 (.ref 338),e P "LEAST_LANES" 655 (.int 2 654),e P "MOST_LANES" 657 (.int 4 656),e P "is_lanes" 664 (.ref 345),e P "may_follow" 675 (.ref 352),e P "is_pack" 681 (.ref 357),e P "rows_within" 687 (.ref 362),e P "check_lanes" 695 (.ref 369),e P "rows_alone" 701 (.ref 374),e P "nodes_of" 707 (.ref 379),e P "waits_of" 713 (.ref 384),e P "next_node" 719 (.ref 389),e P "ordered_by" 730 (.ref 396),e P "wished" 736 (.ref 401),e P "supply" 742 (.ref 406),e P "wished_as" 748 (.ref 411),e P "drawn_rows" 754 (.ref 416),e P "plan_cost" 760 (.ref 421),e P "MOST_TRIED_ROWS" 764 (.int 8 763),e P "check_few" 772 (.ref 428),e P "all_packs" 778 (.ref 433),e P "packs" 786 (.ref 440),e P "may_join" 792 (.ref 445),e P "best_plan" 800 (.ref 451),e P "is_parted" 806 (.ref 456),e P "pack_from" 819 (.ref 463),e P "full_plan" 825 (.ref 468),e P "thinned" 831 (.ref 473),e P "found_plan" 845 (.ref 481),e P "_law_cell_at" 857 (.ref 488),e P "_law_mixed" 867 (.ref 495),e P "_law_draw" 876 (.ref 502),e P "_law_pick" 885 (.ref 509),e P "_law_place" 896 (.ref 516),e P "_law_row" 902 (.ref 521),e P "_law_rows" 916 (.ref 528),e P "_law_next" 933 (.ref 535),e P "_law_block" 939 (.ref 540),e P "_law_names" 946 (.ref 547),e P "_law_may" 952 (.ref 552),e P "_law_must" 958 (.ref 557),e P "_law_which" 966 (.ref 564),e P "_law_none" 975 (.ref 571),e P "_law_mixed_order" 981 (.ref 576),e P "_law_renamed" 987 (.ref 581),e P "_law_ask" 997 (.ref 588),e P "law" 1003 (.ref 593)] 96,#[]⟩),(23,⟨.type "dict",bb,.dict #[e P "__module__" 196 (s "lanepacks.errors" 187),e P "__firstlineno__" 200 (.int 2 199),e P "__static_attributes__" 201 (.ref 22),e P "__weakref__" 203 (.ref 25),e P "__doc__" 204 (.none)] 3,#[]⟩),(24,⟨.type "type",bb,.cls {name:= "PackError",bases:=[.type "ValueError"],mro:=[.ref 24,.type "ValueError",.type "Exception",.type "BaseException",.type "object"],ns:=23,qualname:= "PackError",subclasses:=[.ref 37,.ref 49,.ref 68,.ref 80,.ref 92,.ref 104,.ref 116,.ref 128,.ref 140,.ref 159,.ref 171,.ref 183,.ref 202,.ref 214]},#[ba (.ref 15),bb,ba (s "PackError" 189),ba (s "PackError" 197),ba (.builtin "ValueError.__new__"),ba (.bool bc)]⟩),kn P 36 214 187 4 35,kc 37 24 "NoBlock" 28 207 215,kn P 48 230 187 6 47,kc 49 24 "NoCells" 40 223 231,(67,⟨.type "dict",bb,.dict #[e P "__module__" 246 (s "lanepacks.errors" 187),e P "__firstlineno__" 250 (.int 8 249),e P "__init__" 258 (.ref 65),e P "__static_attributes__" 260 (.ref 66),e P "__doc__" 261 (.none)] 2,#[]⟩),kc 68 24 "NoRow" 52 239 247,kn P 79 271 187 13 78,kc 80 24 "NoLanes" 71 264 272,kn P 91 287 187 15 90,kc 92 24 "NoPlan" 83 280 288,kn P 103 303 187 17 102,kc 104 24 "NoProgram" 95 296 304,kn P 115 319 187 19 114,kc 116 24 "NoTree" 107 312 320,kn P 127 335 187 21 126,kc 128 24 "NoLoop" 119 328 336,kn P 139 351 187 23 138,kc 140 24 "NoText" 131 344 352,(158,⟨.type "dict",bb,.dict #[e P "__module__" 367 (s "lanepacks.errors" 187),e P "__firstlineno__" 371 (.int 25 370),e P "__init__" 379 (.ref 156),e P "__static_attributes__" 381 (.ref 157),e P "__doc__" 382 (.none)] 2,#[]⟩),kc 159 24 "NoName" 143 360 368,kn P 170 392 187 30 169,kc 171 24 "TooMany" 162 385 393,kn P 182 408 187 32 181,kc 183 24 "TooLong" 174 401 409,(201,⟨.type "dict",bb,.dict #[e P "__module__" 424 (s "lanepacks.errors" 187),e P "__firstlineno__" 428 (.int 34 427),e P "__init__" 436 (.ref 199),e P "__static_attributes__" 438 (.ref 200),e P "__doc__" 439 (.none)] 2,#[]⟩),kc 202 24 "NotValid" 186 417 425,kn P 213 449 187 39 212,kc 214 24 "Nothing" 205 442 450,(217,⟨.type "tuple",bb,.seq #[s "plus" 462,s "minus" 463,s "times" 464,s "least" 465,s "most" 466,s "less" 467,s "over" 468] 0,#[]⟩),f 224 19 "is_whole" (.none) (s "lanepacks.words" 458),c 223 "is_whole" 470 44 3 476,(225,⟨.type "tuple",bb,.seq #[s "row" 487,s "row" 488] 0,#[]⟩),(226,⟨.type "dict",bb,.dict #[e P "number" 490 (.ref 227),e P "pick" 492 (.ref 228),e P "load" 496 (.ref 229),e P "take" 498 (.ref 230),e P "store" 502 (.ref 231),e P "put" 505 (.ref 232)] 6,#[]⟩),(227,⟨.type "tuple",bb,.seq #[s "word" 491] 0,#[]⟩),(228,⟨.type "tuple",bb,.seq #[s "row" 493,s "row" 494,s "row" 495] 0,#[]⟩),(229,⟨.type "tuple",bb,.seq #[s "place" 497] 0,#[]⟩),(230,⟨.type "tuple",bb,.seq #[s "place" 499,s "row" 500,s "row" 501] 0,#[]⟩),(231,⟨.type "tuple",bb,.seq #[s "place" 503,s "row" 504] 0,#[]⟩),(232,⟨.type "tuple",bb,.seq #[s "place" 506,s "row" 507,s "row" 508] 0,#[]⟩),(233,⟨.type "tuple",bb,.seq #[s "load" 516,s "take" 517] 0,#[]⟩),(234,⟨.type "tuple",bb,.seq #[s "store" 519,s "put" 520] 0,#[]⟩),f 241 28 "parts_of" (.none) (s "lanepacks.blocks" 479),c 240 "parts_of" 522 56 1 526,f 248 29 "makes_word" (.none) (s "lanepacks.blocks" 479),c 247 "makes_word" 529 60 1 533,f 255 30 "place_of" (.none) (s "lanepacks.blocks" 479),c 254 "place_of" 536 62 1 540,f 260 31 "names_of" (.none) (s "lanepacks.blocks" 479),b 259 "names_of" 543 64 1 546,f 267 32 "may_name" (.none) (s "lanepacks.blocks" 479),c 266 "may_name" 549 67 2 554,f 274 33 "fits" (.none) (s "lanepacks.blocks" 479),c 273 "fits" 557 69 3 563,f 279 34 "is_row" (.none) (s "lanepacks.blocks" 479),b 278 "is_row" 566 75 2 569,f 286 35 "is_block" (.none) (s "lanepacks.blocks" 479),c 285 "is_block" 572 83 1 580,f 293 36 "row_at" (.none) (s "lanepacks.blocks" 479),c 292 "row_at" 583 97 2 589,f 300 38 "writes" (.none) (s "lanepacks.orders" 592),c 299 "writes" 594 105 1 598,f 314 40 "can_fault" (.none) (s "lanepacks.orders" 592),c 313 "can_fault" 608 109 2 617,f 321 41 "share_written_cell" (.none) (s "lanepacks.orders" 592),c 320 "share_written_cell" 620 116 2 625,f 328 42 "must_stay" (.none) (s "lanepacks.orders" 592),c 327 "must_stay" 628 118 3 637,f 333 43 "must_pairs" (.none) (s "lanepacks.orders" 592),b 332 "must_pairs" 640 126 1 643,f 338 44 "ahead" (.none) (s "lanepacks.orders" 592),b 337 "ahead" 646 130 2 649,f 345 48 "is_lanes" (.none) (s "lanepacks.plans" 652),c 344 "is_lanes" 658 140 1 662,f 352 49 "may_follow" (.none) (s "lanepacks.plans" 652),c 351 "may_follow" 665 142 3 673,f 357 50 "is_pack" (.none) (s "lanepacks.plans" 652),b 356 "is_pack" 676 148 3 679,f 362 51 "rows_within" (.none) (s "lanepacks.plans" 652),b 361 "rows_within" 682 157 1 685,f 369 52 "check_lanes" (.none) (s "lanepacks.plans" 652),c 368 "check_lanes" 688 159 2 693,f 374 53 "rows_alone" (.none) (s "lanepacks.plans" 652),b 373 "rows_alone" 696 164 2 699,f 401 58 "wished" (.none) (s "lanepacks.plans" 652),b 400 "wished" 731 190 2 734,f 406 59 "supply" (.none) (s "lanepacks.plans" 652),b 405 "supply" 737 197 3 740,f 411 60 "wished_as" (.none) (s "lanepacks.plans" 652),b 410 "wished_as" 743 207 3 746,f 416 61 "drawn_rows" (.none) (s "lanepacks.plans" 652),b 415 "drawn_rows" 749 209 2 752,f 421 62 "plan_cost" (.none) (s "lanepacks.plans" 652),b 420 "plan_cost" 755 214 3 758,f 428 65 "check_few" (.none) (s "lanepacks.finding" 761),c 427 "check_few" 765 222 2 770,f 433 66 "all_packs" (.none) (s "lanepacks.finding" 761),b 432 "all_packs" 773 226 2 776,f 440 67 "packs" (.none) (s "lanepacks.finding" 761),c 439 "packs" 779 233 2 784,f 445 68 "may_join" (.none) (s "lanepacks.finding" 761),b 444 "may_join" 787 236 4 790,fk 451 69 "best_plan" (.none) (.ref 446) (s "lanepacks.finding" 761),(450,y0),f 456 70 "is_parted" (.none) (s "lanepacks.finding" 761),b 455 "is_parted" 801 248 2 804,f 463 71 "pack_from" (.none) (s "lanepacks.finding" 761),c 462 "pack_from" 807 254 4 817,f 468 72 "full_plan" (.none) (s "lanepacks.finding" 761),b 467 "full_plan" 820 263 2 823,f 473 73 "thinned" (.none) (s "lanepacks.finding" 761),b 472 "thinned" 826 274 3 829,fk 481 74 "found_plan" (.none) (.ref 474) (s "lanepacks.finding" 761),(480,y1),f 488 76 "_law_cell_at" (.none) m,c 487 "_law_cell_at" 848 290 2 855,f 495 77 "_law_mixed" (.none) m,c 494 "_law_mixed" 858 299 3 865,f 502 78 "_law_draw" (.none) m,c 501 "_law_draw" 868 302 3 874,f 509 79 "_law_pick" (.none) m,c 508 "_law_pick" 877 305 3 883,f 516 80 "_law_place" (.none) m,c 515 "_law_place" 886 307 5 894,f 521 81 "_law_row" (.none) m,b 520 "_law_row" 897 310 5 900,f 528 82 "_law_rows" (.none) m,c 527 "_law_rows" 903 328 4 914,f 535 83 "_law_next" (.none) m,c 534 "_law_next" 917 340 6 931,f 540 84 "_law_block" (.none) m,b 539 "_law_block" 934 351 3 937,f 547 85 "_law_names" (.none) m,c 546 "_law_names" 940 360 1 944,f 552 86 "_law_may" (.none) m,b 551 "_law_may" 947 364 2 950,f 557 87 "_law_must" (.none) m,b 556 "_law_must" 953 369 1 956,f 564 88 "_law_which" (.none) m,c 563 "_law_which" 959 381 1 964,f 571 89 "_law_none" (.none) m,c 570 "_law_none" 967 389 2 973,f 576 90 "_law_mixed_order" (.none) m,b 575 "_law_mixed_order" 976 396 3 979,f 581 91 "_law_renamed" (.none) m,b 580 "_law_renamed" 982 403 2 985,f 588 92 "_law_ask" (.none) m,c 587 "_law_ask" 988 408 3 995,f 593 93 "law" (.none) m,b 592 "law" 998 415 1 1001,(4,⟨.type "module",ba 0,.plain,#[]⟩)]
def KT:Vr:=[(448,⟨.none,bb,.fields #[],#[]⟩),(476,⟨.none,bb,.fields #[],#[]⟩)]
def KM:Vr:=[(3,⟨.builtin "tab",bb,.fields #[.ref 448,.int 247 0,.int 26 0,.int 247 0,.int 76 0,.str "best_plan.<locals>.<lambda>" 0],#[]⟩),(3,⟨.builtin "tab",bb,.fields #[.ref 476,.int 288 0,.int 31 0,.int 288 0,.int 71 0,.str "found_plan.<locals>.<lambda>" 0],#[]⟩)]
noncomputable def KF(P:Lm):Vr:=KR P++KT
noncomputable def K(P:Lm):Vr:=KR P++KM
noncomputable def A:List Nat:=[3,23,24,36,37,48,49,67,68,79,80,91,92,103,104,115,116,127,128,139,140,158,159,170,171,182,183,201,202,213,214,217,224,223,225,226,227,228,229,230,231,232,233,234,241,240,248,247,255,254,260,259,267,266,274,273,279,278,286,285,293,292,300,299,314,313,321,320,328,327,333,332,338,337,345,344,352,351,357,356,362,361,369,368,374,373,401,400,406,405,411,410,416,415,421,420,428,427,433,432,440,439,445,444,451,450,456,455,463,462,468,467,473,472,481,480,488,487,495,494,502,501,509,508,516,515,521,520,528,527,535,534,540,539,547,546,552,551,557,556,564,563,571,570,576,575,581,580,588,587,593,592,4,448,476]
noncomputable def view:Aw:={Ln with main:={PySem.Challenge.pw_lanepacks_k25_finding_refused.main with body:=[1,2,3,4,5,6,7,8,9,10,11,12,13,14,15,17,18,19,21,22,23,24,25,26,27,28,29,30,31,32,33,34,35,36,38,39,40,41,42,43,44,46,47,48,49,50,51,52,53,54,55,56,57,58,59,60,61,62,64,65,66,67,68,70,71,72,73,76,77,78,79,80,81,82,83,84,85,86,87,88,89,90,91,92,93].map RR.top}}
abbrev lo:List Va:=["OTHER_PARTS","best_plan","found_plan"]
def kA(P:Lm):A=(KF P).map (·.1):=by kernel_rfl
noncomputable def X(s:Ae):Bool:=xlAt view [] s&&recOk (RowW.records (OpenRow.toRowW PySem.Challenge.rw_lanepacks_k25_finding_refused.row)) s
noncomputable abbrev H:Hook:=kHook KF A kA
abbrev pr:Aw:=PySem.Challenge.rw_lanepacks_k25_finding_refused.row.prog
theorem mapP{α β γ:Type}{o:Option α}{f:α->β×γ}{a:β}{b:γ}(h:o.map (λq=>(f q).1)=ba a)(k:o.map (λq=>(f q).2)=ba b):o.map f=ba (a,b):=by cases o with
 |none=>cases h
 |some q=>cases h;cases k;rfl
set_option maxRecDepth 100000 in
set_option maxHeartbeats 0 in
theorem rAfp(w:Ve):(QQ pr (w.withFollow "special-get-raises" bd) 10748).map (λq=>(Lc view lo (Kh pr.main.body) X bc q.2).1)=ba (openGood view lo).1:=by kernel_rfl
set_option maxRecDepth 100000 in
set_option maxHeartbeats 0 in
theorem rCf(w:Ve):(QQ pr (w.withFollow "special-get-raises" bd) 10748).map (λq=>(Lc view lo (Kh pr.main.body) X bc q.2).2)=ba (openGood view lo).2:=by kernel_rfl
theorem rAf(w:Ve):(QQ pr (w.withFollow "special-get-raises" bd) 10748).map (λq=>Lc view lo (Kh pr.main.body) X bc q.2)=ba (openGood view lo):=@mapP _ _ _ _ _ (openGood view lo).1 (openGood view lo).2 (rAfp w) (rCf w)
set_option maxRecDepth 100000 in
set_option maxHeartbeats 0 in
theorem rBf(w:Ve):(QQ pr (w.withFollow "special-get-raises" bd) 10748).map (λq=>(chkU pr q.1 q.2,H.obs q.2))=ba ((bc,H.val (w.withFollow "special-get-raises" bd))):=by kernel_rfl
set_option maxRecDepth 100000 in
set_option maxHeartbeats 0 in
theorem rAtp(w:Ve):(QQ pr (w.withFollow "special-get-raises" bc) 10748).map (λq=>(Lc view lo (Kh pr.main.body) X bc q.2).1)=ba (openGood view lo).1:=by kernel_rfl
set_option maxRecDepth 100000 in
set_option maxHeartbeats 0 in
theorem rCt(w:Ve):(QQ pr (w.withFollow "special-get-raises" bc) 10748).map (λq=>(Lc view lo (Kh pr.main.body) X bc q.2).2)=ba (openGood view lo).2:=by kernel_rfl
theorem rAt(w:Ve):(QQ pr (w.withFollow "special-get-raises" bc) 10748).map (λq=>Lc view lo (Kh pr.main.body) X bc q.2)=ba (openGood view lo):=@mapP _ _ _ _ _ (openGood view lo).1 (openGood view lo).2 (rAtp w) (rCt w)
set_option maxRecDepth 100000 in
set_option maxHeartbeats 0 in
theorem rBt(w:Ve):(QQ pr (w.withFollow "special-get-raises" bc) 10748).map (λq=>(chkU pr q.1 q.2,H.obs q.2))=ba ((bc,H.val (w.withFollow "special-get-raises" bc))):=by kernel_rfl
def hl:LeftO pr view lo X H.obs H.val 10748:=λw=>byRow2 "special-get-raises" (P:=λw=>(Tn treeTable pr w 10748).map (λs=>(openSeen view lo (Kh pr.main.body) X bc s,H.obs s))=ba (openGood view lo,H.val w)) (λw=>mapQ (by rw[Ld];exact rAf w) (rBf w)) (λw=>mapQ (by rw[Ld];exact rAt w) (rBt w)) w
set_option maxRecDepth 100000 in
set_option maxHeartbeats 0 in
theorem said:PySem.Challenge.rw_lanepacks_k25_finding_refused.wellSaid=bc:=by rw[Fast.te9446332074065402090];kernel_rfl
abbrev m0:Uw:=.str "lanepacks.blocks" 479
abbrev m1:Uw:=.str "lanepacks.finding" 761
abbrev m2:Uw:=.str "lanepacks.orders" 592
abbrev m3:Uw:=.str "lanepacks.plans" 652
abbrev m4:Uw:=.str "lanepacks.words" 458
abbrev m5:Uw:=.str "law_lanepacks_k25_finding_refused" 846
end KK
namespace L2
open PySem PySem.Spec PyProof.Rows
abbrev aK:=Sum Int Va
noncomputable def J6:aK->Uw->Bool
 |.inl k,v=>Uo k v
 |.inr x,v=>To x v
def keyH(w:Ve):aK->Int
 |.inl k=>hashInt k
 |.inr x=>hashStr w x
theorem ZW:∀{k:aK}{v:Uw},J6 k v=bc->(∃i t,k=Pt i/\v=Rv i t)∨(∃x t,k=Pw x/\v=Nc x t)
 |.inl i,v,h=>by obtain⟨t,e⟩:=Value.isInt_shape (k:=i) (v:=v) h;exact .inl ⟨i,t,rfl,e⟩
 |.inr x,v,h=>by obtain⟨t,e⟩:=Value.isStrOf_shape (x:=x) (v:=v) h;exact .inr ⟨x,t,rfl,e⟩
def kG(i:Int)(t:Vp):J6 (.inl i) (.int i t)=bc:=by simp[J6,Uo]
def jK(x:Va)(t:Vp):J6 (.inr x) (.str x t)=bc:=by simp[J6,To]
def lx(a b:Int):decide ((Pt a:aK)=Pt b)=(a==b):=by
 by_cases e:a=b
 ·subst e;simp
 ·have h : ¬ (Pt a : aK) = Pt b := λq => e (Sum.inl.inj q)
  rw[decide_eq_false h];exact(beq_eq_false_iff_ne.mpr e).symm
def eQ(a b:Va):decide ((Pw a:aK)=Pw b)=decide (a=b):=by
 by_cases e:a=b
 ·subst e;simp
 ·have h : ¬ (Pw a : aK) = Pw b := λq => e (Sum.inr.inj q)
  rw[decide_eq_false h,decide_eq_false e]
def gY(a:Int)(b:Va):decide ((Pt a:aK)=Pw b)=bd:=decide_eq_false (λq=>nomatch q)
def jD(a:Va)(b:Int):decide ((Pw a:aK)=Pt b)=bd:=decide_eq_false (λq=>nomatch q)
def aT(prog:Aw)(w:Ve):PySem.KeyKind prog w aK where
 is:=J6
 hash:=keyH w
 inj:=λv a b l f=>by
  rcases ZW l with⟨i,t,rfl,rfl⟩|⟨x,t,rfl,rfl⟩
  ·rcases ZW f with⟨j,u,rfl,e⟩|⟨y,u,rfl,e⟩
   ·injection e with c _;rw[c]
   ·exact nomatch e
  ·rcases ZW f with⟨j,u,rfl,e⟩|⟨y,u,rfl,e⟩
   ·exact nomatch e
   ·injection e with c _;rw[c]
 byValue:=λk v h=>by
  rcases ZW h with⟨i,t,rfl,rfl⟩|⟨x,t,rfl,rfl⟩<;>rfl
 pyHash:=λd h=>by
  rcases ZW d with⟨i,t,rfl,rfl⟩|⟨x,t,rfl,rfl⟩
  ·exact wpAny_pyHash_int h
  ·exact wpAny_pyHash_str h
 eqBool:=λg d h=>by
  rcases ZW g with⟨i,t,rfl,rfl⟩|⟨x,t,rfl,rfl⟩
  ·rcases ZW d with⟨j,u,rfl,rfl⟩|⟨y,u,rfl,rfl⟩
   ·rw[lx]at h;exact Mp h
   ·rw[gY]at h;exact SeqAt.EqAt.int_str i t y u _ _ _ _ h
  ·rcases ZW d with⟨j,u,rfl,rfl⟩|⟨y,u,rfl,rfl⟩
   ·rw[jD]at h;exact SeqAt.EqAt.str_int x t j u _ _ _ _ h
   ·rw[eQ]at h;exact wpAny_eqBool_str h
 «strs» :=λk x t v h=>by
  rcases ZW h with⟨i,u,rfl,e⟩|⟨y,u,rfl,e⟩
  ·exact nomatch e
  ·injection e with c _
   subst c;cases v<;>rfl
def E8(prog:Aw)(w:Ve)(i:Int)(t:Vp):(aT prog w).is (.inl i) (.int i t)=bc:=kG i t
def E9(prog:Aw)(w:Ve)(x:Va)(t:Vp):(aT prog w).is (.inr x) (.str x t)=bc:=jK x t
inductive V where
 |non|bl (b:Bool)|int (i:Int)|str (x:Va)|byt (b:Array UInt8)|flt (b:UInt64)|ref (a:Ux)|ty (n:String)
 deriving DecidableEq
def bE:V->Uw->Prop
 |.non,u=>u=Value.none
 |.bl b,u=>u=Ib b
 |.int i,u=>∃t,u=Rv i t
 |.str x,u=>∃t,u=Nc x t
 |.byt b,u=>∃t,u=Value.bytes b t
 |.flt b,u=>∃t,u=Up b t
 |.ref a,u=>u=Br a
 |.ty n,u=>u=Lw n
abbrev bL:List V->List Uw->Prop:=Paired bE
def bL.length{xs:List V}{a:List Uw}(r:bL xs a):xs.length=a.length:=Ox r
theorem bL.get:∀{xs:List V}{a:List Uw}{i:Nat}{x:V},bL xs a->xs[i]?=ba x->∃u,a[i]?=ba u/\bE x u
 |_,_,_,_,.nil,e=>by simp at e
 |_,_,0,_,.cons r _,e=>by simp at e;subst e;exact⟨_,rfl,r⟩
 |_,_,i+1,x,.cons _ t,e=>by obtain⟨u,h1,h2⟩:=bL.get (i:=i) (x:=x) t (by simpa using e);exact⟨u,by simpa using h1,h2⟩
theorem bL.append:∀{xs ys:List V}{b a:List Uw},bL xs b->bL ys a->bL (xs++ys) (b++a)
 |_,_,_,_,.nil,s=>s
 |_,_,_,_,.cons r t,s=>.cons r (bL.append t s)
theorem bL.take:∀{xs:List V}{a:List Uw}(n:Nat),bL xs a->bL (xs.take n) (a.take n)
 |_,_,0,_=>.nil
 |_,_,_+1,.nil=>.nil
 |_,_,n+1,.cons r t=>.cons r (bL.take n t)
theorem bL.drop:∀{xs:List V}{a:List Uw}(n:Nat),bL xs a->bL (xs.drop n) (a.drop n)
 |_,_,0,r=>r
 |_,_,_+1,.nil=>.nil
 |_,_,n+1,.cons _ t=>bL.drop n t
noncomputable def O0:Option V->Option Uw->Prop
 |some v,ba u=>bE v u
 |none,bb=>True
 |_,_=>False
def KV{κ:Type}:List (κ×V)->List (κ×Uw)->Prop:=Paired λ(p:κ×V) (q:κ×Uw)=>p.1=q.1/\bE p.2 q.2
noncomputable def kV:aK->V
 |.inl i=>.int i
 |.inr x=>.str x
inductive HO where
 |lst (xs:List V)
 |tup (xs:List V)
 |dK (kvs:List (aK×V))|dT (kvs:List (List aK×V))
 |set (S:Int->Bool) (n:Nat)
 |ins (C dx:Ux) (fs:List (Va×V))
 |own (x:Ux)
 |xd (fs:List (Va×V))
 |met (f x:Ux)
 |rng (lo hi:Int)
 |frz (o:Vi) (u:HO)
 |tbl (ps:Array Uw)
 |ctb (pos:Pos) (qual:Va)
 |ext (φ:Vg->Prop)
abbrev Hp:=Ux->Option HO
def upd(H:Hp)(a:Ux)(o:HO):Hp:=λb=>if b=a then ba o else H b
def b9{H:Hp}{a:Ux}{o:HO}:upd H a o a=ba o:=by unfold upd;rw[if_pos rfl]
def bV{H:Hp}{a b:Ux}{o:HO}(h:b≠a):upd H a o b=H b:=by unfold upd;rw[if_neg h]
def lE{H:Hp}{a b:Ux}{o u:HO}(h:H a=ba o)(h':H b=ba u)(d:o≠u):a≠b:=by intro e;subst e;rw[h]at h';exact d (Cv h')
def Z6{H:Hp}{a b:Ux}{o:HO}(h:H a=ba o)(h':H b=bb):a≠b:=by intro e;subst e;rw[h]at h';cases h'
def Fx:HO->Prop
 |.tup _=>True
 |.frz _ _=>True
 |_=>False
def Vw(o:Vi)(q:Va):Prop:=∃vs t,o.data=.fields vs/\vs[1]?=ba (.str q t)
section
variable(P:Aw)(w:Ve)
def Z7(H:Hp)(h:Vg)(a:Ux):HO->Prop
 |.lst xs=>xs.length<=sizeLine/\∃(b:List Uw) (n:Nat),bL xs b/\h.get? a=ba {cls:=.type "list",data:=.seq b.toArray n}
 |.tup xs=>xs.length<=sizeLine/\∃b:List Uw,bL xs b/\IsTup h a b.toArray
 |.dK kvs=>kvs.length<=sizeLine/\(a==Hb)=bd/\∃vs,KV kvs vs/\h.DictOf (aT P w) a vs
 | .dT kvs => kvs.length <= sizeLine /\ (a == Hb) = bd /\ ∃ xs : List (List aK × Ux × Uw),
   Paired (λ(p:List aK×V) (q:List aK×Ux×Uw)=>p.1=q.1/\H q.2.1=ba (.tup (p.1.map kV))/\bE p.2 q.2.2) kvs xs∧
   ∃o es ep,h.get? a=ba o/\o.ExactDict/\o.data=.dict es ep/\es.toList=xs.map (entryOfKey (tupleKind (aT P w)))/\(xs.map (·.1)).Nodup
 |.set S n=>h.SetOf (intKind P w) a S n
 | .ins C dx fs => H dx = ba (.own a) /\ fs.length <= 1000 /\ dx ≠ a /\ h.get? a = ba (Uf C dx) ∧
   ∃d,h.Ns1 dx d/\(∀f,O0 (fs.lookup f) (d f))/\Ug d (fs.map (·.1))
 |.own _=>∃o,h.get? a=ba o
 |.xd fs=>∃d,h.Ns1 a d/\∀f,O0 (fs.lookup f) (d f)
 |.rng lo hi=>∃t u v,h.get? a=ba {cls:=.type "range",data:=.fields #[.int lo t,.int hi u,.int 1 v]}
 |.frz o u=>h.get? a=ba o/\Z7 H h a u
 |.tbl ps=>h.get? a=ba {cls:=.none,data:=.fields ps}
 |.ctb pos qual=>∃ps:Array Uw,h.get? a=ba {cls:=.none,data:=.fields ps}/\TriplesOk ps.toList/\∀g,codeAmong pos ps.toList=ba g->∃c o,g=.ref c/\H c=ba (.frz o (.ext λ_=>True))/\Vw o qual
 |.met f x=>h.get? a=ba (Rw (.ref f) (.ref x))
 |.ext e=>e h/\(∃o,h.get? a=ba o)/\∀h1 h2:Vg,e h1->(∀o,h1.get? a=ba o->h2.get? a=ba o)->e h2
def SW(H:Hp)(h:Vg):Prop:=∀a o,H a=ba o->Z7 P w H h a o
end
section
variable{P:Aw}{w:Ve}{H H':Hp}{h h':Vg}{a:Ux}{o:HO}
def Z7.lt(x:Z7 P w H h a o):a<h.objs.size:=by
 cases o with
 |lst xs=>obtain⟨_,_,_,_,e⟩:=x;exact An e
 |tup xs=>obtain⟨_,_,_,p⟩:=x;exact p.lt
 |dK kvs=>obtain⟨_,_,_,_,o,_,_,e,_⟩:=x;exact An e
 |dT kvs=>obtain⟨_,_,_,_,o,_,_,e,_⟩:=x;exact An e
 |set S n=>obtain⟨o,_,_,_,e,_⟩:=x;exact An e
 |ins C dx fs=>obtain⟨_,_,_,e,_⟩:=x;exact An e
 |own y=>obtain⟨_,e⟩:=x;exact An e
 |xd fs=>obtain⟨_,⟨_,_,_,e,_⟩,_⟩:=x;exact An e
 |rng lo hi=>obtain⟨_,_,_,e⟩:=x;exact An e
 |frz c u=>obtain⟨e,_⟩:=x;exact An e
 |ctb pos qual=>obtain⟨_,e,_⟩:=x;exact An e
 |tbl ps=>exact An (show h.get? a=ba _ from x)
 |met f y=>exact An (show h.get? a=ba _ from x)
 |ext b=>obtain⟨_,⟨_,e⟩,_⟩:=x;exact An e
theorem Paired.mapP{α β:Type}{F G:α->β->Prop}:∀{d:List α}{c:List β},Paired F d c->(∀a b,F a b->G a b)->Paired G d c
 |_,_,.nil,_=>.nil
 |_,_,.cons r t,f=>.cons (f _ _ r) (Paired.mapP t f)
def Z7.stay(x:Z7 P w H h a o)(k:∀b u,(b=a∨H b=ba (.own a))->h.get? b=ba u->h'.get? b=ba u)(D:∀b,H b=ba (.own a)->H' b=ba (.own a))(s:∀b (o:HO),Fx o->H b=ba o->H' b=ba o):Z7 P w H' h' a o:=by
 induction o with
 |lst xs=>obtain⟨z,i,n,r,e⟩:=x;exact⟨z,i,n,r,k _ _ (.inl rfl) e⟩
 |tup xs=>obtain⟨z,i,r,g,e,c⟩:=x;exact⟨z,i,r,g,k _ _ (.inl rfl) e,c⟩
 |dK kvs=>obtain⟨z,y,vs,r,g,es,ep,e,c⟩:=x;exact⟨z,y,vs,r,g,es,ep,k _ _ (.inl rfl) e,c⟩
 |dT kvs=>
  obtain⟨z,y,xs,r,g,es,ep,e,c⟩:=x;exact⟨z,y,xs,Paired.mapP r λp q z=>⟨z.1,s _ _ trivial z.2.1,z.2.2⟩,g,es,ep,k _ _ (.inl rfl) e,c⟩
 |set S n=>obtain⟨g,es,ep,t,e,c⟩:=x;exact⟨g,es,ep,t,k _ _ (.inl rfl) e,c⟩
 |ins C dx fs=>
  obtain⟨d,z,A,e,j,⟨od,es,ep,m,c⟩,r⟩:=x;exact⟨D _ d,z,A,k _ _ (.inl rfl) e,j,⟨od,es,ep,k _ _ (.inr d) m,c⟩,r⟩
 |own y=>obtain⟨g,e⟩:=x;exact⟨g,k _ _ (.inl rfl) e⟩
 |xd fs=>obtain⟨j,⟨od,es,ep,e,c⟩,r⟩:=x;exact⟨j,⟨od,es,ep,k _ _ (.inl rfl) e,c⟩,r⟩
 |rng lo hi=>obtain⟨t,u,v,e⟩:=x;exact⟨t,u,v,k _ _ (.inl rfl) e⟩
 |frz g u B=>obtain⟨e,q⟩:=x;exact⟨k _ _ (.inl rfl) e,B q⟩
 |ctb pos qual=>
  obtain⟨ps,e,t,c⟩:=x;exact⟨ps,k _ _ (.inl rfl) e,t,λG l=>let ⟨I,o',F,m,E⟩:=c G l;⟨I,o',F,s _ _ trivial m,E⟩⟩
 |tbl ps=>
  have e:h.get? a=ba {cls:=.none,data:=.fields ps}:=x;show h'.get? a=ba {cls:=.none,data:=.fields ps};exact k a _ (.inl rfl) e
 |met f y=>
  have e:h.get? a=ba (Rw (.ref f) (.ref y)):=x;show h'.get? a=ba (Rw (.ref f) (.ref y));exact k a _ (.inl rfl) e
 |ext J=>obtain⟨p,⟨o,e⟩,st⟩:=x;exact⟨st _ _ p λo q=>k _ _ (.inl rfl) q,⟨o,k _ _ (.inl rfl) e⟩,st⟩
def SW.lt(x:SW P w H h)(e:H a=ba o):a<h.objs.size:=(x a o e).lt
def SW.fresh(x:SW P w H h)(e:h.objs.size<=a):H a=bb:=by
 cases q:H a with
 |none=>rfl
 |some u=>exact absurd (Az (x.lt q) e) (Cq _)
def SW.kept(x:SW P w H h)(k:∀b u,h.get? b=ba u->h'.get? b=ba u):SW P w H h':=λa o e=>
 (x a o e).stay (λb u _ q=>k b u q) (λ_ q=>q) λ_ _ _ q=>q
def SW.laid(x:SW P w H h)(k:∀b u,h.get? b=ba u->h'.get? b=ba u)(g:h.objs.size<=a)(new:Z7 P w (upd H a o) h' a o):SW P w (upd H a o) h':=λb u e=>by
 have d:=x.fresh g;by_cases f:b=a
 ·subst f;rw[b9]at e;cases e;exact new
 ·rw[bV f]at e
  exact(x b u e).stay (λc v _ q=>k c v q) (λc q=>by rw[bV (Z6 q d)];exact q) λc xs _ q=>by rw[bV (Z6 q d)];exact q
end
def Rd(H:Hp)(a:Ux)(u:HO):Prop:=H a=ba u∨∃o,H a=ba (.frz o u)
def Rd.ok{P:Aw}{w:Ve}{H:Hp}{h:Vg}{a:Ux}{u:HO}(r:Rd H a u)(x:SW P w H h):Z7 P w H h a u:=by
 rcases r with r|⟨o,r⟩
 ·exact x a u r
 ·obtain⟨_,q⟩:=x a _ r
  exact q
def Mut:Option HO->Prop
 |some (.lst _)=>True
 |some (.dK _)=>True
 |some (.dT _)=>True
 |some (.set _ _)=>True
 |some (.ins _ _ _)=>True
 |some (.ext _)=>True
 |_=>False
section
variable{P:Aw}{w:Ve}{H:Hp}{h h':Vg}{x e:Ux}{o':HO}
def SW.write(ok:SW P w H h)(d:Mut (H x))(l:e=x∨H e=ba (.own x))(k:∀b u,b≠e->h.get? b=ba u->h'.get? b=ba u)(i:∃u,h'.get? e=ba u)
  (new:Z7 P w (upd H x o') h' x o'):SW P w (upd H x o') h':=λb u q=>by
 have m:∀c y,H c=ba (.own y)->c≠x:=λc y r z=>by subst z;rw[r]at d;exact d
 have n:∀c (o:HO),Fx o->H c=ba o->c≠x:=λc o f r z=>by subst z;rw[r]at d;cases o<;>first|exact d|exact f
 by_cases g:b=x
 ·subst g;rw[b9]at q;cases q;exact new
 ·rw[bV g]at q
  by_cases a:b=e
  ·have j:H b=ba (.own x):=by
    rcases l with z|z
    ·exact absurd (a.trans z) g
    ·rw[a];exact z
   rw[q]at j;cases j;obtain⟨v,p⟩:=i;exact⟨v,by rw[a];exact p⟩
  ·refine (ok b u q).stay (λc v hc r => k c v ?_ r) (λc r => by rw [bV (m c b r)];exact r) λc o f r => by rw [bV (n c o f r)];exact r
   rcases hc with rfl|hc
   ·exact a
   ·rintro rfl
    rcases l with z|z
    ·exact m c b hc z
    ·rw[hc]at z;cases z;exact g rfl
end
noncomputable def tbOf:Ux×Vi->Option (Ux×HO)
 |(_,⟨.builtin "tab",_,.fields ⟨[.ref P,.int a _,.int b _,.int c _,.int d _,.str q _]⟩,_⟩)=>ba (P,.ctb ⟨a.toNat,b.toNat,c.toNat,d.toNat⟩ q)
 |_=>bb
def tbIn(K:Ah)(a:Ux):Option HO:=(K.filterMap tbOf).lookup a
def CL(K:Ah)(H:Hp):Prop:=∀a o,tbIn K a=ba o->H a=ba o
def DW{K:Ah}{a:Ux}{o:HO}(h:tbIn K a=ba o):∃pos q,o=.ctb pos q:=by
 obtain⟨c,b,z,_⟩:=Ih.mp (show(K.filterMap tbOf).lookup a=ba o from h);obtain⟨p,d,e⟩:=Ii.mp (show(a,o)∈K.filterMap tbOf by rw[z];simp);unfold tbOf at e;split at e
 ·cases e;exact⟨_,_,rfl⟩
 ·cases e
structure Un(fs ex:List Ux)(H H':Hp)(h h':Vg):Prop where
 keep:∀b o,h.get? b=ba o->H b=bb->b∉fs->b∉ex->h'.get? b=ba o
 slot:∀b o,h.get? b=ba o->H b=bb->b∈fs->b∉ex->∃sl,h'.get? b=ba {o with slots:=sl}
 free:∀b o,h.get? b=ba o->H b=bb->b∉ex->H' b=bb
 there:∀b o,h.get? b=ba o->b∉ex->∃o',h'.get? b=ba o'
 tups:∀b xs,H b=ba (.tup xs)->H' b=ba (.tup xs)
 frzs:∀b o u,H b=ba (.frz o u)->H' b=ba (.frz o u)
 tbls:∀b ps,H b=ba (.tbl ps)->∃more,H' b=ba (.tbl (ps++more))
section
variable{fs fs' ex ex':List Ux}{H H1 H2:Hp}{h h1 h2 h':Vg}{a x e:Ux}{o:HO}
def Un.any(u:Un fs ex H H1 h h1){b:Ux}{a:Vi}(q:h.get? b=ba a)(n:H b=bb)(c:b∉ex):∃e,h1.get? b=ba {a with slots:=e}:=by
 by_cases d:b∈fs
 ·exact u.slot b a q n d c
 ·exact⟨a.slots,u.keep b a q n d c⟩
def Un.kept(k:∀b u,h.get? b=ba u->h'.get? b=ba u):Un fs ex H H h h':=
 ⟨λb a q _ _ _=>k b a q,λb a q _ _ _=>⟨a.slots,k b a q⟩,λ_ _ _ n _=>n,λb a q _=>⟨a,k b a q⟩,λ_ _ q=>q,λ_ _ _ q=>q,λ_ ps q=>⟨#[],by rw[q];simp⟩⟩
def Un.refl:Un fs ex H H h h:=Un.kept λ_ _ q=>q
def Un.laid(k:∀b u,h.get? b=ba u->h'.get? b=ba u)(d:h.objs.size<=a)(c:H a=bb):Un fs ex H (upd H a o) h h' where
 keep:=λb u q _ _ _=>k b u q
 slot:=λb u q _ _ _=>⟨u.slots,k b u q⟩
 free:=λb u q n _=>by rw[bV (Bb (Az (An q) d))];exact n
 there:=λb u q _=>⟨u,k b u q⟩
 tups:=λb xs q=>by rw[bV (Z6 q c)];exact q
 frzs:=λb u xs q=>by rw[bV (Z6 q c)];exact q
 tbls:=λb ps q=>⟨#[],by rw[bV (Z6 q c),q];simp⟩
def Un.write(c:Mut (H x))(j:e=x∨H e=ba (.own x))(k:∀b u,b≠e->h.get? b=ba u->h'.get? b=ba u)(f:∃u,h'.get? e=ba u):Un fs ex H (upd H x o) h h':=by
 have g:∀b,H b=bb->b≠x:=λb n z=>by subst z;rw[n]at c;exact c
 have i:∀b,H b=bb->b≠e:=λb n z=>by
  subst z;rcases j with r|r
  ·exact g b n r
  ·rw[n]at r;cases r
 have d:∀b u,H b=ba u->¬Mut (ba u)->b≠x:=λb u q nm z=>by subst z;rw[q]at c;exact nm c
 refine⟨λb u q n _ _=>k b u (i b n) q,λb u q n _ _=>⟨u.slots,k b u (i b n) q⟩,λb u q n _=>by rw[bV (g b n)];exact n,λb u q _=>?_,λb xs q=>by rw[bV (d b _ q λz=>z)];exact q,λb u xs q=>by rw[bV (d b _ q λz=>z)];exact q,λb ps q=>⟨#[],by rw[bV (d b _ q λz=>z),q];simp⟩⟩
 by_cases a:b=e
 ·subst a;exact f
 ·exact⟨u,k b u a q⟩
end
def trk(h:Vg)(H:Hp):List Ux:=(Au h.objs.size).filter λa=>(H a).isSome
def HF(h:Vg)(H:Hp):Vg:=W.hideAll h (trk h H)
def jy(h:Vg)(H:Hp):(HF h H).objs.size=h.objs.size:=W.hideAll_size _ _
def eF{h:Vg}{H:Hp}{b:Ux}{o:Vi}(e:h.get? b=ba o)(n:H b=bb):(HF h H).get? b=ba o:=
 Oy _ e λa=>by have q:(H b).isSome=bc:=(Ij.mp a).2;rw[n]at q;simp at q
def kT{h:Vg}{H:Hp}{b:Ux}{o:Vi}(e:(HF h H).get? b=ba o):h.get? b=ba o/\H b=bb:=by
 have a:h.get? b=ba o:=W.of_hideAll (trk h H) e;refine⟨a,?_⟩;cases q:H b with
 |none=>rfl
 |some x=>
  have c:b∈trk h H:=Ij.mpr ⟨Dm.mpr (An a),by simp[q]⟩;have z:(HF h H).get? b=bb:=W.hideAll_none (trk h H) c;rw[z]at e;cases e
structure Mod(K:Ah)(mg:Va->Option Uw)(base:Vg):Prop where
 kin:K.In base
 glob:base.Ns Vd mg
 blt:∃mb,base.Ns builtinsNs mb/\∀x:Va,x≠ "__name__" ->mb x=Bi x
 nolimit:base.NoLimit
structure Cx where
 prog:Aw
 w:Ve
 K:Ah
 mg:Va->Option Uw
 base:Vg
 A:Bw
 N:List Va
 s₀:Ae
 H₀:Hp
 env:Env
 outer:List Env
 stack:List Env
 ex:List Ux
 fn:Va->Bool
 calm:Bool
 pn:List (Ux×Vi)
 xe:Uw->Ae->Prop
def SH(l:List Env):List Ux:=l.filterMap (·.frame)
abbrev Cx.fs(X:Cx):List Ux:=SH X.outer
def Vis(a:Vk)(x:Va):Prop:=a.names.lookup x=ba .local∨a.names.lookup x=ba .cell∨a.names.lookup x=ba .free
def Loc(a:Vk)(x:Va):Prop:=a.names.lookup x=ba .local∨a.names.lookup x=ba .cell
def Look(env:Env)(h:Vg)(m:Va->Option Uw)(x:Va)(u:Uw):Prop:=
 (env.kindOf x=ba .local/\m x=ba u)∨((env.kindOf x=ba .cell∨env.kindOf x=ba .free)/\∃c,env.cells.lookup x=ba c/\h.IsCell c (ba u))
structure Cx.Ok(X:Cx):Prop where
 mod:Mod X.K X.mg X.base
 kind:X.env.scope.kind=.function
 glob:X.env.globals=Vd
 blt:X.env.builtins=builtinsNs
 above:X.s₀.heap.objs.size<=X.env.locals
 inj:∀x y c,X.env.cells.lookup x=ba c->X.env.cells.lookup y=ba c->x=y
 has:∀x,(X.env.kindOf x=ba .cell∨X.env.kindOf x=ba .free)->∃c,X.env.cells.lookup x=ba c
 cab:∀x c,X.fn x=bc->X.env.cells.lookup x=ba c->X.s₀.heap.objs.size<=c
 hd:X.calm=bc->X.A.handled=bb
 frames:X.A.frames=ba X.stack
 stk:X.stack=X.outer∨(X.stack=X.env::X.outer/\X.env.frame=ba X.env.locals)
 exf:∀b∈X.ex,b≠X.env.locals/\∀x c,X.env.cells.lookup x=ba c->c≠b
 bs:∀b o,X.base.get? b=ba o->X.s₀.heap.get? b=ba o/\X.H₀ b=bb
 bsz:X.base.objs.size<=X.s₀.heap.objs.size
 noex:∀b o,X.base.get? b=ba o->b∉X.ex
 exfs:∀b∈X.ex,b∉X.fs
 funs:X.s₀.heap.FunFrames X.base X.outer
 frf:∀b∈X.fs,X.H₀ b=bb
structure cF(X:Cx)(aa:List (Ux×Vi))(σ:List (Option V))(H:Hp)(s:Ae):Prop where
 ok:X.Ok
 os:s.os=X.s₀.os
 bare:Mg s.gens
 base:Un X.fs X.ex X.H₀ H X.s₀.heap s.heap
 loc:∃m,s.heap.Ns X.env.locals m/\∀(i:Nat) (x:Va) (v:V),X.N[i]?=ba x->σ[i]?=ba (ba v)->Vis X.env.scope x->∃u,bE v u/\Look X.env s.heap m x u
 cell:∀x c,X.env.cells.lookup x=ba c->∃v,s.heap.IsCell c v
 free:H X.env.locals=bb
 freeC:∀x c,X.env.cells.lookup x=ba c->H c=bb
 pin:∀p∈X.pn++aa,s.heap.get? p.1=ba p.2/\H p.1=bb/\p.1≠X.env.locals/\p.1∉X.fs/\∀v,p.2.data≠ .cell v
 hok:SW X.prog X.w H s.heap
 len:σ.length=X.N.length
section
variable{X:Cx}{aa:List (Ux×Vi)}{σ:List (Option V)}{H H':Hp}{s:Ae}{h':Vg}
def Cx.Ok.nofr(ok:X.Ok){b:Ux}{o:Vi}(e:X.base.get? b=ba o):b∉X.fs:=λa=>by
 have:=(ok.funs.mem a).1
 rw[e]at this;cases this
def cF.bs(I:cF X aa σ H s):∀b o,X.base.get? b=ba o->s.heap.get? b=ba o/\H b=bb:=λb o e=>
 ⟨I.base.keep b o (I.ok.bs b o e).1 (I.ok.bs b o e).2 (I.ok.nofr e) (I.ok.noex b o e),I.base.free b o (I.ok.bs b o e).1 (I.ok.bs b o e).2 (I.ok.noex b o e)⟩
def cF.bk(I:cF X aa σ H s):∀b o,X.base.get? b=ba o->s.heap.get? b=ba o:=λb o e=>(I.bs b o e).1
def cF.mod(I:cF X aa σ H s):Mod X.K X.mg X.base:=I.ok.mod
def cF.kIn(I:cF X aa σ H s):X.K.In s.heap:=I.ok.mod.kin.keeps I.bk
def cF.nolimit(I:cF X aa σ H s):s.heap.NoLimit:=I.ok.mod.nolimit.keeps I.bk
def cF.lt(I:cF X aa σ H s):X.env.locals<s.heap.objs.size:=let ⟨_,a,_⟩:=I.loc;a.lt
def cF.sz(I:cF X aa σ H s):X.s₀.heap.objs.size<=s.heap.objs.size:=Fc I.ok.above (Qr I.lt)
def cF.nofs(I:cF X aa σ H s){a:Ux}(h:s.heap.objs.size<=a):a∉X.fs:=λc=>by obtain⟨_,o,b,_⟩:=I.ok.funs.mem c;exact absurd (Az (An b) (Fc I.sz h)) (Cq _)
def cF.cne(I:cF X aa σ H s):∀x c,X.env.cells.lookup x=ba c->c≠X.env.locals:=λx c e z=>by obtain⟨v,o,d,f⟩:=I.cell x c e;obtain⟨m,⟨o',es,ep,a,b,_⟩,_⟩:=I.loc;rw[z,a]at d;cases d;rw[b]at f;cases f
def cF.funs(I:cF X aa σ H s):s.heap.FunFrames X.base X.outer:=by
 have all:∀(l:List Env),(∀b∈SH l,b∈X.fs)->X.s₀.heap.FunFrames X.base l->s.heap.FunFrames X.base l:=by
  intro l;induction l with
  |nil=>intro _ _;trivial
  |cons env r g=>
   intro f hl;obtain⟨k,⟨L,o,a,j,i,m⟩,h⟩:=hl;have d:L∈X.fs:=f L (by unfold SH;rw[Kl,a];exact Ax);obtain⟨n,e⟩:=I.base.slot L o i (I.ok.frf L d) d λz=>I.ok.exfs L z d;exact⟨k,⟨L,_,a,j,e,m⟩,g (λb c=>f b (by unfold SH;rw[Kl,a];exact Ap _ c)) h⟩
 exact all X.outer (λ_ c=>c) I.ok.funs
def cF.stack(I:cF X aa σ H s):s.heap.FunFrames X.base X.stack:=by
 rcases I.ok.stk with e|⟨e,b⟩
 ·rw[e];exact I.funs
 ·rw[e]
  obtain⟨m,a,_⟩:=I.loc;refine .cons (by rw[I.ok.kind];decide) b a ?_ I.funs;exact Heap.get?_none_of_le (Fc I.ok.bsz I.ok.above)
def cF.stkSub(I:cF X aa σ H s):∀b∈SH X.stack,b∈X.env.locals::X.fs:=λb a=>by
 rcases I.ok.stk with e|⟨e,c⟩
 ·rw[e]at a;exact Ap _ a
 ·rw[e]at a
  unfold SH at a;rw[Kl,c]at a;exact a
def cF.stkFree(I:cF X aa σ H s):∀b∈SH X.stack,H b=bb:=λb a=>by
 rcases Ak.mp (I.stkSub b a)with e|a
 ·rw[e];exact I.free
 ·obtain⟨_,o,c,_⟩:=I.ok.funs.mem a
  exact I.base.free b o c (I.ok.frf b a) λz=>I.ok.exfs b z a
def cF.step{g':Array GenState}{t':Nat}{d':Drawn}{ch:List Ux}(I:cF X aa σ H s)(h:∀b∈ch,(b∈X.ex∨X.s₀.heap.objs.size<=b)/\b≠X.env.locals/\(∀x c,X.env.cells.lookup x=ba c->c≠b)/\∀p∈X.pn++aa,p.1≠b)(keep:∀b o,b≠X.env.locals->b∉X.fs->b∉ch->s.heap.get? b=ba o->H b=bb->h'.get? b=ba o)(slot:∀b o,b≠X.env.locals->b∈X.fs->b∉ch->s.heap.get? b=ba o->H b=bb->∃G,h'.get? b=ba {o with slots:=G})(f:∀b o,b∉ch->s.heap.get? b=ba o->H b=bb->H' b=bb)(there:∀b o,b∉ch->s.heap.get? b=ba o->∃o',h'.get? b=ba o')(tups:∀b xs,H b=ba (.tup xs)->H' b=ba (.tup xs))(D:∀b o u,H b=ba (.frz o u)->H' b=ba (.frz o u))(B:∀b ps,H b=ba (.tbl ps)->∃more,H' b=ba (.tbl (ps++more)))(ns:∀m,s.heap.Ns X.env.locals m->h'.Ns X.env.locals m)(J:SW X.prog X.w H' h')(Q:Mg g'):cF X aa σ H' {s with heap:=h',gens:=g',drawn:=d',toks:=t'}:=by
 have C:∀b o,X.s₀.heap.get? b=ba o->b≠X.env.locals:=λb o e=>Bb (Az (An e) I.ok.above);have j:∀b o,X.s₀.heap.get? b=ba o->b∉X.ex->b∉ch:=λb o e a y=>by
  rcases(h b y).1 with z|z
  ·exact a z
  ·exact absurd (Az (An e) z) (Cq _)
 have O:∀x c,X.env.cells.lookup x=ba c->∀v,s.heap.IsCell c v->h'.IsCell c v:=λx c e v q0=>by
  obtain⟨o,A,K⟩:=q0;have g:c∉ch:=λz=>(h c z).2.2.1 x c e rfl;by_cases hc:c∈X.fs
  ·obtain⟨G,q⟩:=slot c o (I.cne x c e) hc g A (I.freeC x c e)
   exact⟨_,q,K⟩
  ·exact⟨o,keep c o (I.cne x c e) hc g A (I.freeC x c e),K⟩
 refine⟨I.ok,I.os,Q,⟨λb o e n y a=>?_,λb o e n y a=>?_,λb o e n a=>?_,λb o e a=>?_,λb xs e=>tups b xs (I.base.tups b xs e),λb o xs e=>D b o xs (I.base.frzs b o xs e),λb ps e=>?_⟩,?_,λx c e=>?_,?_,λx c e=>?_,λp N=>?_,J,I.len⟩
 ·exact keep b o (C b o e) y (j b o e a) (I.base.keep b o e n y a) (I.base.free b o e n a)
 ·obtain⟨G,t⟩:=I.base.slot b o e n y a
  obtain⟨F,E⟩:=slot b _ (C b o e) y (j b o e a) t (I.base.free b o e n a);exact⟨F,E⟩
 ·obtain⟨o',t⟩:=I.base.there b o e a
  exact f b o' (j b o e a) t (I.base.free b o e n a)
 ·obtain⟨o',t⟩:=I.base.there b o e a
  exact there b o' (j b o e a) t
 ·obtain⟨m1,t⟩:=I.base.tbls b ps e
  obtain⟨m2,E⟩:=B b _ t;exact⟨m1++m2,by rw[E,Array.append_assoc]⟩
 ·obtain⟨m,P,hl⟩:=I.loc
  refine⟨m,ns m P,λi x v t E R=>?_⟩;obtain⟨u,r,l⟩:=hl i x v t E R;refine⟨u,r,?_⟩;rcases l with l|⟨k,c,e,z⟩
  ·exact .inl l
  ·exact .inr ⟨k,c,e,O x c e _ z⟩
 ·obtain⟨v,z⟩:=I.cell x c e
  exact⟨v,O x c e v z⟩
 ·obtain⟨m,⟨o,_,_,A,_⟩,_⟩:=I.loc
  exact f _ o (λz=>(h _ z).2.1 rfl) A I.free
 ·obtain⟨v,o,A,K⟩:=I.cell x c e
  exact f c o (λz=>(h c z).2.2.1 x c e rfl) A (I.freeC x c e)
 ·obtain⟨e,n,M,L,d⟩:=I.pin p N
  have g:p.1∉ch:=λz=>(h p.1 z).2.2.2 p N rfl;exact⟨keep p.1 p.2 M L g e n,f p.1 p.2 g e n,M,L,d⟩
def cF.un{t':Nat}(I:cF X aa σ H s)(u:Un X.fs [] H H' s.heap h')(c:SW X.prog X.w H' h'):cF X aa σ H' {s with heap:=h',toks:=t'}:=by
 obtain⟨m,⟨o,es,ep,h,r⟩,_⟩:=id I.loc;obtain⟨k,j⟩:=u.any h I.free (by simp);exact I.step (g':=s.gens) (d':=s.drawn) (ch:=[]) (λ_ z=>nomatch z) (λb o _ d _ e n=>u.keep b o e n d (by simp)) (λb o _ d _ e n=>u.slot b o e n d (by simp)) (λb o _ e n=>u.free b o e n (by simp)) (λb o _ e=>u.there b o e (by simp)) u.tups u.frzs u.tbls (λl i=>by obtain⟨o',f,g,a,r'⟩:=i;rw[h]at a;cases a;exact⟨_,f,g,j,r'⟩) c I.bare
def cF.call{g':Array GenState}{t':Nat}{d':Drawn}{ch:List Ux}(I:cF X aa σ H s)(u:Un (SH X.stack) ch H H' s.heap h')(f:SW X.prog X.w H' h')(l:Mg g')(d:∀b∈ch,(b∈X.ex∨X.s₀.heap.objs.size<=b)/\b≠X.env.locals/\(∀x c,X.env.cells.lookup x=ba c->c≠b)/\∀p∈X.pn++aa,p.1≠b):cF X aa σ H' {s with heap:=h',gens:=g',drawn:=d',toks:=t'}:=by
 obtain⟨m,⟨o,es,ep,j,r⟩,_⟩:=id I.loc;obtain⟨t,g⟩:=u.any j I.free λz=>(d _ z).2.1 rfl;exact I.step (ch:=ch) d (λb o g q hc e n=>u.keep b o e n (λz=>(Ak.mp (I.stkSub b z)).elim g q) hc) (λb o _ _ hc e n=>u.any e n hc) (λb o hc e n=>u.free b o e n hc) (λb o hc e=>u.there b o e hc) u.tups u.frzs u.tbls (λv k=>by obtain⟨o',h,i,a,r'⟩:=k;rw[j]at a;cases a;exact⟨_,h,i,g,r'⟩) f l
def cF.turned{t':Nat}{it:Ux}(I:cF X aa σ H s)(k:∀b o,b≠it->s.heap.get? b=ba o->h'.get? b=ba o)(g:H it=bb)(d:it≠X.env.locals)(h1:it∈X.ex∨X.s₀.heap.objs.size<=it)(h2:∀x c,X.env.cells.lookup x=ba c->c≠it)(j:∀p∈X.pn++aa,p.1≠it):cF X aa σ H {s with heap:=h',toks:=t'}:=by
 have a:∀b u,H b=ba u->b≠it:=λb u e z=>by rw[z,g]at e;cases e
 refine I.step (g':=s.gens) (d':=s.drawn) (ch:=[it]) (λb i=>?_) (λb o _ _ hc e _=>k b o (λz=>hc (by simp[z])) e) (λb o _ _ hc e _=>⟨o.slots,k b o (λz=>hc (by simp[z])) e⟩) (λ_ _ _ _ n=>n)
  (λb o hc e=>⟨o,k b o (λz=>hc (by simp[z])) e⟩) (λ_ _ e=>e) (λ_ _ _ e=>e) (λb ps e=>⟨#[],by rw[e];simp⟩) (λm h=>?_) (λb u e=>?_) I.bare
 ·have e : b = it := by simpa using i
  subst e;exact⟨h1,d,h2,j⟩
 ·obtain⟨o,es,ep,f,r⟩:=h
  exact⟨o,es,ep,k _ o (Ea d) f,r⟩
 ·refine (I.hok b u e).stay (λc v hc q => k c v ?_ q) (λ_ q => q) λ_ _ _ q => q
  rcases hc with z|z
  ·rw[z];exact a b u e
  ·exact a c _ z
def cF.tok(I:cF X aa σ H s)(t:Nat):cF X aa σ H {s with toks:=t}:=I.un (h':=s.heap) (t':=t) Un.refl I.hok
def cF.kept{t':Nat}(I:cF X aa σ H s)(k:∀b u,s.heap.get? b=ba u->h'.get? b=ba u):cF X aa σ H {s with heap:=h',toks:=t'}:=I.un (Un.kept k) (I.hok.kept k)
def cF.laid{a:Ux}{o:HO}{t':Nat}(I:cF X aa σ H s)(k:∀b u,s.heap.get? b=ba u->h'.get? b=ba u)(c:s.heap.objs.size<=a)(new:Z7 X.prog X.w (upd H a o) h' a o):cF X aa σ (upd H a o) {s with heap:=h',toks:=t'}:=I.un (Un.laid k c (I.hok.fresh c)) (I.hok.laid k c new)
def cF.write{x e:Ux}{o:HO}{t':Nat}(I:cF X aa σ H s)(c:Mut (H x))(d:e=x∨H e=ba (.own x))(k:∀b u,b≠e->s.heap.get? b=ba u->h'.get? b=ba u)(a:∃u,h'.get? e=ba u)(new:Z7 X.prog X.w (upd H x o) h' x o):cF X aa σ (upd H x o) {s with heap:=h',toks:=t'}:=I.un (Un.write c d k a) (I.hok.write c d k a new)
def cF.weak{a:List (Option V)}(I:cF X aa σ H s)(hl:a.length=σ.length)(w:∀(i:Nat) v,a[i]?=ba (ba v)->σ[i]?=ba (ba v)):cF X aa a H s:=
 ⟨I.ok,I.os,I.bare,I.base,let ⟨m,c,b⟩:=I.loc;⟨m,c,λi x v f e d=>b i x v f (w i v e) d⟩,I.cell,I.free,I.freeC,I.pin,I.hok,hl.trans I.len⟩
def cF.pins_of{a:List (Ux×Vi)}(I:cF X aa σ H s)(h:∀p∈a,s.heap.get? p.1=ba p.2/\H p.1=bb/\p.1≠X.env.locals/\p.1∉X.fs/\∀v,p.2.data≠ .cell v):cF X a σ H s:=
 ⟨I.ok,I.os,I.bare,I.base,I.loc,I.cell,I.free,I.freeC,λp b=>(Dh.mp b).elim (λz=>I.pin p (Bt _ z)) (h p),I.hok,I.len⟩
def FD{N:List Va}(c:N.Nodup){i j:Nat}{x:Va}(a:N[i]?=ba x)(b:N[j]?=ba x):i=j:=by obtain⟨h1,e⟩:=Ai.mp a;obtain⟨h2,d⟩:=Ai.mp b;exact(Ra c).mp (e.trans d.symm)
def K4{M:Vq}{A:Bw}{E:Uw->Ae->Prop}{i:Nat}{x:Va}{v:V}{u:Uw}{Q:Unit->Ae->Prop}(I:cF X aa σ H s)(hN:X.N.Nodup)(hi:X.N[i]?=ba x)(l:Loc X.env.scope x)(r:bE v u)(h:∀s',cF X aa (σ.set i (ba v)) H s'->(∃a,Fn a s.heap s'.heap/\(a=X.env.locals∨X.env.cells.lookup x=ba a))->Q () s')(hf:X.fn x=bc∨X.env.scope.names.lookup x=ba .local:=by first|exact .inl rfl|exact .inr rfl|assumption):Uy M A (storeName X.env x u) Q E s:=by
 obtain⟨m,hn,hl⟩:=id I.loc;have jd:(X.env.scope.kind== .class || (X.env.scope.kind== .module&&X.env.locals !=X.env.globals))=bd:=by rw[I.ok.kind];rfl
 have C:i<σ.length:=by rw[I.len];exact(Ai.mp hi).1
 have cne:=I.cne;have d8:∀{a:Ux}{h':Vg},(∃o,s.heap.get? a=ba o/\H a=bb)->Fn a s.heap h'->SW X.prog X.w H h':=λ{a h'} ha f b ob e=>by
  obtain⟨_,_,bz⟩:=ha;refine(I.hok b ob e).stay (λc O hc q=>(f.2 c ?_).trans q) (λ_ q=>q) λ_ _ _ q=>q;rintro rfl;rcases hc with rfl|hc
  ·rw[bz]at e;cases e
  ·rw[bz]at hc;cases hc
 rcases l with B|B
 ·refine wpAny_storeName_local B hn (λh' hn' f => ?_) jd
  obtain⟨oL,_,_,Z,_⟩:=id hn;refine h _ ⟨I.ok,I.os,I.bare,⟨λb o e n G l=>?_,λb o e n G l=>?_,I.base.free,λb o e l=>?_,I.base.tups,I.base.frzs,I.base.tbls⟩,⟨_,hn',λj y S g t e3=>?_⟩,λy c e=>?_,I.free,I.freeC,λp Y=>?_,d8 ⟨oL,Z,I.free⟩ f,by simpa using I.len⟩ ⟨_,f,.inl rfl⟩
  ·exact(f.2 b (Bb (Az (An e) I.ok.above))).trans (I.base.keep b o e n G l)
  ·obtain⟨U,g⟩:=I.base.slot b o e n G l
   exact⟨U,(f.2 b (Bb (Az (An e) I.ok.above))).trans g⟩
  ·obtain⟨o',g⟩:=I.base.there b o e l
   exact⟨o',(f.2 b (Bb (Az (An e) I.ok.above))).trans g⟩
  ·by_cases D:j=i
   ·subst D
    rw[hi]at g;cases g;rw[Dq C]at t;cases t;exact⟨u,r,.inl ⟨B,by simp⟩⟩
   ·rw[Bz (Ea D)]at t
    obtain⟨T,r',q⟩:=hl j y S g t e3;refine⟨T,r',?_⟩;rcases q with⟨k,e⟩|⟨k,c,e,z⟩
    ·refine .inl ⟨k,?_⟩
     have:y≠x:=λe=>D (FD hN g (e▸hi))
     simp[this,e]
    ·exact .inr ⟨k,c,e,z.sameBut f (cne y c e)⟩
  ·obtain⟨O,z⟩:=I.cell y c e
   exact⟨O,z.sameBut f (cne y c e)⟩
  ·obtain⟨e,n,P,W,d⟩:=I.pin p Y
   exact⟨(f.2 p.1 P).trans e,n,P,W,d⟩
 ·have F:X.fn x=bc:=by
   rcases hf with z|z
   ·exact z
   ·rw[z]at B;cases B
  obtain⟨c,hc⟩:=I.ok.has x (.inl B);obtain⟨O,z⟩:=I.cell x c hc;refine wpAny_storeName_cell I.ok.kind B hc z (λh' L f=>?_);obtain⟨oc,J,iw⟩:=id z;refine h {s with heap:=h'} ⟨I.ok,I.os,I.bare,⟨λb o e n G l=>?_,λb o e n G l=>?_,I.base.free,λb o e l=>?_,I.base.tups,I.base.frzs,I.base.tbls⟩,⟨m,hn.sameBut f (Ea (cne x c hc)),λj y S g t e3=>?_⟩,λy R e=>?_,I.free,I.freeC,λp Y=>?_,d8 ⟨oc,J,I.freeC x c hc⟩ f,by simpa using I.len⟩ ⟨c,f,.inr hc⟩
  ·exact(f.2 b (Bb (Az (An e) (I.ok.cab x c F hc)))).trans (I.base.keep b o e n G l)
  ·obtain⟨U,g⟩:=I.base.slot b o e n G l
   exact⟨U,(f.2 b (Bb (Az (An e) (I.ok.cab x c F hc)))).trans g⟩
  ·obtain⟨o',g⟩:=I.base.there b o e l
   exact⟨o',(f.2 b (Bb (Az (An e) (I.ok.cab x c F hc)))).trans g⟩
  ·by_cases D:j=i
   ·subst D
    rw[hi]at g;cases g;rw[Dq C]at t;cases t;exact⟨u,r,.inr ⟨.inl B,c,hc,L⟩⟩
   ·rw[Bz (Ea D)]at t
    obtain⟨T,r',q⟩:=hl j y S g t e3;refine⟨T,r',?_⟩;rcases q with q|⟨k,R,e,z'⟩
    ·exact .inl q
    ·refine .inr ⟨k,R,e,z'.sameBut f ?_⟩
     rintro rfl;exact D (FD hN g (I.ok.inj _ _ _ e hc▸hi))
  ·by_cases K:R=c
   ·subst K;exact⟨_,L⟩
   ·obtain⟨w2,z2⟩:=I.cell y R e
    exact⟨w2,z2.sameBut f K⟩
  ·obtain⟨e,n,P,W,d⟩:=I.pin p Y
   refine⟨(f.2 p.1 ?_).trans e,n,P,W,d⟩;intro q;rw[q,J]at e;have q':oc=p.2:=Cv e;exact d O (by rw[<-q'];exact iw)
def YU{M:Vq}{A:Bw}{E:Uw->Ae->Prop}{i:Nat}{x:Va}{v:V}{u:Uw}{Q:Unit->Ae->Prop}(I:cF X aa σ H s)(c:X.N.Nodup)(hi:X.N[i]?=ba x)(a:Loc X.env.scope x)(r:bE v u)(h:∀s',cF X aa (σ.set i (ba v)) H s'->Q () s')(b:X.fn x=bc∨X.env.scope.names.lookup x=ba .local:=by first|exact .inl rfl|exact .inr rfl|assumption):Uy M A (storeName X.env x u) Q E s:=
 K4 I c hi a r (λs' d _=>h s' d) b
def cF.call'{s':Ae}{ch:List Ux}(I:cF X aa σ H s)(f:s'.os=s.os)(u:Un (SH X.stack) ch H H' s.heap s'.heap)(a:SW X.prog X.w H' s'.heap)(g:Mg s'.gens)(d:∀b∈ch,(b∈X.ex∨X.s₀.heap.objs.size<=b)/\b≠X.env.locals/\(∀x c,X.env.cells.lookup x=ba c->c≠b)/\∀p∈X.pn++aa,p.1≠b):cF X aa σ H' s':=by obtain⟨h',g',d',t',o'⟩:=s';have e:o'=s.os:=f;subst e;exact I.call (g':=g') (t':=t') (d':=d') u a g d
end
abbrev XK:=Uw->Option Ux->Hp->Prop
abbrev St:=List (Option V)
abbrev VK:=V->Hp->Prop
abbrev TE:=St->Hp->VK->Prop
abbrev TT:=St->Hp->(Bool->Hp->Prop)->Prop
abbrev TA:=St->Hp->(List V->Hp->Prop)->Prop
structure NX where
 nx:St->Hp->Prop
 rt:VK
 bk:St->Hp->Prop:=λ_ _=>False
 ct:St->Hp->Prop:=λ_ _=>False
abbrev TS:=NX->St->Hp->Prop
inductive EPi(X:Cx)(aa:List (Ux×Vi))(σ:St)(Q:VK)(u:Uw)(s':Ae):Prop
 |mk (v:_) (H':_) (h0:cF X aa σ H' s') (h1:bE v u) (h2:Q v H'):EPi X aa σ Q u s'
def EP(X:Cx)(aa:List (Ux×Vi))(σ:St)(Q:VK)(u:Uw)(s':Ae):Prop:=EPi X aa σ Q u s'
def TP(X:Cx)(aa:List (Ux×Vi))(σ:St)(Q:Bool->Hp->Prop)(b:Bool)(s':Ae):Prop:=∃H',cF X aa σ H' s'/\Q b H'
inductive APi(X:Cx)(aa:List (Ux×Vi))(σ:St)(Q:List V->Hp->Prop)(us:List Uw)(s':Ae):Prop
 |mk (vs:_) (H':_) (h0:cF X aa σ H' s') (h1:bL vs us) (h2:Q vs H'):APi X aa σ Q us s'
def AP(X:Cx)(aa:List (Ux×Vi))(σ:St)(Q:List V->Hp->Prop)(a:List Uw)(s':Ae):Prop:=APi X aa σ Q a s'
def SP(X:Cx)(aa:List (Ux×Vi))(D:NX)(f:Flow)(s':Ae):Prop:=
 match f with
 |.next=>∃a H',cF X aa a H' s'/\D.nx a H'
 |.brk=>∃a H',cF X aa a H' s'/\D.bk a H'
 |.cont=>∃a H',cF X aa a H' s'/\D.ct a H'
 |.ret u=>∃v a H',cF X aa a H' s'/\bE v u/\D.rt v H'
def PE(X:Cx)(e:Vc)(t:TE):Prop:=
 ∀(aa:List (Ux×Vi)) (s:Ae) (σ:St) (H:Hp) (Q:VK),cF X aa σ H s->t σ H Q->Uy (Vb X.prog X.w) X.A (eval e X.env) (EP X aa σ Q) X.xe s
def PT(X:Cx)(e:Vc)(t:TT):Prop:=
 ∀(aa:List (Ux×Vi)) (s:Ae) (σ:St) (H:Hp) (Q:Bool->Hp->Prop),cF X aa σ H s->t σ H Q->Uy (Vb X.prog X.w) X.A (isTrue e X.env (eval e X.env)) (TP X aa σ Q) X.xe s
def PW(X:Cx)(e:Vc)(t:TT):Prop:=
 ∀(a:Vo Uw) (aa:List (Ux×Vi)) (s:Ae) (σ:St) (H:Hp) (Q:Bool->Hp->Prop),cF X aa σ H s->t σ H Q->Uy (Vb X.prog X.w) X.A (isTrue e X.env a) (TP X aa σ Q) X.xe s
def PW.pt{X:Cx}{e:Vc}{t:TT}(h:PW X e t):PT X e t:=h _
def PA(X:Cx)(es:List Vc)(t:TA):Prop:=
 ∀(pos:Pos) (aa:List (Ux×Vi)) (s:Ae) (σ:St) (H:Hp) (Q:List V->Hp->Prop),cF X aa σ H s->t σ H Q->Uy (Vb X.prog X.w) X.A (spliced (Em pos (Uz es X.env))) (AP X aa σ Q) X.xe s
def PS(X:Cx)(st:Vj)(t:TS):Prop:=
 ∀(aa:List (Ux×Vi)) (s:Ae) (σ:St) (H:Hp) (D:NX),cF X aa σ H s->t D σ H->Uy (Vb X.prog X.w) X.A (exec st X.env) (SP X aa D) X.xe s
def W7(X:Cx)(st:List Vj)(t:TS):Prop:=
 ∀(aa:List (Ux×Vi)) (s:Ae) (σ:St) (H:Hp) (D:NX),cF X aa σ H s->t D σ H->Uy (Vb X.prog X.w) X.A (execs st X.env) (SP X aa D) X.xe s
def ZH{α:Type}{t:Vo α}{Q b:α->Ae->Prop}{M:Vq}{A:Bw}{E:Uw->Ae->Prop}{s:Ae}(h:Uy M A t Q E s)(c:∀a s,Q a s->b a s):Uy M A t b E s:=Bj h c λ_ _ x=>x
section
variable{X:Cx}
def LV(i:Nat):TE:=λσ H Q=>∃v,σ[i]?=ba (ba v)/\Q v H
def tC(v:V):TE:=λ_ H Q=>Q v H
def DI{i:Nat}{x:Va}{pos:Pos}(o:X.N[i]?=ba x)(j:Vis X.env.scope x)(d:(x==("__debug__":Va))=bd:=by decide)(f:(x==("__classdict__":Va))=bd:=by decide):PE X (.Name x pos) (LV i):=by
 intro aa s σ H Q I h;obtain⟨v,e,h⟩:=h;obtain⟨m,k,hl⟩:=I.loc;obtain⟨u,r,l⟩:=hl i x v o e j;have b:EP X aa σ Q u s:=⟨v,H,I,r,h⟩;rcases l with⟨a,n⟩|⟨a,c,hc,g⟩
 ·exact Tg (wpAny_loadName_local I.ok.kind a k n b) d
 ·rcases a with a|a
  ·exact Tg (wpAny_loadName_cell I.ok.kind a hc g b) d
  ·exact Tg (wpAny_loadName_free I.ok.kind a hc g b f) d
def pL{i j pos}:PE X (.Constant (.int i) j pos) (tC (.int i)):=λ_ _ _ H _ I h=>wpAny_Constant_int ⟨.int i,H,I.tok _,⟨_,rfl⟩,h⟩
def lp{b j pos}:PE X (.Constant (.bool b) j pos) (tC (.bl b)):=λ_ _ _ H _ I h=>Constant_bool ⟨.bl b,H,I,rfl,h⟩
def nX{j pos}:PE X (.Constant .none j pos) (tC .non):=λ_ _ _ H _ I h=>Constant_none ⟨.non,H,I,rfl,h⟩
def Xs{x j pos}:PE X (.Constant (.str x) j pos) (tC (.str x)):=λ_ _ _ H _ I h=>Calls.Constant_str ⟨.str x,H,I.tok _,⟨_,rfl⟩,h⟩
def Gl(X:Cx)(x:Va):Prop:=X.env.kindOf x=ba .globalImplicit
def WG{E:Uw->Ae->Prop}{aa:List (Ux×Vi)}{s:Ae}{σ:St}{H:Hp}{x:Va}{u:Uw}{pos:Pos}{Q:Uw->Ae->Prop}(I:cF X aa σ H s)(b:Gl X x)(a:X.mg x=ba u)(h:Q u s)(c:(x==("__debug__":Va))=bd:=by decide):Uy (Vb X.prog X.w) X.A (eval (.Name x pos) X.env) Q E s:=
 Le I.ok.kind b (Calls.loadGlobal_global (by rw[I.ok.glob];exact I.mod.glob.keeps I.bk) a h) c
def WR{E:Uw->Ae->Prop}{aa:List (Ux×Vi)}{s:Ae}{σ:St}{H:Hp}{x:Va}{u:Uw}{pos:Pos}{Q:Uw->Ae->Prop}(I:cF X aa σ H s)(d:Gl X x)(c:X.mg x=bb)(a:Bi x=ba u)(h:Q u s)(b:x≠ "__name__":=by decide)(e:(x==("__debug__":Va))=bd:=by decide):Uy (Vb X.prog X.w) X.A (eval (.Name x pos) X.env) Q E s:=by obtain⟨f,h1,h2⟩:=I.mod.blt;exact Le I.ok.kind d (Calls.loadGlobal_builtin (by rw[I.ok.glob];exact I.mod.glob.keeps I.bk) c (by rw[I.ok.blt];exact h1.keeps I.bk) ((h2 x b).trans a) h) e
def mU{x:Va}{v:V}{u:Uw}{pos:Pos}(b:Gl X x)(a:X.mg x=ba u)(r:bE v u)(c:(x==("__debug__":Va))=bd:=by decide):PE X (.Name x pos) (tC v):=
 λ_ _ _ H _ I h=>WG I b a ⟨v,H,I,r,h⟩ c
def dN{x:Va}{v:V}{u:Uw}{pos:Pos}(d:Gl X x)(c:X.mg x=bb)(a:Bi x=ba u)(r:bE v u)(b:x≠ "__name__":=by decide)(e:(x==("__debug__":Va))=bd:=by decide):PE X (.Name x pos) (tC v):=
 λ_ _ _ H _ I h=>WR I d c a ⟨v,H,I,r,h⟩ b e
variable{a b:Vc}{ta tb:TE}{pos:Pos}
def tB(t:TE):TT:=λσ H Q=>t σ H λx H1=>∃c,x=.bl c/\Q c H1
def mQ{e:Vc}{t:TE}(h:PE X e t)(c:∀a,isTrue e X.env a=(do let v<-a;Oj e.pos;Px [v] (truthy v)):=by intro _;rfl):PT X e (tB t):=by intro aa s σ H Q I hw;refine isTrue_plain (ZH (h aa s σ H _ I hw) λv s1 ⟨x,H1,f,b,q1⟩=>?_) (c _);obtain⟨d,rfl,q⟩:=q1;cases b;exact Ej ⟨H1,f,q⟩
variable{tA tB':TT}{rest:List Vc}
def tAnd(t u:TT):TT:=λσ H Q=>t σ H λc H1=>if c=bc then u σ H1 Q else Q bd H1
def tOr(t u:TT):TT:=λσ H Q=>t σ H λc H1=>if c=bc then Q bc H1 else u σ H1 Q
def tNot(t:TT):TT:=λσ H Q=>t σ H λc H1=>Q (!c) H1
def fY(b:PT X a tA):PW X (.BoolOp .And [a] pos) tA:=by
 intro d aa s σ H Q I h;refine isTrue_and (ZH (b aa s σ H Q I h) λc s1 e=>?_);cases c with
 |true=>exact isTrue_and_nil e
 |false=>exact e
def kH(b:PT X a tA):PW X (.BoolOp .Or [a] pos) tA:=by
 intro d aa s σ H Q I h;refine isTrue_or (ZH (b aa s σ H Q I h) λc s1 e=>?_);cases c with
 |false=>exact isTrue_or_nil e
 |true=>exact e
def nu(g:PT X a tA)(f:PW X (.BoolOp .And (b::rest) pos) tB'):PW X (.BoolOp .And (a::b::rest) pos) (tAnd tA tB'):=by
 intro e aa s σ H Q I h;refine isTrue_and (ZH (g aa s σ H _ I h) λc s1 ⟨H1,d,q1⟩=>?_);cases c with
 |true=>exact f e aa s1 σ H1 Q d q1
 |false=>exact⟨H1,d,q1⟩
def lG(g:PT X a tA)(f:PW X (.BoolOp .Or (b::rest) pos) tB'):PW X (.BoolOp .Or (a::b::rest) pos) (tOr tA tB'):=by
 intro e aa s σ H Q I h;refine isTrue_or (ZH (g aa s σ H _ I h) λc s1 ⟨H1,d,q1⟩=>?_);cases c with
 |true=>exact⟨H1,d,q1⟩
 |false=>exact f e aa s1 σ H1 Q d q1
def lb(b:PT X a tA):PT X (.UnaryOp .Not a pos) (tNot tA):=by intro aa s σ H Q I h;exact isTrue_not (b aa s σ H (λc H1=>Q (!c) H1) I h)
def pO(ta tb:TE):TE:=λσ H Q=>ta σ H λx H1=>∃c,x=.bl c/\if c=bc then tb σ H1 Q else Q (.bl bd) H1
def tOrV(ta tb:TE):TE:=λσ H Q=>ta σ H λx H1=>∃c,x=.bl c/\if c=bc then Q (.bl bc) H1 else tb σ H1 Q
def mM{op}{t:TE}(h:PE X a t):PE X (.BoolOp op [a] pos) t:=λaa s σ H Q I hw=>BoolOp_one (h aa s σ H Q I hw)
def jI(g:PE X a ta)(f:PE X (.BoolOp .And (b::rest) pos) tb):PE X (.BoolOp .And (a::b::rest) pos) (pO ta tb):=by
 intro aa s σ H Q I h;refine BoolOp_and (ZH (g aa s σ H _ I h) λv s1 ⟨x,H1,d,e,q1⟩=>?_);obtain⟨c,rfl,q1⟩:=q1;cases e;refine Ej ?_;cases c with
 |true=>exact f aa s1 σ H1 Q d q1
 |false=>exact⟨.bl bd,H1,d,rfl,q1⟩
def p9(g:PE X a ta)(f:PE X (.BoolOp .Or (b::rest) pos) tb):PE X (.BoolOp .Or (a::b::rest) pos) (tOrV ta tb):=by
 intro aa s σ H Q I h;refine BoolOp_or (ZH (g aa s σ H _ I h) λv s1 ⟨x,H1,d,e,q1⟩=>?_);obtain⟨c,rfl,q1⟩:=q1;cases e;refine Ej ?_;cases c with
 |false=>exact f aa s1 σ H1 Q d q1
 |true=>exact⟨.bl bc,H1,d,rfl,q1⟩
def tIf(t:TT)(ta tb:TE):TE:=λσ H Q=>t σ H λc H1=>if c=bc then ta σ H1 Q else tb σ H1 Q
def FK{c:Vc}(hc:PT X c tA)(g:PE X a ta)(f:PE X b tb):PE X (.IfExp c a b pos) (tIf tA ta tb):=by
 intro aa s σ H Q I h;refine wpAny_IfExp (ZH (hc aa s σ H _ I h) λd s1 ⟨H1,e,q1⟩=>?_);cases d with
 |true=>exact g aa s1 σ H1 Q e q1
 |false=>exact f aa s1 σ H1 Q e q1
end
def X8(K:Ah)(H:Hp)(a:Ux)(xs:List V):Prop:=
 Rd H a (.lst xs)∨
  ∃(o:Vi) (b:Array Uw) (n:Nat),K.lookup a=ba o/\o.cls=.type "list" /\o.dict=bb/\o.data=.seq b n/\b.size<=sizeLine/\bL xs b.toList
def WN(K:Ah)(H:Hp)(a:Ux)(xs:List V):Prop:=
 Rd H a (.tup xs)∨
  ∃(o:Vi) (b:Array Uw) (n:Nat),K.lookup a=ba o/\o.cls=.type "tuple" /\o.data=.seq b n/\b.size<=sizeLine/\bL xs b.toList
noncomputable def absV:Uw->Option V
 |.none=>ba .non
 |.bool b=>ba (.bl b)
 |.int i _=>ba (.int i)
 |.str x _=>ba (.str x)
 |.bytes b _=>ba (.byt b)
 |.float b _=>ba (.flt b)
 |.ref a=>ba (.ref a)
 |.type n=>ba (.ty n)
 |_=>bb
def bE.abs{x:V}{u:Uw}(r:bE x u):absV u=ba x:=by
 cases x with
 |non=>cases r;rfl
 |bl _=>cases r;rfl
 |int _=>obtain⟨t,rfl⟩:=r;rfl
 |str _=>obtain⟨t,rfl⟩:=r;rfl
 |byt _=>obtain⟨t,rfl⟩:=r;rfl
 |flt _=>obtain⟨t,rfl⟩:=r;rfl
 |ref _=>cases r;rfl
 |ty _=>cases r;rfl
def bE.inj{x y:V}{u:Uw}(r:bE x u)(q:bE y u):x=y:=Cv (r.abs.symm.trans q.abs)
theorem bL.inj:∀{xs ys:List V}{a:List Uw},bL xs a->bL ys a->xs=ys
 |_,_,_,.nil,.nil=>rfl
 |_,_,_,.cons r t,.cons r' t'=>by rw[r.inj r',bL.inj t t']
section
variable{X:Cx}{aa:List (Ux×Vi)}{σ:St}{H:Hp}{s:Ae}{a:Ux}{xs ys:List V}
def X8.of{K:Ah}(h:H a=ba (.lst xs)):X8 K H a xs:=.inl (.inl h)
def WN.of{K:Ah}(h:H a=ba (.tup xs)):WN K H a xs:=.inl (.inl h)
def cF.list(I:cF X aa σ H s)(h:X8 X.K H a xs):∃b:List Uw,bL xs b/\PlainL s.heap a b.toArray/\xs.length<=sizeLine:=by
 rcases h with h|⟨o,b,n,d,hc,f,c,hz,r⟩
 ·obtain⟨z,b,n,r,e⟩:=h.ok I.hok
  exact⟨b,r,⟨_,n,e,rfl,rfl,rfl⟩,z⟩
 ·refine ⟨b.toList,r,⟨o,n,I.kIn a o d,hc,f,by simpa using c⟩,?_⟩
  have e:=r.length;simp only[Gu]at e;lia
def cF.tuple(I:cF X aa σ H s)(h:WN X.K H a xs):∃b:List Uw,bL xs b/\IsTup s.heap a b.toArray/\xs.length<=sizeLine:=by
 rcases h with h|⟨o,b,n,d,hc,c,hz,r⟩
 ·obtain⟨z,b,r,p⟩:=h.ok I.hok
  exact⟨b,r,p,z⟩
 ·refine ⟨b.toList,r,⟨o,I.kIn a o d,hc,n,by simpa using c⟩,?_⟩
  have e:=r.length;simp only[Gu]at e;lia
def cF.list_inj(I:cF X aa σ H s)(h:X8 X.K H a xs)(h':X8 X.K H a ys):xs=ys:=by
 obtain⟨b,r,⟨o,n,e,_,_,d⟩,_⟩:=I.list h;obtain⟨its',r',⟨o',g,c,_,_,d'⟩,_⟩:=I.list h';rw[e]at c;cases c;rw[d]at d';injection d' with f _;have:b=its':=by simpa using congrArg Uh f
 subst this;exact r.inj r'
def cF.tuple_inj(I:cF X aa σ H s)(h:WN X.K H a xs)(h':WN X.K H a ys):xs=ys:=by
 obtain⟨b,r,⟨o,e,_,n,d⟩,_⟩:=I.tuple h;obtain⟨its',r',⟨o',c,_,g,d'⟩,_⟩:=I.tuple h';rw[e]at c;cases c;rw[d]at d';injection d' with f _;have:b=its':=by simpa using congrArg Uh f
 subst this;exact r.inj r'
end
abbrev Cx.wish(X:Cx)(E:Uw->Ae->Prop):Cx:={X with xe:=E}
abbrev Cx.nox(X:Cx):Cx:=X.wish λ_ _=>False
def Cx.Ok.wish{X:Cx}(ok:X.Ok)(E:Uw->Ae->Prop):(X.wish E).Ok:=
 ⟨ok.mod,ok.kind,ok.glob,ok.blt,ok.above,ok.inj,ok.has,ok.cab,ok.hd,ok.frames,ok.stk,ok.exf,ok.bs,ok.bsz,ok.noex,ok.exfs,ok.funs,ok.frf⟩
def Cx.Ok.unwish{X:Cx}{E:Uw->Ae->Prop}(ok:(X.wish E).Ok):X.Ok:=
 ⟨ok.mod,ok.kind,ok.glob,ok.blt,ok.above,ok.inj,ok.has,ok.cab,ok.hd,ok.frames,ok.stk,ok.exf,ok.bs,ok.bsz,ok.noex,ok.exfs,ok.funs,ok.frf⟩
section
variable{X:Cx}{aa:List (Ux×Vi)}{σ:St}{H:Hp}{s:Ae}{E:Uw->Ae->Prop}
def cF.wish(I:cF X aa σ H s)(E:Uw->Ae->Prop):cF (X.wish E) aa σ H s:=⟨I.ok.wish E,I.os,I.bare,I.base,I.loc,I.cell,I.free,I.freeC,I.pin,I.hok,I.len⟩
def cF.unwish(I:cF (X.wish E) aa σ H s):cF X aa σ H s:=⟨I.ok.unwish,I.os,I.bare,I.base,I.loc,I.cell,I.free,I.freeC,I.pin,I.hok,I.len⟩
def SP.unwish{D:NX}{f:Flow}{s':Ae}(h:SP (X.wish E) aa D f s'):SP X aa D f s':=by
 cases f with
 |next=>obtain⟨a,H',I,q⟩:=h;exact⟨a,H',I.unwish,q⟩
 |brk=>obtain⟨a,H',I,q⟩:=h;exact⟨a,H',I.unwish,q⟩
 |cont=>obtain⟨a,H',I,q⟩:=h;exact⟨a,H',I.unwish,q⟩
 |ret u=>obtain⟨v,a,H',I,r,q⟩:=h;exact⟨v,a,H',I.unwish,r,q⟩
def W7.nox{st:List Vj}{t:TS}(h:W7 X.nox st t):W7 X st t:=λaa s σ H D I hw=>
 Bj (h aa s σ H D (I.wish _) hw) (λ_ _ q=>q.unwish) λ_ _ z=>Fv z
end
section
variable{X:Cx}{st:Vj}{rest:List Vj}{t u:TS}{e:Vc}{te:TE}{pos:Pos}
def o8:TS:=λD σ H=>D.nx σ H
def tSeq(t u:TS):TS:=λD σ H=>t {D with nx:=u D} σ H
def HZ:W7 X [] o8:=λ_ _ σ H _ I h=>Km ⟨σ,H,I,h⟩
def UM(h1:PS X st t)(h2:W7 X rest u):W7 X (st::rest) (tSeq t u):=by
 intro aa s σ H D I h;refine wpAny_execs_cons (ZH (h1 aa s σ H {D with nx:=u D} I h) λf s1 q=>?_);cases f with
 |next=>
  obtain⟨a,H',b,q⟩:=q;exact h2 aa s1 a H' D b q
 |ret v=>exact q
 |brk=>exact q
 |cont=>exact q
def cF.quiet{aa:List (Ux×Vi)}{σ:St}{H:Hp}{s:Ae}(I:cF X aa σ H s):interactive X.env=bd:=by simp[interactive,I.ok.kind]
def nr(te:TE):TS:=λD σ H=>te σ H λ_ H1=>D.nx σ H1
def HW(b:PE X e te)(a:Hj e bb pos.line X.env=pure bd:=by rfl):PS X (.Expr e pos) (nr te):=by intro aa s σ H D I h;exact wpAny_Expr_any (ZH (b aa s σ H _ I h) λv s1 ⟨x,H1,c,d,q1⟩=>⟨σ,H1,c,q1⟩) I.quiet a
def tRet(te:TE):TS:=λD σ H=>te σ H D.rt
def HX(b:PE X e te):PS X (.Return (ba e) pos) (tRet te):=by intro aa s σ H D I h;exact wpAny_Return_some (ZH (b aa s σ H _ I h) λv s1 ⟨x,H1,c,a,q1⟩=>⟨x,σ,H1,c,a,q1⟩)
def tIfS(c:TT)(t u:TS):TS:=λD σ H=>c σ H λb H1=>if b=bc then t D σ H1 else u D σ H1
def Xr{c:Vc}{a b:List Vj}{tc:TT}(hc:PT X c tc)(g:W7 X a t)(f:W7 X b u):PS X (.If c a b pos) (tIfS tc t u):=by
 intro aa s σ H D I h;refine wpAny_If (ZH (hc aa s σ H _ I h) λd s1 ⟨H1,e,q1⟩=>?_);cases d with
 |true=>exact g aa s1 σ H1 D e q1
 |false=>exact f aa s1 σ H1 D e q1
def oH:TS:=λ_ _ _=>False
def dO{a:List Vj}:W7 X a oH:=λ_ _ _ _ _ _ h=>h.elim
end
abbrev TG:=V->St->Hp->(St->Hp->Prop)->Prop
abbrev TGs:=List V->St->Hp->(St->Hp->Prop)->Prop
def PG(X:Cx)(b:Vc)(t:TG):Prop:=
 ∀(aa:List (Ux×Vi)) (s:Ae) (σ:St) (H:Hp) (v:V) (u:Uw) (Q:St->Hp->Prop),cF X aa σ H s->bE v u->t v σ H Q->
  Uy (Vb X.prog X.w) X.A (Hs b X.env u) (λ_ s'=>∃a H',cF X aa a H' s'/\Q a H') X.xe s
def AE(X:Cx)(c:List Vc)(t:TGs):Prop:=
 ∀(aa:List (Ux×Vi)) (s:Ae) (σ:St) (H:Hp) (vs:List V) (b:List Uw) (Q:St->Hp->Prop),cF X aa σ H s->bL vs b->t vs σ H Q->
  Uy (Vb X.prog X.w) X.A (Vn ((Vf c X.env).map (·.2)) b) (λ_ s'=>∃a H',cF X aa a H' s'/\Q a H') X.xe s
section
variable{X:Cx}{pos:Pos}
def AN(i:Nat):TG:=λv σ H Q=>Q (σ.set i (ba v)) H
def NU{i:Nat}{x:Va}(c:X.N.Nodup)(hi:X.N[i]?=ba x)(a:Loc X.env.scope x)(b:X.fn x=bc∨X.env.scope.names.lookup x=ba .local:=by first|exact .inl rfl|exact .inr rfl|assumption):PG X (.Name x pos) (AN i):=by intro aa s σ H v u Q I r h;exact Jh (YU I c hi a r (λs' d=>⟨_,H,d,h⟩) b)
def gNil:TGs:=λvs σ H Q=>vs=[]/\Q σ H
def eY(t:TG)(u:TGs):TGs:=λvs σ H Q=>∃v r,vs=v::r/\t v σ H λa H'=>u r a H' Q
def BJ:AE X [] gNil:=by intro aa s σ H vs a Q I r h;obtain⟨e,h⟩:=h;subst e;cases r;exact Ji ⟨σ,H,I,h⟩
def Q2{e:Vc}{es:List Vc}{t:TG}{u:TGs}(h1:PG X e t)(h2:AE X es u)(c:(Vf (e::es) X.env).map (·.2)=Hs e X.env::(Vf es X.env).map (·.2):=by rfl):AE X (e::es) (eY t u):=by
 intro aa s σ H vs i Q I r h;obtain⟨v,g,d,h⟩:=h;subst d;cases r with
 |cons r b=>
  rw[c];refine Eo (ZH (h1 aa s σ H _ _ _ I r h) λ_ s1 ⟨a,H1,f,q1⟩=>?_);exact h2 aa s1 a H1 _ _ Q f b q1
def gTup(K:Ah)(n:Nat)(t:TGs):TG:=λv σ H Q=>∃a xs,v=.ref a/\WN K H a xs/\xs.length=n/\t xs σ H Q
def iE{es:List Vc}{k:Nat}{t:TGs}{n:Nat}(hc:X.calm=bc)(h:AE X es t)(l:(Vf es X.env).length=n:=by rfl)(c:(Vf es X.env).findIdx? (·.1)=bb:=by rfl):PG X (.Tuple es k pos) (gTup X.K n t):=by intro aa s σ H v u Q I r hw;obtain⟨a,xs,m,j,hl,hw⟩:=hw;subst m;cases r;obtain⟨f,d,i,hz⟩:=I.tuple j;refine assign_Tuple_tuple (I.ok.hd hc) i (by simp[l,<-hl,d.length]) c λh' g=>?_;have p:cF X aa σ H {s with heap:=h'}:=I.kept (t':=s.toks) λb o e=>g b o (Bb (An e)) e;exact h aa _ σ H xs _ Q p (by simpa using d) hw
def tAsg(te:TE)(g:TG):TS:=λD σ H=>te σ H λx H1=>g x σ H1 D.nx
def DM{tg e:Vc}{te:TE}{g:TG}(d:PE X e te)(c:PG X tg g)(b:Gv [tg] e pos.line X.env=pure bd:=by rfl)(hw:Gw [tg] e X.env=pure bb:=by rfl)(h1:(Vf [tg] X.env).map (·.2)=[Hs tg X.env]:=by rfl):PS X (.Assign [tg] e pos) (tAsg te g):=by intro aa s σ H D I h;refine wpAny_Assign_stores (ZH (d aa s σ H _ I h) λv s1 ⟨x,H1,f,a,q1⟩=>?_) b hw;rw[h1];exact ZH (c aa s1 σ H1 x v _ f a q1) λ_ i q=>q
def lP{i:Nat}{x:Va}{e:Vc}{te:TE}{c9:Pos}(g:X.N.Nodup)(hi:X.N[i]?=ba x)(b:Loc X.env.scope x)(f:PE X e te)(c:Hj e (ba (.Name x c9)) pos.line X.env=pure bd:=by rfl)(d:X.fn x=bc∨X.env.scope.names.lookup x=ba .local:=by first|exact .inl rfl|exact .inr rfl|assumption):PS X (.Assign [.Name x c9] e pos) (tAsg te (AN i)):=by intro aa s σ H D I h;refine wpAny_Assign_Name (ZH (f aa s σ H _ I h) λv s1 ⟨y,H1,k,a,q1⟩=>?_) c;exact YU k g hi b a (λl j=>⟨_,H1,j,q1⟩) d
def tPar(i j:Nat)(ta:TA):TS:=λD σ H=>ta σ H λvs H1=>∃v w,vs=[v,w]/\D.nx ((σ.set i (ba v)).set j (ba w)) H1
def iV{i j:Nat}{x y:Va}{a b:Vc}{ta:TA}{g py pt:Pos}{kt k2 pt2}(hc:X.calm=bc)(r:X.N.Nodup)(hi:X.N[i]?=ba x)(F:X.N[j]?=ba y)(l:i≠j)(n:X.env.scope.names.lookup x=ba .local)(m:X.env.scope.names.lookup y=ba .local)(G:PA X [a,b] ta)(hw:Gw [.Tuple [.Name x g,.Name y py] kt pt] (.Tuple [a,b] k2 pt2) X.env=pure (ba [x,y]))(E:Gv [.Tuple [.Name x g,.Name y py] kt pt] (.Tuple [a,b] k2 pt2) pos.line X.env=pure bd:=by rfl):PS X (.Assign [.Tuple [.Name x g,.Name y py] kt pt] (.Tuple [a,b] k2 pt2) pos) (tPar i j ta):=by
 intro aa s σ H D I h;rw[exec_Assign_arm];refine Aa (Fm ?_);rw[E];refine Aa (Ag ?_);rw[if_neg (by decide)];refine Aa (Tuple_ (ZH (G _ aa s σ H _ I h) λu s1 ⟨vs,H1,O,B,q1⟩=>?_));obtain⟨v,w,J,q1⟩:=q1;subst J;obtain⟨d,c,rfl,z,f⟩:∃d c,u=[d,c]/\bE v d/\bE w c:=by
  cases B with
  |cons p q=>
   cases q with
   |cons p' C=>
    cases C;exact⟨_,_,rfl,p,p'⟩
 refine Cc ?_ (by show 2<=sizeLine;decide);have M:cF X aa σ H1 {s1 with heap:=s1.heap.push {cls:=.type "tuple",data:=.seq [d,c].toArray}}:=O.kept (t':=s1.toks) λb o e=>Ad _ e;rw[hw];refine Aa (Ag ?_);show Uy (Vb X.prog X.w) X.A (do rule "assign.swapped-stores";let items<-Kn (.ref s1.heap.objs.size) 2 bb;Vn [λv=>Jr X.env y v,λv=>Jr X.env x v] items.reverse;pure Flow.next) _ _ _;refine Aa (Hc (Aa (Py (items:= #[d,c]) (I.ok.hd hc) (Ko s1.heap _) λh' k=>?_)));have L:=M.kept (h':=h') (t':=s1.toks) λb o e=>k b o (Bb (An e)) e;show Uy _ _ (Vn [λv=>Jr X.env y v,λv=>Jr X.env x v] [c,d]>>=λ_=>pure Flow.next) _ _ _;refine Aa (Eo (Js (YU L r F (.inl m) f (λP K=>?_) (.inr m))));refine Eo (Js (YU K r hi (.inl n) z (λs3 t=>Ji (Ag ?_)) (.inr n)));rw[Fb _ _ (Ea l)]at t;exact⟨_,H1,t,q1⟩
end
section
variable{X:Cx}{pos:Pos}
def nG(c:TT)(tb:TS):TS:=λD σ H=>∃W:Nat->St->Hp->Prop,(∃m,W m σ H)/\∀m σ H,W m σ H->
 c σ H λb H1=>if b=bc then∃N:St->Hp->Prop,(∀a H',N a H'->∃d,d<m/\W d a H')/\tb {D with nx:=N,ct:=N,bk:=D.nx} σ H1 else D.nx σ H1
def fH{c:Vc}{body:List Vj}{tc:TT}{tb:TS}(o:Rx (Vb X.prog X.w) X.A X.env X.xe)(hc:PT X c tc)(x:W7 X body tb):PS X (.While c body [] pos) (nG tc tb):=by
 intro aa s σ H D I h;obtain⟨W,⟨m0,t⟩,turn⟩:=h;refine wpAny_While (codeAny_whileLoop (λn s'=>∃e H',cF X aa e H' s'/\W n e H') ?_ m0 ⟨σ,H,I,t⟩);rintro n s1 ⟨d,H1,y,r⟩;refine Gg o (ZH (hc aa s1 d H1 _ y (turn n d H1 r)) λb u ⟨H2,q,q2⟩=>?_);cases b with
 |true=>
  obtain⟨N,p,q2⟩:=q2;rw[if_pos rfl];refine Gg o (ZH (x aa u d H2 _ q q2) λf s3 q3=>?_);cases f with
  |next=>
   obtain⟨a,g,m,j⟩:=q3;obtain⟨k,l,i⟩:=p a g j;exact⟨k,l,a,g,m,i⟩
  |cont=>
   obtain⟨a,g,m,j⟩:=q3;obtain⟨k,l,i⟩:=p a g j;exact⟨k,l,a,g,m,i⟩
  |brk=>exact q3
  |ret v=>exact q3
 |false=>
  rw[if_neg Cr];exact Km ⟨d,H2,q,q2⟩
end
structure It where
 go:Nat->Hp->Prop
 yld:Nat->Hp->V->Hp->Prop
 stop:Nat->Hp->Prop
def WK(X:Cx)(aa:List (Ux×Vi))(H:Hp)(b:Ux):Prop:=
 H b=bb/\b≠X.env.locals/\b∉X.fs/\(b∈X.ex∨X.s₀.heap.objs.size<=b)/\(∀x c,X.env.cells.lookup x=ba c->c≠b)/\∀p∈X.pn++aa,p.1≠b
def cF.fpOk{X:Cx}{aa:List (Ux×Vi)}{σ:St}{H H':Hp}{s:Ae}{b:Ux}(I:cF X aa σ H s)(a:s.heap.objs.size<=b)(f:H' b=bb):WK X aa H' b:=by
 refine⟨f,Ic (Az I.lt a),I.nofs a,.inr (Fc I.sz a),λx c e z=>?_,λp d z=>?_⟩
 ·obtain⟨v,q⟩:=I.cell x c e
  exact absurd (Az q.lt (by rw[z];exact a)) (Cq _)
 ·exact absurd (Az (An (I.pin p d).1) (by rw[z];exact a)) (Cq _)
structure GY(P:Aw)(w:Ve)(K:Ah)(tg:Vc)(J:It)(fp:List Ux)(it:Ux)(tn:Nat->Vg->Prop):Prop where
 mem:it∈fp
 obj:∀i h,tn i h->∀b∈fp,∃o,h.get? b=ba o/\∀v,o.data≠ .cell v
 keep:∀i h h',tn i h->(∀b∈fp,∀o,h.get? b=ba o->h'.get? b=ba o)->tn i h'
 item:∀(X:Cx),X.prog=P->X.w=w->X.K=K->X.calm=bc->∀(i:Nat) (aa:List (Ux×Vi)) (s:Ae) (σ:St) (H:Hp) (E:Uw->Ae->Prop),cF X aa σ H s->(∀b∈fp,WK X aa H b)->tn i s.heap->J.go i H->
  Uy (Vb P w) X.A (pyNext (.ref it)) (λr s1=>∃u,r=ba u∧
   Uy (Vb P w) X.A (Hk tg (.ref it) u) (λ_ s2=>∃x H',cF X aa σ H' s2/\bE x u/\J.yld i H x H'/\tn (i+1) s2.heap/\∀b∈fp,H' b=bb) E s1) E s
 done:∀(X:Cx),X.prog=P->X.w=w->X.K=K->X.calm=bc->∀(i:Nat) (aa:List (Ux×Vi)) (s:Ae) (σ:St) (H:Hp) (E:Uw->Ae->Prop),cF X aa σ H s->(∀b∈fp,WK X aa H b)->tn i s.heap->J.stop i H->
  Uy (Vb P w) X.A (pyNext (.ref it)) (λr s1=>r=bb/\cF X aa σ H s1) E s
 self:∀(A:Bw) (i:Nat) (s:Ae) (Q:Uw->Ae->Prop) (E:Uw->Ae->Prop),tn i s.heap->Q (.ref it) s->Uy (Vb P w) A (Ry (.ref it)) Q E s
abbrev TI:=St->Hp->(It->Hp->Prop)->Prop
def PIE(X:Cx)(aa:List (Ux×Vi))(σ:St)(tg:Vc)(R:It->Hp->Prop)(a:Uw)(d:Ae):Prop:=
 ∃(it:Ux) (fp:List Ux) (c:Nat->Vg->Prop) (J:It) (H':Hp),a=.ref it/\cF X aa σ H' d/\GY X.prog X.w X.K tg J fp it c/\c 0 d.heap/\(∀b∈fp,WK X aa H' b)/\R J H'
def PI(X:Cx)(tg iter:Vc)(wi:TI):Prop:=
 ∀(aa:List (Ux×Vi)) (s:Ae) (σ:St) (H:Hp) (R:It->Hp->Prop),cF X aa σ H s->wi σ H R->
  Uy (Vb X.prog X.w) X.A (eval iter X.env) (λv s1=>Uy (Vb X.prog X.w) X.A (Ry v) (PIE X aa σ tg R) X.xe s1) X.xe s
def AR{M:Vq}{A:Bw}{E:Uw->Ae->Prop}{s:Ae}{tg:Vc}{it:Ux}{u:Uw}{o:Vi}{n:String}{vs:Array Uw}{Q:Unit->Ae->Prop}(b:s.heap.get? it=ba o)(hc:o.cls= .type n)(d:o.data= .fields vs)(c:["enumerate","zip","dict_itemiterator","dict_reverseitemiterator","odict_iterator","itertools.zip_longest","itertools.pairwise"].contains n=bd)(a:Q () s):Uy M A (Hk tg (.ref it) u) Q E s:=by
  unfold Hk;cases tg<;>first
    |exact Ag a
    |(cases u<;>first
        |exact Ag a
        | (refine Aa (wpAny_load b ?_)
           rw[hc,d];show Uy M A (if(["enumerate","zip","dict_itemiterator","dict_reverseitemiterator","odict_iterator","itertools.zip_longest","itertools.pairwise"].contains n&&vs[0]? ==ba (rawInt _))=bc then _ else _) Q E s;rw[if_neg (by intro h;rw[c,Bool.false_and]at h;cases h)];exact Ag a))
def Itl(K:Ah)(a:Ux):It:=
 ⟨λi H=>∃xs x,X8 K H a xs/\xs[i]?=ba x,λi H x H'=>H'=H/\∀xs,X8 K H a xs->xs[i]?=ba x,λi H=>∃xs,X8 K H a xs/\xs.length<=i⟩
def Itt(K:Ah)(a:Ux):It:=
 ⟨λi H=>∃xs x,WN K H a xs/\xs[i]?=ba x,λi H x H'=>H'=H/\∀xs,WN K H a xs->xs[i]?=ba x,λi H=>∃xs,WN K H a xs/\xs.length<=i⟩
def Itr(lo:Int)(n:Nat):It:=⟨λi _=>i<n,λi H x H'=>H'=H/\x=.int (lo+i),λi _=>n<=i⟩
def kZ{P:Aw}{w:Ve}{K:Ah}{tg:Vc}(a it:Ux):GY P w K tg (Itl K a) [it] it (λi h=>h.IsListIter it a i) where
 mem:=by simp
 obj:=λi h st b f=>by
  have e:b=it:=by simpa using f
  subst e;obtain⟨o,e,c,d⟩:=st;exact⟨o,e,λv z=>by rw[d]at z;cases z⟩
 keep:=λi h h' st k=>st.at λo e=>k it (by simp) o e
 item:=by intro X t hw y hc i aa s σ H E I l st r;subst t hw y;obtain⟨xs,x,j,q⟩:=r;obtain⟨n,m,p,hz⟩:=I.list j;obtain⟨u,J,F⟩:=m.get q;obtain⟨C,f1,f2,f3,B,A⟩:=l it (by simp);refine Hf st p.isList (x:=u) (by simpa using J) λh' g D=>?_;have M:cF X aa σ H {s with heap:=h'}:=I.turned (t':=s.toks) (λb o f e=>(D.2 b f).trans e) C f1 f3 B A;obtain⟨o,e,c,d⟩:=id g;exact⟨u,rfl,AR (s:={s with heap:=h'}) e c d (by decide) ⟨x,H,M,F,⟨rfl,λys G=>by rw[I.list_inj G j];exact q⟩,g,λb f=>(l b f).1⟩⟩
 done:=by intro X t hw y hc i aa s σ H E I l st r;subst t hw y;obtain⟨xs,j,q⟩:=r;obtain⟨n,m,p,hz⟩:=I.list j;obtain⟨C,f1,f2,f3,B,A⟩:=l it (by simp);have hl:=m.length;exact Jw (I.ok.hd hc) st p.isList (by simp;lia) λh' L=>⟨rfl,I.turned (t':=s.toks) (λb o f e=>L b o f e) C f1 f3 B A⟩
 self:=λ_ _ _ _ _ st h=>wpAny_pyIter_listiter st h
def DZ{P:Aw}{w:Ve}{K:Ah}{tg:Vc}(a it:Ux):GY P w K tg (Itt K a) [it] it (λi h=>h.IsTupleIter it a i) where
 mem:=by simp
 obj:=λi h st b g=>by
  have e:b=it:=by simpa using g
  subst e;obtain⟨o,e,c,d⟩:=st;exact⟨o,e,λv z=>by rw[d]at z;cases z⟩
 keep:=λi h h' st k=>st.at λo e=>k it (by simp) o e
 item:=by intro X t hw y hc i aa s σ H E I m st r;subst t hw y;obtain⟨xs,x,l,q⟩:=r;obtain⟨f,n,p,hz⟩:=I.tuple l;obtain⟨u,J,F⟩:=n.get q;obtain⟨C,f1,f2,f3,B,A⟩:=m it (by simp);refine wpAny_pyNext_tuple_item st (show s.heap.IsTuple a f.toArray from p) (x:=u) (by simpa using J) λh' j D=>?_;have M:cF X aa σ H {s with heap:=h'}:=I.turned (t':=s.toks) (λb o g e=>(D.2 b g).trans e) C f1 f3 B A;obtain⟨o,e,c,d⟩:=id j;exact⟨u,rfl,AR (s:={s with heap:=h'}) e c d (by decide) ⟨x,H,M,F,⟨rfl,λys G=>by rw[I.tuple_inj G l];exact q⟩,j,λb g=>(m b g).1⟩⟩
 done:=by intro X t hw y hc i aa s σ H E I m st r;subst t hw y;obtain⟨xs,l,q⟩:=r;obtain⟨f,n,p,hz⟩:=I.tuple l;obtain⟨C,f1,f2,f3,B,A⟩:=m it (by simp);have hl:=n.length;exact wpAny_pyNext_tuple_end (I.ok.hd hc) st (show s.heap.IsTuple a f.toArray from p) (by simp;lia) λh' L=>⟨rfl,I.turned (t':=s.toks) (λb o g e=>L b o g e) C f1 f3 B A⟩
 self:=λ_ _ _ _ _ st h=>wpAny_pyIter_tupleiter st h
def DY{P:Aw}{w:Ve}{K:PySem.W.Frag}{tg:Vc}(it:Ux)(lo:Int)(n:Nat):GY P w K tg (Itr lo n) [it] it (λi h=>Mh h it (lo+(i:Nat)*1) ((n:Int)-(i:Nat)) 1) where
 mem:=by simp
 obj:=λi h st b a=>by
  have e:b=it:=by simpa using a
  subst e;exact⟨_,st,λv z=>by have z':Rz _=Data.cell v:=z;cases z'⟩
 keep:=λi h h' st k=>k it (by simp) _ st
 item:=by intro X g hw j hc i aa s σ H E I d st f;subst g hw j;obtain⟨p,f1,f2,f3,m,l⟩:=d it (by simp);have W:=Uq (prog:=X.prog) (w:=X.w) (I.ok.hd hc) it lo 1 n;refine W.item i s _ _ f st λv h' tk q c kk=>?_;obtain⟨t,rfl⟩:=q;have u:cF X aa σ H {s with heap:=h',toks:=tk}:=I.turned (λb o a e=>kk b o (by simpa using a) e) p f1 f3 m l;refine⟨_,rfl,AR (s:={s with heap:=h',toks:=tk}) (n:= "range_iterator") c rfl rfl (by decide) ⟨.int (lo+i),H,u,⟨t,?_⟩,⟨rfl,rfl⟩,c,λb a=>(d b a).1⟩⟩;rw[Int.mul_one]
 done:=by intro X g hw j hc i aa s σ H E I d st f;subst g hw j;obtain⟨p,f1,f2,f3,m,l⟩:=d it (by simp);exact Mx (I.ok.hd hc) st (by have:n<=i:=f;lia) λh' r=>⟨rfl,I.turned (t':=s.toks) (λb o a e=>r b o a e) p f1 f3 m l⟩
 self:=λ_ _ _ _ _ st h=>Jb st h
section
variable{X:Cx}{tg:Vc}
def Zx(K:Ah)(tl:TE):TI:=λσ H R=>tl σ H λx H1=>∃a,x=.ref a/\(∃xs,X8 K H1 a xs)/\R (Itl K a) H1
def iTup(K:Ah)(tl:TE):TI:=λσ H R=>tl σ H λx H1=>∃a,x=.ref a/\(∃xs,WN K H1 a xs)/\R (Itt K a) H1
def ju{l:Vc}{tl:TE}(hl:PE X l tl):PI X tg l (Zx X.K tl):=by
 intro aa s σ H R I h;refine ZH (hl aa s σ H _ I h) λv s1 ⟨x,H1,c,d,q1⟩=>?_;obtain⟨a,e,⟨xs,g⟩,q⟩:=q1;subst e;cases d;obtain⟨f,j,p,hz⟩:=c.list g;refine Fo p.isList ?_;refine⟨s1.heap.objs.size,[s1.heap.objs.size],_,_,H1,rfl,c.kept (t':=s1.toks) λb o e=>Ad _ e,kZ a _,⟨_,Aj _ rfl,rfl,rfl⟩,λb i=>?_,q⟩;have e:b=s1.heap.objs.size:=by simpa using i
 subst e;exact c.fpOk (Am _) (c.hok.fresh (Am _))
def eV{l:Vc}{tl:TE}(hl:PE X l tl):PI X tg l (iTup X.K tl):=by
 intro aa s σ H R I h;refine ZH (hl aa s σ H _ I h) λv s1 ⟨x,H1,c,f,q1⟩=>?_;obtain⟨a,e,⟨xs,g⟩,q⟩:=q1;subst e;cases f;obtain⟨d,j,p,hz⟩:=c.tuple g;refine Ik (show s1.heap.IsTuple a d.toArray from p) ?_;refine⟨s1.heap.objs.size,[s1.heap.objs.size],_,_,H1,rfl,c.kept (t':=s1.toks) λb o e=>Ad _ e,DZ a _,⟨_,Aj _ rfl,rfl,rfl⟩,λb i=>?_,q⟩;have e:b=s1.heap.objs.size:=by simpa using i
 subst e;exact c.fpOk (Am _) (c.hok.fresh (Am _))
def FO{aa:List (Ux×Vi)}{σ:St}{H:Hp}{s:Ae}{R:It->Hp->Prop}{E:Uw->Ae->Prop}{lo hi:Int}{t u v:Vp}{tk:Nat}(I:cF X aa σ H s)(h1: -(2 ^ 62)<=lo)(h2:lo<2 ^ 62)(f: -(2 ^ 62)<=hi)(d:hi<2 ^ 62)(q:R (Itr lo (hi-lo).toNat) H):Uy (Vb X.prog X.w) X.A (Ry (.ref s.heap.objs.size)) (PIE X aa σ tg R) E {s with heap:=s.heap.push {cls:=.type "range",data:=.fields #[.int lo t,.int hi u,.int 1 v]},toks:=tk}:=by
 refine wpAny_pyIter_range (Ur ..) (small_one h1 h2 f d) ?_;have a:cF X aa σ H {s with heap:=s.heap.push {cls:=.type "range",data:=.fields #[.int lo t,.int hi u,.int 1 v]},toks:=tk}:=I.kept λb o e=>Ad _ e;refine⟨(s.heap.push {cls:=.type "range",data:=.fields #[.int lo t,.int hi u,.int 1 v]}).objs.size,[(s.heap.push {cls:=.type "range",data:=.fields #[.int lo t,.int hi u,.int 1 v]}).objs.size],_,_,H,rfl,a.kept (t':=tk) λb o e=>Ad _ e,DY _ lo (hi-lo).toNat,?_,λb c=>?_,q⟩
 ·have h : lo + ((0 : Nat) : Int) * 1 = lo := by simp
  have g:(((hi-lo).toNat:Nat):Int)-((0:Nat):Int)=Gx lo hi 1:=by rw[rangeSize_one];split<;>lia
  show Mh _ _ (lo+((0:Nat):Int)*1) ((((hi-lo).toNat:Nat):Int)-((0:Nat):Int)) 1;rw[h,g];exact Aj _ rfl
 ·have e : b = (s.heap.push { cls := .type "range",data := .fields #[.int lo t,.int hi u,.int 1 v] }).objs.size := by simpa using c
  subst e;exact a.fpOk (Am _) (a.hok.fresh (Am _))
def fN(ta:TA):TI:=λσ H R=>ta σ H λvs H1=>∃j:Int,vs=[.int j]/\ -(2 ^ 62)<=j/\j<2 ^ 62/\R (Itr 0 j.toNat) H1
def jP(ta:TA):TI:=λσ H R=>ta σ H λvs H1=>∃i j:Int,vs=[.int i,.int j]/\(-(2 ^ 62)<=i/\i<2 ^ 62/\ -(2 ^ 62)<=j/\j<2 ^ 62)/\R (Itr i (j-i).toNat) H1
def lI{a:Vc}{ta:TA}{p pos:Pos}(g:Gl X "range")(f:X.mg "range"=bb)(i:PA X [a] ta)(d:Uz [a] X.env=[(bd,eval a X.env)]:=by rfl):PI X tg (.Call (.Name "range" p) [a] [] pos) (fN ta):=by
 intro aa s σ H R I h;refine Call_ (WR I g f Th (Cj (ZH (i pos aa s σ H _ I h) λl s1 ⟨vs,H1,k,c,q1⟩=>?_) d rfl));obtain⟨j,e,q1,q2,q⟩:=q1;subst e;cases c with
 |cons r b=>
  cases b;obtain⟨t,rfl⟩:=r;exact Qs (FO k (by lia) (by lia) q1 q2 (by simpa using q))
def kg{a b:Vc}{ta:TA}{p pos:Pos}(m:Gl X "range")(l:X.mg "range"=bb)(n:PA X [a,b] ta)(k:Uz [a,b] X.env=[(bd,eval a X.env),(bd,eval b X.env)]:=by rfl)(c:Uz [b] X.env=[(bd,eval b X.env)]:=by rfl):PI X tg (.Call (.Name "range" p) [a,b] [] pos) (jP ta):=by
 intro aa s σ H R I h;refine Call_ (WR I m l Th (Cj (ZH (n pos aa s σ H _ I h) λu s1 ⟨vs,H1,o,f,q1⟩=>?_) (by rw[k,c]) (by rw[c];rfl)));obtain⟨i,j,e,⟨q1,q2,q3,g⟩,q⟩:=q1;subst e;cases f with
 |cons r d=>
  cases d with
  |cons r' d=>
   cases d;obtain⟨t,rfl⟩:=r;obtain⟨t',rfl⟩:=r';exact call_range_2 (FO o q1 q2 q3 g q)
def tFor(wi:TI)(g:TG)(tb:TS):TS:=λD σ H=>wi σ H λJ H1=>∃W:Nat->Nat->St->Hp->Prop,(∃m,W 0 m σ H1)/\∀i m σ H,W i m σ H->
 (J.stop i H/\D.nx σ H)∨(J.go i H/\∃N:St->Hp->Prop,(∀a H',N a H'->∃c,c<m/\W (i+1) c a H')/\∀x H',J.yld i H x H'->g x σ H' λb H2=>tb {D with nx:=N,ct:=N,bk:=D.nx} b H2)
def P0(fp:List Ux)(h:Vg):List (Ux×Vi):=fp.filterMap λb=>(h.get? b).map λo=>(b,o)
def X0{fp:List Ux}{h:Vg}{b:Ux}{o:Vi}(a:b∈fp)(e:h.get? b=ba o):(b,o)∈P0 fp h:=Ii.mpr ⟨b,a,by rw[e];rfl⟩
def js{fp:List Ux}{h:Vg}{p:Ux×Vi}(a:p∈P0 fp h):p.1∈fp/\h.get? p.1=ba p.2:=by
 obtain⟨b,c,e⟩:=Ii.mp a;cases q:h.get? b with
 |none=>rw[q]at e;cases e
 |some o=>
  rw[q]at e;have d:(b,o)=p:=Cv e;subst d;exact⟨c,q⟩
def cF.pinned{aa:List (Ux×Vi)}{σ:St}{H:Hp}{s:Ae}{fp:List Ux}(I:cF X aa σ H s)(h:∀b∈fp,WK X aa H b)(g:∀b∈fp,∃o,s.heap.get? b=ba o/\∀v,o.data≠ .cell v):cF X (aa++P0 fp s.heap) σ H s:=
 I.pins_of λp f=>(Dh.mp f).elim (λz=>I.pin p (At _ z)) λz=>by obtain⟨a,e⟩:=js z;obtain⟨i,f1,f2,_⟩:=h p.1 a;obtain⟨o,c,d⟩:=g p.1 a;rw[e]at c;cases c;exact⟨e,i,f1,f2,d⟩
def cF.unpinned{aa a:List (Ux×Vi)}{σ:St}{H:Hp}{s:Ae}(I:cF X (aa++a) σ H s):cF X aa σ H s:=I.pins_of λp b=>I.pin p (At _ (Bt _ b))
def mH{iter:Vc}{body:List Vj}{wi:TI}{g:TG}{tb:TS}{pos:Pos}(C:Rx (Vb X.prog X.w) X.A X.env X.xe)(hc:X.calm=bc)(hi:PI X tg iter wi)(hg:PG X tg g)(k:W7 X body tb)(hs:∀x,Vh iter X.env x=pure x:=by intro _;rfl):PS X (.For tg iter body [] pos) (tFor wi g tb):=by
 intro aa s σ H D I h;refine wpAny_For (ZH (hi aa s σ H _ I h) λv s1 h1=>ZH h1 λitv s2 h2=>?_) hs;obtain⟨it,fp,Q,J,H2,e,I2,T,K,f2,W,⟨m0,w0⟩,turn⟩:=h2;subst e;have stat:∀{H':Hp},(∀b∈fp,H' b=bb)->∀b∈fp,WK X aa H' b:=λhn b k=>⟨hn b k,(f2 b k).2⟩;refine codeAny_forLoop_any (λn s'=>∃i j H',cF X aa j H' s'/\Q i s'.heap/\(∀b∈fp,H' b=bb)/\W i n j H') ?_ m0 ⟨0,σ,H2,I2,K,λb k=>(f2 b k).1,w0⟩;rintro n s3 ⟨i,c,F,R,z,E,Z⟩;rcases turn i n c F Z with⟨y,qn⟩|⟨go,N,hN,step⟩
 ·refine Gg C (ZH (T.done X rfl rfl rfl hc i aa s3 c F X.xe R (stat E) z y) λr s4 ⟨M,I4⟩ => ?_)
  subst M;exact Km ⟨c,F,I4,qn⟩
 ·refine Gg C (ZH (T.item X rfl rfl rfl hc i aa s3 c F X.xe R (stat E) z go) λr s4 ⟨u,M,h4⟩ => ?_)
  subst M;refine Gg C (ZH h4 λ_ s5 ⟨x,S,I5,r5,U,t,O⟩=>?_);have P:=I5.pinned (stat O) (T.obj _ _ t);refine Gg C (ZH (hg _ s5 c S x u _ P r5 (step x S U)) λ_ s6 ⟨G,H6,I6,q6⟩=>?_);refine Gg C (ZH (k _ s6 G H6 _ I6 q6) λf L q=>?_);have again:∀{a:St}{p:Hp},cF X (aa++P0 fp s5.heap) a p L->N a p->∃m,m<n/\∃i j H',cF X aa j H' L/\Q i L.heap/\(∀b∈fp,H' b=bb)/\W i m j H':=λ{a p} l B=>by obtain⟨m',hm,Y⟩:=hN a p B;refine⟨m',hm,i+1,a,p,l.unpinned,T.keep _ _ _ t λb k o e=>(l.pin (b,o) (At _ (At _ (X0 k e)))).1,λb k=>?_,Y⟩;obtain⟨o,e,d⟩:=T.obj _ _ t b k;exact(l.pin (b,o) (At _ (At _ (X0 k e)))).2.1
  cases f with
  |next=>obtain⟨a,p,l,B⟩:=q;exact again l B
  |cont=>obtain⟨a,p,l,B⟩:=q;exact again l B
  |brk=>obtain⟨a,p,l,q⟩:=q;exact⟨a,p,l.unpinned,q⟩
  |ret v=>obtain⟨V,a,p,l,r7,q⟩:=q;exact⟨V,a,p,l.unpinned,r7,q⟩
end
abbrev R2:=V->V->Hp->VK->Prop
def WZ(X:Cx)(f:Uw->Uw->Vo Uw)(r:R2):Prop:=
 ∀(aa:List (Ux×Vi)) (s:Ae) (σ:St) (H:Hp) (x y:V) (v u:Uw) (Q:VK),cF X aa σ H s->bE x v->bE y u->r x y H Q->
  Uy (Vb X.prog X.w) X.A (f v u) (EP X aa σ Q) X.xe s
def UnR(X:Cx)(f:Uw->Vo Uw)(r:V->Hp->VK->Prop):Prop:=
 ∀(aa:List (Ux×Vi)) (s:Ae) (σ:St) (H:Hp) (x:V) (v:Uw) (Q:VK),cF X aa σ H s->bE x v->r x H Q->
  Uy (Vb X.prog X.w) X.A (f v) (EP X aa σ Q) X.xe s
def aB(X:Cx)(f:Uw)(r:List V->Hp->VK->Prop):Prop:=
 ∀(aa:List (Ux×Vi)) (s:Ae) (σ:St) (H:Hp) (xs:List V) (a:List Uw) (Q:VK),cF X aa σ H s->bL xs a->r xs H Q->
  Uy (Vb X.prog X.w) X.A (call f a) (EP X aa σ Q) X.xe s
def tOp(r:R2)(ta tb:TE):TE:=λσ H Q=>ta σ H λx H1=>tb σ H1 λy H2=>r x y H2 Q
def tUn(r:V->Hp->VK->Prop)(ta:TE):TE:=λσ H Q=>ta σ H λx H1=>r x H1 Q
def rI(C:Int->Int->Prop)(g:Int->Int->V):R2:=λx y H Q=>∃i j,x=.int i/\y=.int j/\C i j/\Q (g i j) H
def DN(g:Int->Int->V):R2:=λx y H Q=>∃i j,x=.int i/\y=.int j/\Q (g i j) H
def rU(g:Int->V):V->Hp->VK->Prop:=λx H Q=>∃i,x=.int i/\Q (g i) H
section
variable{X:Cx}{a b c:Vc}{ta tb tc:TE}{pos:Pos}
def binT(l:PE X a ta)(k:PE X b tb){aa:List (Ux×Vi)}{s:Ae}{σ:St}{H:Hp}{R:V->V->Hp->Prop}(I:cF X aa σ H s)(h:ta σ H λx H1=>tb σ H1 λy H2=>R x y H2){Q:Uw->Ae->Prop}{f:Uw->Uw->Vo Uw}(j:∀v u e x y H2,cF X aa σ H2 e->bE x v->bE y u->R x y H2->Uy (Vb X.prog X.w) X.A (f v u) Q X.xe e):Uy (Vb X.prog X.w) X.A (eval a X.env) (λv d=>Uy (Vb X.prog X.w) X.A (eval b X.env) (λu c=>Uy (Vb X.prog X.w) X.A (f v u) Q X.xe c) X.xe d) X.xe s:=by refine ZH (l aa s σ H _ I h) λv s1 ⟨x,H1,n,i,q1⟩=>?_;refine ZH (k aa s1 σ H1 _ n q1) λu e ⟨y,H2,m,g,q2⟩=>?_;exact j v u e x y H2 m i g q2
def Yg{op:Operator}{r:R2}(f:WZ X (Fz op) r)(i:PE X a ta)(g:PE X b tb):PE X (.BinOp a op b pos) (tOp r ta tb):=by intro aa s σ H Q I h;exact wpAny_BinOp (binT i g I h λv u c x y H2 j e d q=>f aa c σ H2 x y v u Q j e d q)
def mm{op:UnaryOp}{r:V->Hp->VK->Prop}(c:UnR X (unaryOp op) r)(d:PE X a ta):PE X (.UnaryOp op a pos) (tUn r ta):=by intro aa s σ H Q I h;exact UnaryOp_ (ZH (d aa s σ H _ I h) λv s1 ⟨x,H1,e,b,q1⟩=>c aa s1 σ H1 x v Q e b q1)
def opI{f:Uw->Uw->Vo Uw}{C:Int->Int->Prop}{g:Int->Int->Int}(rule:∀(i j:Int) (t u:Vp) (s:Ae) (Q:Uw->Ae->Prop) (E:Uw->Ae->Prop),C i j->Q (.int (g i j) s.toks) {s with toks:=s.toks+1}->Uy (Vb X.prog X.w) X.A (f (.int i t) (.int j u)) Q E s):WZ X f (rI C λi j=>.int (g i j)):=by intro aa s σ H x y v u Q I b a h;obtain⟨i,j,rfl,rfl,hc,q⟩:=h;obtain⟨t,rfl⟩:=b;obtain⟨t',rfl⟩:=a;exact rule i j t t' s _ _ hc ⟨.int (g i j),H,I.tok _,⟨_,rfl⟩,q⟩
def opI0{f:Uw->Uw->Vo Uw}{g:Int->Int->Int}(rule:∀(i j:Int) (t u:Vp) (s:Ae) (Q:Uw->Ae->Prop) (E:Uw->Ae->Prop),Q (.int (g i j) s.toks) {s with toks:=s.toks+1}->Uy (Vb X.prog X.w) X.A (f (.int i t) (.int j u)) Q E s):WZ X f (DN λi j=>.int (g i j)):=by intro aa s σ H x y v u Q I b a h;obtain⟨i,j,rfl,rfl,q⟩:=h;obtain⟨t,rfl⟩:=b;obtain⟨t',rfl⟩:=a;exact rule i j t t' s _ _ ⟨.int (g i j),H,I.tok _,⟨_,rfl⟩,q⟩
def opB0{f:Uw->Uw->Vo Uw}{g:Int->Int->Bool}(rule:∀(i j:Int) (t u:Vp) (s:Ae) (Q:Uw->Ae->Prop) (E:Uw->Ae->Prop),Q (.bool (g i j)) s->Uy (Vb X.prog X.w) X.A (f (.int i t) (.int j u)) Q E s):WZ X f (DN λi j=>.bl (g i j)):=by intro aa s σ H x y v u Q I b a h;obtain⟨i,j,rfl,rfl,q⟩:=h;obtain⟨t,rfl⟩:=b;obtain⟨t',rfl⟩:=a;exact rule i j t t' s _ _ ⟨.bl (g i j),H,I,rfl,q⟩
def CDiv(i j:Int):Prop:=0<j/\j<1073741824
def CPow(i j:Int):Prop:=0<=j/\j<=1000000/\i.natAbs<2 ^ 64
def CMul(i j:Int):Prop:=(-(2 ^ 64)<i/\i<2 ^ 64)∨(-(2 ^ 64)<j/\j<2 ^ 64)
def CMul.ok{i j:Int}(h:CMul i j):IntMulOk i j:=by
 rcases h with⟨h1,h2⟩|⟨h1,h2⟩
 ·exact .of_left (intBits_le_64 h1 h2)
 ·exact .of_right (intBits_le_64 h1 h2)
def zKN:WZ X (Fz .Add) (DN λi j=>.int (i+j)):=opI0 λ_ _ _ _ _ _ _ q=>add_int q
def UL:WZ X (Fz .Sub) (DN λi j=>.int (i-j)):=opI0 λ_ _ _ _ _ _ _ q=>sub_int q
def pj:WZ X (Fz .Mult) (rI CMul λi j=>.int (i*j)):=opI λ_ _ _ _ _ _ _ hc q=>mul_int q hc.ok
def BC:WZ X (Fz .FloorDiv) (rI CDiv λi j=>.int (i/j)):=opI λi j _ _ _ _ _ hc q=>by have h1:(0:Int)<j:=hc.1;have h2:j<1073741824:=hc.2;exact floordiv_int (by lia) (by rw[Int.fdiv_eq_ediv_of_nonneg i (by lia)];exact q) (.inl (PyProof.noPylong_small (by lia)))
def UK:WZ X (Fz .Mod) (rI (λ_ j=>0<j) λi j=>.int (i % j)):=opI λi j _ _ _ _ _ hc q=>by have h1:(0:Int)<j:=hc;exact mod_int' (by lia) (by rw[Int.fmod_eq_emod_of_nonneg i (by lia)];exact q)
def lZ:WZ X (Fz .Pow) (rI CPow λi j=>.int (i ^ j.toNat)):=opI λ_ _ _ _ _ _ _ hc q=>pow_int_small hc.1 hc.2.1 hc.2.2 q
def unI{f:Uw->Vo Uw}{g:Int->Int}(rule:∀(i:Int) (t:Vp) (s:Ae) (Q:Uw->Ae->Prop) (E:Uw->Ae->Prop),Q (.int (g i) s.toks) {s with toks:=s.toks+1}->Uy (Vb X.prog X.w) X.A (f (.int i t)) Q E s):UnR X f (rU λi=>.int (g i)):=by intro aa s σ H x v Q I a h;obtain⟨i,rfl,q⟩:=h;obtain⟨t,rfl⟩:=a;exact rule i t s _ _ ⟨.int (g i),H,I.tok _,⟨_,rfl⟩,q⟩
def mT:UnR X (unaryOp .USub) (rU λi=>.int (-i)):=unI λ_ _ _ _ _ q=>neg_int q
end
section
variable{X:Cx}{a b c:Vc}{ta tb tc:TE}{pos:Pos}
def HD{aa:List (Ux×Vi)}{σ:St}{H:Hp}{s:Ae}{Q:VK}{k k':Bool}(I:cF X aa σ H s)(q:Q (.bl k) H)(e:k=k'):EP X aa σ Q (.bool k') s:=by subst e;exact⟨.bl k,H,I,rfl,q⟩
def BE:WZ X (Dr .Lt) (DN λi j=>.bl (decide (i<j))):=opB0 λ_ _ _ _ _ _ _ q=>lt_int q
def Wa:WZ X (Dr .LtE) (DN λi j=>.bl (decide (i<=j))):=opB0 λ_ _ _ _ _ _ _ q=>le_int q
def BD:WZ X (Dr .Gt) (DN λi j=>.bl (decide (j<i))):=opB0 λ_ _ _ _ _ _ _ q=>gt_int q
def Wi:WZ X (Dr .GtE) (DN λi j=>.bl (decide (j<=i))):=opB0 λ_ _ _ _ _ _ _ q=>ge_int q
def Xb:WZ X (Dr .Is) (λx y H Q=>y=.non/\Q (.bl (decide (x=.non))) H):=by
 intro aa s σ H x y v u Q I a b h;obtain⟨rfl,q⟩:=h;cases b;refine is_none_gen (HD I q ?_);cases x<;>first
  |(cases a;rfl)
  |(obtain⟨t,rfl⟩:=a;rfl)
def BF:WZ X (Dr .IsNot) (λx y H Q=>y=.non/\Q (.bl (!decide (x=.non))) H):=by
 intro aa s σ H x y v u Q I a b h;obtain⟨rfl,q⟩:=h;cases b;refine isnot_none_gen (HD I q ?_);cases x<;>first
  |(cases a;rfl)
  |(obtain⟨t,rfl⟩:=a;rfl)
def WZ.or{f:Uw->Uw->Vo Uw}{r r':R2}(h:WZ X f r)(h':WZ X f r'):WZ X f (λx y H Q=>r x y H Q∨r' x y H Q):=by
 intro aa s σ H x y v u Q I b a q;rcases q with q|q
 ·exact h aa s σ H x y v u Q I b a q
 ·exact h' aa s σ H x y v u Q I b a q
def UF(b:Vc){op:CmpOp}(h:op≠ .In:=by decide)(h2:op≠ .NotIn:=by decide):Il op b=bd:=by
 have c:(op==CmpOp.In)=bd:=by cases op<;>first|rfl|exact absurd rfl h
 have a:(op==CmpOp.NotIn)=bd:=by cases op<;>first|rfl|exact absurd rfl h2
 cases b<;>simp[Il,c,a]
def jn{op:CmpOp}{r:R2}(f:WZ X (Dr op) r)(j:PE X a ta)(i:PE X b tb)(g:Il op b=bd):PE X (.Compare a [op] [b] pos) (tOp r ta tb):=by intro aa s σ H Q I h;exact wpAny_Compare1 (binT j i I h λv u c x y H2 k e d q=>f aa c σ H2 x y v u Q k e d q) g
def Zm(t:TE):TT:=λσ H Q=>t σ H λx H'=>∃k,x=.bl k/\Q k H'
def jE{op:CmpOp}{r:R2}(j:WZ X (Dr op) r)(n:PE X a ta)(m:PE X b tb)(l:Il op b=bd):PT X (.Compare a [op] [b] pos) (Zm (tOp r ta tb)):=by
 intro aa s σ H Q I h;refine wpAny_isTrue_Compare1 (ZH (n aa s σ H _ I h) λv s1 ⟨x,H1,q,i,q1⟩=>ZH (m aa s1 σ H1 _ q q1) λu d ⟨y,H2,p,g,q2⟩=>
  ZH (j aa d σ H2 x y v u _ p i g q2) λc s3 ⟨z,t,o,f,k,e,q3⟩=>?_) l
 subst e;cases f;exact Ej ⟨t,o,q3⟩
def DV(r r':R2)(ta tb tc:TE):TE:=λσ H Q=>ta σ H λx H1=>tb σ H1 λy H2=>r x y H2 λz a=>∃k,z=.bl k∧
 (if k=bc then tc σ a λb c=>r' y b c Q else Q (.bl bd) a)
def gB{op f:CmpOp}{r r':R2}(w:WZ X (Dr op) r)(g:WZ X (Dr f) r')(C:PE X a ta)(B:PE X b tb)(hc:PE X c tc)(A:Sa [op,f] [b,c]=bd:=by with_unfolding_all rfl):PE X (.Compare a [op,f] [b,c] pos) (DV r r' ta tb tc):=by
 intro aa s σ H Q I h;refine Compare_chain (ZH (C aa s σ H _ I h) λv s1 ⟨x,H1,F,q,q1⟩=>chain_link (ZH (B aa s1 σ H1 _ F q1) λu n ⟨y,H2,E,i,q2⟩=>
  ZH (w aa n σ H2 x y v u _ E q i q2) λd s3 ⟨z,l,j,p,k,e,q3⟩=>?_)) A
 subst e;cases p;refine Ej ?_;cases k with
 |false=>exact ite_ff ⟨.bl bd,l,j,rfl,q3⟩
 |true=>exact ite_tt (chain_last (ZH (hc aa s3 σ l _ j q3) λm s4 ⟨z',G,D,o,t⟩=>g aa s4 σ G y z' u m Q D i o t))
def eJ{op f:CmpOp}{r r':R2}(C:WZ X (Dr op) r)(g:WZ X (Dr f) r')(F:PE X a ta)(E:PE X b tb)(hc:PE X c tc)(D:Sa [op,f] [b,c]=bd:=by with_unfolding_all rfl):PT X (.Compare a [op,f] [b,c] pos) (Zm (DV r r' ta tb tc)):=by
 intro aa s σ H Q I h;refine isTrue_chain (ZH (F aa s σ H _ I h) λv s1 ⟨x,H1,N,t,q1⟩=>test_link (ZH (E aa s1 σ H1 _ N q1) λu n ⟨y,H2,M,i,q2⟩=>
  ZH (C aa n σ H2 x y v u _ M t i q2) λd s3 ⟨z,l,j,q,k,e,q3⟩=>?_)) D
 subst e;cases q;refine Ej ?_;cases k with
 |false=>
  obtain⟨k',J,B⟩:=q3;cases J;exact ite_ff ⟨l,j,B⟩
 |true=>
  refine ite_tt (test_last (ZH (hc aa s3 σ l _ j q3) λm s4 ⟨z',P,L,p,A⟩=>ZH (g aa s4 σ P y z' u m _ L i p A) λd' s5 ⟨R,O,K,o,k2,G,w⟩=>?_));subst G;cases o;exact Ej ⟨O,K,w⟩
def MW:(sizeLine:Nat)<2 ^ 63:=by rw[Cf];decide
def DF:WZ X (Fz .Add) (λx y H Q=>∃i j,x=.str i/\y=.str j/\i.length+j.length<=sizeLine/\Q (.str (i++j)) H):=by intro aa s σ H x y v u Q I b a h;obtain⟨i,j,rfl,rfl,hz,q⟩:=h;obtain⟨t,rfl⟩:=b;obtain⟨t',rfl⟩:=a;exact add_str (λt' tk=>⟨.str (i++j),H,I.tok _,⟨_,rfl⟩,q⟩) hz
def U0{x:V}{a:List Uw}(r:bL [x] a):∃u,a=[u]/\bE x u:=by
 cases r with
 |cons c b=>cases b;exact⟨_,rfl,c⟩
def F8{x y:V}{b:List Uw}(r:bL [x,y] b):∃u a,b=[u,a]/\bE x u/\bE y a:=by
 cases r with
 |cons f e=>
  cases e with
  |cons d c=>cases c;exact⟨_,_,rfl,f,d⟩
def jq(hc:X.calm=bc):aB X (.builtin "max") (λxs H Q=>∃i j,xs=[.int i,.int j]/\Q (.int (if j>i then j else i)) H):=by
 intro aa s σ H xs c Q I r h;obtain⟨i,j,rfl,q⟩:=h;obtain⟨u,b,rfl,⟨t,rfl⟩,⟨t',rfl⟩⟩:=F8 r;refine max_two_ints (I.ok.hd hc) λh' tk k=>⟨_,H,I.kept k,?_,q⟩;by_cases a:j>i
 ·rw[if_pos a,if_pos a];exact⟨_,rfl⟩
 ·rw[if_neg a,if_neg a];exact⟨_,rfl⟩
def dZ(hc:X.calm=bc):aB X (.builtin "min") (λxs H Q=>∃i j,xs=[.int i,.int j]/\Q (.int (if j<i then j else i)) H):=by
 intro aa s σ H xs c Q I r h;obtain⟨i,j,rfl,q⟩:=h;obtain⟨u,b,rfl,⟨t,rfl⟩,⟨t',rfl⟩⟩:=F8 r;refine min_two_ints (I.ok.hd hc) λh' tk k=>⟨_,H,I.kept k,?_,q⟩;by_cases a:j<i
 ·rw[if_pos a,if_pos a];exact⟨_,rfl⟩
 ·rw[if_neg a,if_neg a];exact⟨_,rfl⟩
end
structure ObjM(h:Vg)(x dx C:Ux)(mA:Va->Option Uw):Prop where
 obj:h.get? x=ba (Uf C dx)
 ns:h.Ns1 dx mA
 ne:dx≠x
def lu{h:Vg}{dx:Ux}{b:Va->Option Uw}(n:h.Ns1 dx b):∃od,h.get? dx=ba od/\∀name,W.lookIn name od=ba (b name):=by
 obtain⟨o,es,ep,d,i,g,_,f⟩:=n;refine⟨o,d,λname=>?_⟩;have e:=f name;unfold nsFind findBy at e;rw[<-Array.find?_toList]at e;unfold W.lookIn;rw[i];dsimp only;split
 ·rename_i y q
  rw[q]at e;exact congrArg ba e
 ·rename_i q
  rw[q]at e;have a:es.toList.any (·.refKey)=bd:=by rw[List.any_eq_false];intro y c;obtain⟨z,t,j⟩:=g y (Array.mem_toList_iff.mp c);simp[DictEntry.refKey,j]
  have k:¬es.toList.any (·.refKey)=bc:=by rw[a];exact Cr
  rw[if_neg k];exact congrArg ba e
def ObjM.look{h:Vg}{x dx C:Ux}{a:Va->Option Uw}(I:ObjM h x dx C a):∃od,W.InstAt h x (Uf C dx) C (ba od)/\∀name,W.lookIn name od=ba (a name):=
 let ⟨od,b,hl⟩:=lu I.ns
 ⟨od,⟨I.obj,rfl,rfl,b⟩,hl⟩
def O0.some_of{v:V}{o:Option Uw}(r:O0 (ba v) o):∃u,o=ba u/\bE v u:=by
 cases o with
 |none=>exact(show False from r).elim
 |some u=>exact⟨u,rfl,r⟩
section
variable{P:Aw}{w:Ve}{H H':Hp}{h h':Vg}{a C dx:Ux}{fs fs':List (Va×V)}
def nQ(c:SW P w H h)(e:H a=ba (.ins C dx fs)):∃b,ObjM h a dx C b/\(∀f,O0 (fs.lookup f) (b f))/\Ug b (fs.map (·.1))/\fs.length<=1000/\H dx=ba (.own a):=by obtain⟨d,z,i,g,b,n,r,q⟩:=(show Z7 P w H h a (.ins C dx fs) from c a _ e);exact⟨b,⟨g,n,i⟩,r,q,z,d⟩
end
structure Cls(K:Ah)(C:Ux):Prop where
 pg:W.plainGet K C Str.empty=bc
 hd:W.hasDictIn K C=bc
 po:W.plainOver K C=bc
 sa:Rq K (.ref C) "__setattr__"=ba (ba (.builtin "object.__setattr__"))
def Cls.get{K:Ah}{C:Ux}(c:Cls K C)(f:Va):W.plainGet K C f=bc:=c.pg
section
variable{X:Cx}{aa:List (Ux×Vi)}{σ:St}{H:Hp}{s:Ae}{A:Bw}{E:Uw->Ae->Prop}{Q:Uw->Ae->Prop}{c:Uw}{b:Bool}
inductive NZ(K:Ah)(H:Hp):V->Uw->Prop where
 |non:NZ K H .non (.type "NoneType")
 |bl (x:Bool):NZ K H (.bl x) (.type "bool")
 |int (i:Int):NZ K H (.int i) (.type "int")
 |str (x:Va):NZ K H (.str x) (.type "str")
 |flt (x:UInt64):NZ K H (.flt x) (.type "float")
 |lst {a:Ux}{xs:List V}(e:H a=ba (.lst xs)):NZ K H (.ref a) (.type "list")
 |frz {a:Ux}{o:Vi}{xs:List V}(e:H a=ba (.frz o (.lst xs))):NZ K H (.ref a) (.type "list")
 |tup {a:Ux}{xs:List V}(e:H a=ba (.tup xs)):NZ K H (.ref a) (.type "tuple")
 |dK {a:Ux}{kvs:List (aK×V)}(e:H a=ba (.dK kvs)):NZ K H (.ref a) (.type "dict")
 |dT {a:Ux}{kvs:List (List aK×V)}(e:H a=ba (.dT kvs)):NZ K H (.ref a) (.type "dict")
 |ins {a C dx:Ux}{fs:List (Va×V)}(e:H a=ba (.ins C dx fs)) (cl:Cls K C) (ha:Rq K (.ref C) "__class__"=ba (ba (.builtin "object.__class__")))
   (hn:W.specialIn K (.builtin "object.__class__") "__get__"=ba (ba (.builtin "getset_descriptor.__get__"))) (htk:W.takesIn K (.builtin "object.__class__")=ba bc)
   (hm:W.mroIn K C (.type "object")=ba bc):NZ K H (.ref a) (.ref C)
def VO{x:V}{u t:Uw}(I:cF X aa σ H s)(d:bE x u)(ty:NZ X.K H x t)(e:Hx X.K t c=ba b)(h:∀tk,Q (.bool b) {s with toks:=tk}):Uy (Vb X.prog X.w) A (call (.builtin "isinstance") [u,c]) Q E s:=by
 cases ty with
 |non=>cases (show u=Value.none from d);exact Fj W.kitx_none I.kIn True.intro e (λz=>nomatch z) h
 |bl y=>cases (show u=Ib y from d);exact Fj W.kitx_bool I.kIn True.intro e (λz=>nomatch z) h
 |int i=>obtain⟨t,q⟩:=(show∃t,u=Rv i t from d);cases q;exact Fj W.kitx_int I.kIn True.intro e (λz=>nomatch z) h
 |str y=>obtain⟨t,q⟩:=(show∃t,u=Nc y t from d);cases q;exact Fj W.kitx_str I.kIn True.intro e (λz=>nomatch z) h
 |flt y=>obtain⟨t,q⟩:=(show∃t,u=Up y t from d);cases q;exact Fj W.kitx_float I.kIn True.intro e (λz=>nomatch z) h
 | @lst a xs f=>
  cases (show u=Br a from d);obtain⟨_,_,n,_,h1⟩:=(show Z7 X.prog X.w H s.heap a (.lst xs) from I.hok a _ f);exact Fj Ol I.kIn ⟨_,h1,rfl⟩ e (λz=>nomatch z) h
 | @frz a j xs f=>
  cases (show u=Br a from d);obtain⟨_,_,_,n,_,h1⟩:=(show Z7 X.prog X.w H s.heap a (.frz j (.lst xs)) from I.hok a _ f);exact Fj Ol I.kIn ⟨_,h1,rfl⟩ e (λz=>nomatch z) h
 | @tup a xs f=>
  cases (show u=Br a from d);obtain⟨_,_,_,p⟩:=(show Z7 X.prog X.w H s.heap a (.tup xs) from I.hok a _ f);obtain⟨o,h1,h2,_⟩:=p;exact Fj W.kitx_tuple I.kIn ⟨o,h1,h2⟩ e (λz=>nomatch z) h
 | @dK a kvs f=>
  cases (show u=Br a from d);obtain⟨_,_,vs,_,p⟩:=(show Z7 X.prog X.w H s.heap a (.dK kvs) from I.hok a _ f);obtain⟨o,es,ep,h1,h2,_⟩:=p;exact Fj Sb I.kIn ⟨o,h1,h2.1⟩ e (λz=>nomatch z) h
 | @dT a kvs f=>
  cases (show u=Br a from d);obtain⟨_,_,xs,_,o,es,ep,h1,h2,_⟩:=(show Z7 X.prog X.w H s.heap a (.dT kvs) from I.hok a _ f);exact Fj Sb I.kIn ⟨o,h1,h2.1⟩ e (λz=>nomatch z) h
 | @ins a C dx fs f cl m k g l=>
  cases (show u=Br a from d);obtain⟨r,O,_⟩:=nQ I.hok f;obtain⟨od,J,_⟩:=O.look;exact Fj (W.kitx_own (cl.get _) cl.hd m k g l) I.kIn J e (λz=>nomatch z) h
end
structure ZZ(k:Nat)(A:Bw):Prop where
 hd:A.handled=bb
 dp:A.depth+3*k+5<Jt
 un:A.units+16*k+200<cLine
def ZZ.mono{j k:Nat}{A:Bw}(r:ZZ k A)(h:j<=k):ZZ j A:=⟨r.hd,by have:=r.dp;lia,by have:=r.un;lia⟩
def ZZ.deeper{k:Nat}{A:Bw}(r:ZZ (k+1) A)(env:Env):ZZ k (A.deeper env):=
 ⟨r.hd,by have:=r.dp;show A.depth+1+3*k+5<_;lia,by have:=r.un;show A.units+3+16*k+200<_;lia⟩
def ZZ.in1{k:Nat}{A:Bw}(r:ZZ (k+1) A):ZZ k A.in1:=
 ⟨r.hd,by have:=r.dp;show A.depth+3*k+5<_;lia,by have:=r.un;show A.units+1+16*k+200<_;lia⟩
def ZZ.depth{k:Nat}{A:Bw}(r:ZZ k A):A.depth<Jt:=by have:=r.dp;lia
def ZZ.units{k:Nat}{A:Bw}(r:ZZ k A):A.units+64<cLine:=by have:=r.un;lia
def F2:TA:=λ_ H Q=>Q [] H
def RA(ta:TE)(a:TA):TA:=λσ H Q=>ta σ H λx H1=>a σ H1 λxs H2=>Q (x::xs) H2
section
variable{X:Cx}{e:Vc}{es:List Vc}{te:TE}{t:TA}{pos:Pos}
def aD:PA X [] F2:=λ_ _ _ _ H Q I h=>Gh ⟨[],H,I,.nil,h⟩
def bN(f:PE X e te)(d:PA X es t)(c:Uz (e::es) X.env=(bd,eval e X.env)::Uz es X.env:=by rfl):PA X (e::es) (RA te t):=by intro pos aa s σ H Q I h;rw[c];show Uy _ _ (spliced ((bd,eval e X.env)::Em pos (Uz es X.env))) _ _ s;refine Fe (ZH (f aa s σ H _ I h) λu s1 ⟨x,H1,i,b,q1⟩=>?_);exact ZH (d pos aa s1 σ H1 _ i q1) λj k ⟨xs,H2,g,a,q2⟩=>⟨x::xs,H2,g,.cons b a,q2⟩
def tTup(t:TA):TE:=λσ H Q=>t σ H λxs H1=>xs.length<=sizeLine/\∀p,H1 p=bb->Q (.ref p) (upd H1 p (.tup xs))
def tLst(t:TA):TE:=λσ H Q=>t σ H λxs H1=>xs.length<=sizeLine/\∀p,H1 p=bb->Q (.ref p) (upd H1 p (.lst xs))
def dG{x1}(h:PA X es t):PE X (.Tuple es x1 pos) (tTup t):=by intro aa s σ H Q I d;refine wpAny_Tuple_spliced (ZH (h pos aa s σ H _ I d) λc s1 ⟨xs,H1,a,r,z,q⟩=>⟨by rw[<-r.length];exact z,?_⟩);have f:H1 s1.heap.objs.size=bb:=a.hok.fresh (Am _);refine⟨.ref s1.heap.objs.size,upd H1 s1.heap.objs.size (.tup xs),a.laid (t':=s1.toks) (λb u e=>Ad _ e) (Am _) ?_,rfl,q _ f⟩;exact⟨z,c,r,⟨_,Aj _ rfl,rfl,_,rfl⟩⟩
def Zr(h:PA X es t):PE X (.List es pos) (tLst t):=by intro aa s σ H Q I d;refine wpAny_List_spliced (ZH (h pos aa s σ H _ I d) λc s1 ⟨xs,H1,a,r,z,q⟩=>⟨by rw[<-r.length];exact z,?_⟩);have f:H1 s1.heap.objs.size=bb:=a.hok.fresh (Am _);refine⟨.ref s1.heap.objs.size,upd H1 s1.heap.objs.size (.lst xs),a.laid (t':=s1.toks) (λb u e=>Ad _ e) (Am _) ?_,rfl,q _ f⟩;exact⟨z,c,0,r,Aj _ rfl⟩
end
abbrev Sp:=List V->Hp->VK->XK->Prop
abbrev CXT:=List Env->Hp->Ae->XK->Uw->Ae->Prop
structure Env0(P:Aw)(w:Ve)(K:Ah)(mg:Va->Option Uw)(base:Vg)(A:Bw)(outer:List Env)(s:Ae)(H:Hp):Prop where
 frames:A.frames=ba outer
 mod:Mod K mg base
 bs:∀b o,base.get? b=ba o->s.heap.get? b=ba o/\H b=bb
 bsz:base.objs.size<=s.heap.objs.size
 funs:s.heap.FunFrames base outer
 frf:∀b∈SH outer,H b=bb
 hok:SW P w H s.heap
 bare:Mg s.gens
def CE(outer:List Env)(P:Aw)(w:Ve)(H:Hp)(s:Ae)(Q:VK)(u:Uw)(s':Ae):Prop:=
 ∃v H',s'.os=s.os/\Mg s'.gens/\Un (SH outer) [] H H' s.heap s'.heap/\SW P w H' s'.heap/\bE v u/\Q v H'
def CR(CX:CXT)(outer:List Env)(P:Aw)(w:Ve)(H:Hp)(s:Ae)(Q:VK)(E:XK)(r:Ui)(s':Ae):Prop:=
 match r with
 |.ok (.ret u)=>CE outer P w H s Q u s'
 |.ok _=>False
 |.error e=>CX outer H s E e s'
structure YO(P:Aw)(w:Ve)(K:Ah)(mg:Va->Option Uw)(base:Vg)(CX:CXT)(k:Nat)(f:Ux)(fd:Ci)(ps:List Va)(sp:Sp):Prop where
 len:∀vs H Q E,sp vs H Q E->vs.length=ps.length
 run:∀(A:Bw) (outer:List Env) (s:Ae) (H:Hp) (args:Args) (us:List Uw) (vs:List V) (Q:VK) (E:XK),ZZ k A->Env0 P w K mg base A outer s H->Pz s fd args (ps.zip us)->bL vs us->sp vs H Q E->
  Hg (Vb P w) A (.call (.ref f) args) (CR CX outer P w H s Q E) s
section
variable{X:Cx}{aa:List (Ux×Vi)}{σ:St}{H:Hp}{s s':Ae}
def cF.env0(I:cF X aa σ H s):Env0 X.prog X.w X.K X.mg X.base X.A X.stack s H:=
 ⟨I.ok.frames,I.ok.mod,I.bs,Fc I.ok.bsz I.sz,I.stack,I.stkFree,I.hok,I.bare⟩
def cF.after{Q:VK}{u:Uw}(I:cF X aa σ H s)(h:CE X.stack X.prog X.w H s Q u s'):EP X aa σ Q u s':=by obtain⟨v,H',os,a,un,e,r,q⟩:=h;obtain⟨f,g,d,t,c⟩:=s';obtain rfl:c=s.os:=os;exact⟨v,H',I.call (h':=f) (g':=g) (d':=d) (t':=t) (ch:=[]) un e a (λb z=>absurd z (by simp)),r,q⟩
end
def B6(sp:Sp)(dvs:List V)(E:XK)(t:TA):TE:=λσ H Q=>t σ H λvs H1=>sp (vs++dvs) H1 Q E
def P9(K:Ah)(fd:Ci)(ps:List Va)(ds:List Uw):Prop:=
 ∀(s:Ae) (a:List Uw),K.In s.heap->(a++ds).length=ps.length->Pz s fd ⟨a,[]⟩ (ps.zip (a++ds))
def P9.all{K:Ah}{fd:Ci}{ps:List Va}(h:∀a:List Uw,a.length=ps.length->bindArgs fd ⟨a,[]⟩=pure (ps.zip a)):P9 K fd ps []:=λs a _ hl=>by rw[Ep]at hl⊢;exact .of_eq (h a hl)
def L6(CX:CXT)(X:Cx)(E:XK):Prop:=∀(aa:List (Ux×Vi)) (σ:St) (H:Hp) (s:Ae) (e:Uw) (s':Ae),cF X aa σ H s->CX X.stack H s E e s'->X.xe e s'
section
variable{X:Cx}{CX:CXT}{k:Nat}{f C:Ux}{fd:Ci}{ps:List Va}{sp:Sp}{dvs:List V}{ds:List Uw}{E:XK}{x m:Va}{p pos aj:Pos}{e o:Vc}{es:List Vc}{ta:TE}{t:TA}
def kD{aa:List (Ux×Vi)}{σ:St}{H:Hp}{s:Ae}{Q:VK}{a:List Uw}{vs:List V}(F:YO X.prog X.w X.K X.mg X.base CX k f fd ps sp)(g:ZZ k X.A)(j:P9 X.K fd ps ds)(i:bL dvs ds)(d:L6 CX X E)(I:cF X aa σ H s)(r:bL vs a)(h:sp (vs++dvs) H Q E):Uy (Vb X.prog X.w) X.A (call (.ref f) a) (EP X aa σ Q) X.xe s:=by
 have c:bL (vs++dvs) (a++ds):=r.append i;have hl:(a++ds).length=ps.length:=by rw[<-c.length];exact F.len _ _ _ _ h
 refine Lx (Gr (F.run X.A X.stack s H ⟨a,[]⟩ (a++ds) (vs++dvs) Q E g I.env0 (j s a I.kIn hl) c h) λr s' b=>?_);cases r with
 |error e=>exact d aa σ H s e s' I b
 |ok l=>
  cases l with
  |ret u=>exact I.after b
  |next=>exact Fv b
  |brk=>exact Fv b
  |cont=>exact Fv b
def mY(F:YO X.prog X.w X.K X.mg X.base CX k f fd ps sp)(g:ZZ k X.A)(l:Gl X x)(i:X.mg x=ba (.ref f))(j:Hy X.K (.ref f)=bc)(o:P9 X.K fd ps ds)(n:bL dvs ds)(d:L6 CX X E)(u:PA X (e::es) t)(b:(x==("__debug__":Va))=bd:=by decide)(m:Uz (e::es) X.env=(bd,eval e X.env)::Uz es X.env:=by rfl)(a:(Em pos (Uz es X.env)).any (·.1)=bd:=by rfl):PE X (.Call (.Name x p) (e::es) [] pos) (B6 sp dvs E t):=by intro aa s σ H Q I h;refine Ds (WG I l i ?_ b);refine Qt (h₀:=X.base) I.ok.mod.kin j (ZH (u pos aa s σ H _ I h) λv s1 ⟨vs,H1,c,r,q⟩=>⟨c.kIn,?_⟩) m a;exact kD F g o n d c r q
end
def PK(X:Cx)(kws:List Ia)(t:TA):Prop:=
 ∀(pos:Pos) (aa:List (Ux×Vi)) (s:Ae) (σ:St) (H:Hp) (Q:List V->Hp->Prop),cF X aa σ H s->t σ H Q->Uy (Vb X.prog X.w) X.A (evalAll ((Ff pos (Cw kws X.env)).map (·.2))) (AP X aa σ Q) X.xe s
section
variable{X:Cx}{CX:CXT}{k:Nat}{f C:Ux}{fd:Ci}{ps ks:List Va}{sp:Sp}{E:XK}{x m:Va}{p pos aj ax:Pos}{e o:Vc}{es:List Vc}{kws:List Ia}{te ta:TE}{t tk:TA}{nm:Option Va}
def Xg:PK X [] F2:=λ_ _ _ _ H Q I h=>Qa ⟨[],H,I,.nil,h⟩
def BK(d:PE X e te)(c:PK X kws t):PK X (⟨nm,e,ax⟩::kws) (RA te t):=by intro pos aa s σ H Q I h;show Uy _ _ (evalAll ((do let v<-eval e X.env;Oj pos;pure v)::(Ff pos (Cw kws X.env)).map (·.2))) _ _ s;refine Oz (Aa (ZH (d aa s σ H _ I h) λu s1 ⟨x,H1,g,b,q1⟩=>Aa (Fm (Ag ?_))));exact ZH (c pos aa s1 σ H1 _ g q1) λi j ⟨xs,H2,f,a,q2⟩=>⟨x::xs,H2,f,.cons b a,q2⟩
structure OZ(K:Ah)(fd:Ci)(ps ks:List Va)(g:List Uw->List Uw->List Uw)(gV:List V->List V->List V):Prop where
 to:∀(s:Ae) (us ws:List Uw),K.In s.heap->(g us ws).length=ps.length->Pz s fd ⟨us,ks.zip ws⟩ (ps.zip (g us ws))
 rel:∀{vs:List V}{us:List Uw}{zs:List V}{ws:List Uw},bL vs us->bL zs ws->bL (gV vs zs) (g us ws)
def lw(sp:Sp)(gV:List V->List V->List V)(E:XK)(t tk:TA):TE:=λσ H Q=>t σ H λvs H1=>tk σ H1 λzs H2=>sp (gV vs zs) H2 Q E
variable{g:List Uw->List Uw->List Uw}{gV:List V->List V->List V}
def ki{aa:List (Ux×Vi)}{σ:St}{H:Hp}{s:Ae}{Q:VK}{b a:List Uw}{vs zs:List V}(F:YO X.prog X.w X.K X.mg X.base CX k f fd ps sp)(l:ZZ k X.A)(i:OZ X.K fd ps ks g gV)(j:L6 CX X E)(I:cF X aa σ H s)(r:bL vs b)(rz:bL zs a)(h:sp (gV vs zs) H Q E):Uy (Vb X.prog X.w) X.A (call (.ref f) b (ks.zip a)) (EP X aa σ Q) X.xe s:=by
 have d:=i.rel r rz;have hl:(g b a).length=ps.length:=by rw[<-d.length];exact F.len _ _ _ _ h
 refine Lx (Gr (F.run X.A X.stack s H ⟨b,ks.zip a⟩ (g b a) (gV vs zs) Q E l I.env0 (i.to s b a I.kIn hl) d h) λr s' c=>?_);cases r with
 |error e=>exact j aa σ H s e s' I c
 |ok m=>
  cases m with
  |ret u=>exact I.after c
  |next=>exact Fv c
  |brk=>exact Fv c
  |cont=>exact Fv c
def jT(F:YO X.prog X.w X.K X.mg X.base CX k f fd ps sp)(l:ZZ k X.A)(o:Gl X x)(m:X.mg x=ba (.ref f))(n:Hy X.K (.ref f)=bc)(v:OZ X.K fd ps ks g gV)(j:L6 CX X E)(y:PA X (e::es) t)(b:PK X kws tk)(z:(Ff pos (Cw kws X.env)).all (·.1.isSome)=bc:=by rfl)(c:(Ff pos (Cw kws X.env)).filterMap (·.1)=ks:=by rfl)(d:(x==("__debug__":Va))=bd:=by decide)(u:Uz (e::es) X.env=(bd,eval e X.env)::Uz es X.env:=by rfl)(a:((Em pos (Uz (e::es) X.env)).any (·.1) || (Ff pos (Cw kws X.env)).any (·.1.isNone))=bd:=by rfl):PE X (.Call (.Name x p) (e::es) kws pos) (lw sp gV E t tk):=by intro aa s σ H Q I h;refine Ds (WG I o m ?_ d);refine W.callWith_KW (h₀:=X.base) I.ok.mod.kin n z (ZH (y pos aa s σ H _ I h) λD s1 ⟨vs,H1,B,r,q⟩=>?_) a u;refine ZH (b pos aa s1 σ H1 _ B q) λC G ⟨zs,H2,i,rz,q2⟩=>⟨i.kIn,?_⟩;rw[c];exact ki F l v j i r rz q2
end
structure aS(N P:List Va)(sc:Vk):Prop where
 kind:sc.kind=.function
 co:sc.isCoroutine=bd
 gen:sc.isGenerator=bd
 nd:N.Nodup
 pre:N.take P.length=P
 par:∀x∈P,sc.names.lookup x=ba .local∨sc.names.lookup x=ba .cell
 nofree:∀y∈sc.names,y.2≠ .free
theorem JG{kindOf:Va->Option Vm}{x:Va}:∀{binds:List (Va×Uw)}{m:Va->Option Uw},(∀v,(x,v)∉binds)->bindL kindOf binds m x=m x
 |[],_,_=>rfl
 | (n,v) :: r,m,h => by
  unfold bindL;rw[JG λw hw=>h w (Ap _ hw)];split
  ·have : x ≠ n := by rintro rfl;exact h v Ax
   simp[this]
  ·rfl
theorem JE{kindOf:Va->Option Vm}{x:Va}:∀{binds:List (Va×Uw)}{m:Va->Option Uw},(∀v,(x,v)∉binds)->bindC kindOf binds m x=m x
 |[],_,_=>rfl
 | (n,v) :: r,m,h => by
  unfold bindC;rw[JE λw hw=>h w (Ap _ hw)];split
  ·rfl
  ·have : x ≠ n := by rintro rfl;exact h v Ax
   simp[this]
theorem JF{kindOf:Va->Option Vm}{x:Va}{v:Uw}:∀{P:List Va}{vs:List Uw}{i:Nat}{m:Va->Option Uw},P.Nodup->P[i]?=ba x->vs[i]?=ba v->kindOf x=ba .local->bindL kindOf (P.zip vs) m x=ba v
 |[],_,_,_,_,h,_,_=>by simp at h
 |_::_,[],_,_,_,_,h,_=>by simp at h
 |p::P,w::vs,0,m,a,h1,h2,b=>by simp at h1 h2;subst h1;subst h2;show bindL kindOf ((p,w)::P.zip vs) m p=_;unfold bindL;rw[JG λv c=>(Di.mp a).1 (Kq c).1,if_pos b];simp
 |p::P,w::vs,i+1,m,a,h1,h2,b=>by show bindL kindOf ((p,w)::P.zip vs) m x=_;unfold bindL;exact JF (i:=i) (Di.mp a).2 (by simpa using h1) (by simpa using h2) b
theorem JD{kindOf:Va->Option Vm}{x:Va}{v:Uw}:∀{P:List Va}{vs:List Uw}{i:Nat}{m:Va->Option Uw},P.Nodup->P[i]?=ba x->vs[i]?=ba v->kindOf x≠ba .local->bindC kindOf (P.zip vs) m x=ba v
 |[],_,_,_,_,h,_,_=>by simp at h
 |_::_,[],_,_,_,_,h,_=>by simp at h
 |p::P,w::vs,0,m,a,h1,h2,b=>by simp at h1 h2;subst h1;subst h2;show bindC kindOf ((p,w)::P.zip vs) m p=_;unfold bindC;rw[JE λv c=>(Di.mp a).1 (Kq c).1,if_neg b];simp
 |p::P,w::vs,i+1,m,a,h1,h2,b=>by show bindC kindOf ((p,w)::P.zip vs) m x=_;unfold bindC;exact JD (i:=i) (Di.mp a).2 (by simpa using h1) (by simpa using h2) b
def start(N:List Va)(vs:List V):St:=vs.map ba++As (N.length-vs.length) bb
noncomputable def UT(CX:CXT)(P:Aw)(w:Ve)(K:Ah)(mg:Va->Option Uw)(base:Vg)(N:List Va)(qual:Va)(scope:Vk)(f:Ux)(cd:Uw)(A:Bw)(outer:List Env)(s:Ae)(H:Hp)(E:XK):Cx where
 prog:=P
 w:=w
 K:=K
 mg:=mg
 base:=base
 A:=A.deeper (envOfC qual scope s.heap.objs.size f cd)
 N:=N
 s₀:=s
 H₀:=H
 env:=envOfC qual scope s.heap.objs.size f cd
 outer:=outer
 stack:=envOfC qual scope s.heap.objs.size f cd::outer
 ex:=[]
 calm:=bc
 fn:=λ_=>bc
 pn:=[]
 xe:=λe s'=>Uy (Vb P w) (A.deeper (envOfC qual scope s.heap.objs.size f cd)) (leaving (envOfC qual scope s.heap.objs.size f cd) e) (λ_ a=>CX outer H s E e a) (λb a=>CX outer H s E b a) s'
def EI{a:Vk}{n:Nat}{x:Va}(h:a.names.lookup x=ba .cell):∃c,(Vl n a.names []).lookup x=ba c:=by have q:=Mq a.names n [] (.inl h);exact Option.isSome_iff_exists.mp q
def JX{CX:CXT}{P:Aw}{w:Ve}{K:Ah}{mg:Va->Option Uw}{base:Vg}{N ps:List Va}{qual:Va}{scope:Vk}{f:Ux}{cd:Uw}{A:Bw}{outer:List Env}{s s1:Ae}{H:Hp}{E:XK}{o:List Uw}{vs:List V}(S:aS N ps scope)(F:A.handled=bb)(d:Env0 P w K mg base A outer s H)(hl:vs.length=ps.length)(r:bL vs o)(x:InCallC s s.heap.objs.size (bindL (envOfC qual scope s.heap.objs.size f cd).kindOf (ps.zip o) λ_=>bb) (Vl (s.heap.objs.size+1) scope.names []) (bindC (envOfC qual scope s.heap.objs.size f cd).kindOf (ps.zip o) λ_=>bb) s1):cF (UT CX P w K mg base N qual scope f cd A outer s H E) [] (start N vs) H s1:=by
 have D:ps.length<=N.length:=by have:=congrArg List.length S.pre;rw[Cn]at this;lia
 obtain⟨h1,tk,rfl,B⟩:=x.done;have g:∀b:Ux,b∉(UT CX P w K mg base N qual scope f cd A outer s H E).ex:=λb z=>absurd (show b∈([]:List Ux) from z) (by simp);refine⟨⟨d.mod,S.kind,rfl,rfl,Am _,λy z c h1 h2=>?_,λy j=>?_,λy c _ h=>?_,λ_=>F,Nw d.frames,.inr ⟨rfl,rfl⟩,λb z=>absurd z (g b),d.bs,d.bsz,λb _ _=>g b,λb z=>absurd z (g b),d.funs,d.frf⟩,rfl,d.bare,Un.kept B,⟨_,x.toInCall.ns,λi y v h1 h2 I=>?_⟩,λy c h=>⟨_,x.cell y c h⟩,d.hok.fresh (Am _),λy c h=>?_,λp m=>absurd (show p∈([]:List (Ux×Vi)) from m) (by simp),d.hok.kept B,?_⟩
 ·exact name_of_addr x.apart (Bx h1) (Bx h2)
 ·have j:scope.names.lookup y=ba .cell∨scope.names.lookup y=ba .free:=j
  rcases j with j|j
  ·exact EI j
  ·exact absurd rfl (S.nofree _ (Bx j))
 ·exact Qr (x.above y c (Bx h))
 ·have hi:i<vs.length:=by
   unfold start at h2;by_cases hi:i<vs.length
   ·exact hi
   ·rw [Cd (by simpa using hi)]at h2
    rw[Dz]at h2;split at h2<;>cases h2
  have G:vs[i]?=ba v:=by
   unfold start at h2;rw[Ar (by simpa using hi),Cg]at h2;cases e:vs[i]? with
   |none=>rw[e]at h2;cases h2
   |some a=>rw[e]at h2;cases h2;rfl
  obtain⟨u,t,C⟩:=r.get G;have m:ps[i]?=ba y:=by rw[<-S.pre,Cz (by lia)];exact h1
  have l:ps.Nodup:=by rw[<-S.pre];exact S.nd.sublist (List.take_sublist _ _)
  refine⟨u,C,?_⟩;rcases S.par y (Ew m)with k|k
  ·exact .inl ⟨k,JF l m t k⟩
  ·obtain⟨c,e⟩:=EI (n:=s.heap.objs.size+1) k
   refine .inr ⟨.inl k,c,e,?_⟩;have q:=x.cell y c e;rw[JD l m t (by show scope.names.lookup y≠_;rw[k];decide)]at q;exact q
 ·exact d.hok.fresh (Qr (x.above y c (Bx h)))
 ·unfold start
  show _=N.length;rw[Cs,Ce,Nd];lia
def Ws{CX:CXT}{P:Aw}{w:Ve}{K:Ah}{mg:Va->Option Uw}{base:Vg}{k:Nat}{f:Ux}{name qual:Va}{params:Lv}{body:List Vj}{scope:Vk}{C kV doc B a ct oc:Uw}{D od:Option Ux}{l:Array (Option Uw)}{N ps:List Va}{sp:Sp}(L:K.lookup f=ba ⟨oc,od,.func (Mr name qual params body scope C kV doc B D a ct),l⟩)(z:Rr K a qual=bc)(S:aS N ps scope)(len:∀vs H Q E,sp vs H Q E->vs.length=ps.length)(Z:∀(A:Bw) (outer:List Env) (s:Ae) (H:Hp) (vs:List V) (Q:VK) (E:XK),ZZ k (A.deeper (envOfC qual scope s.heap.objs.size f a))->sp vs H Q E->∃t,W7 (UT CX P w K mg base N qual scope f a A outer s H E) body t/\t {nx:=λ_ H'=>Q .non H',rt:=Q} (start N vs) H):YO P w K mg base CX (k+1) f (Mr name qual params body scope C kV doc B D a ct) ps sp:=by
 refine⟨len,λA outer s H args G vs Q E p i U r g=>?_⟩;have hl:=len _ _ _ _ g;have F:K.In s.heap:=i.mod.kin.keeps λb o e=>(i.bs b o e).1;have m:s.heap.NoLimit:=i.mod.nolimit.keeps λb o e=>(i.bs b o e).1;have Y:∀y∈ps.zip G,scope.names.lookup y.1=ba .local∨(scope.names.lookup y.1=ba .cell/\((Vl (s.heap.objs.size+1) scope.names []).lookup y.1).isSome=bc):=λ⟨n,v⟩ M=>by
  rcases S.par n (Kq M).1 with q|q
  ·exact .inl q
  ·exact .inr ⟨q,Mq _ _ _ (.inl q)⟩
 refine Nf p.depth (F _ _ L) rfl S.co S.gen rfl (W.codeRec_of F z) (U _ _ _ _ ?_);refine Lg S.kind Y λenv T s1 x=>?_;subst T;refine⟨m.keeps x.toInCall.keep,codeAny_func ?_⟩;obtain⟨t,O,R⟩:=Z A outer s H vs Q E (p.deeper _) g;have I:cF (UT CX P w K mg base N qual scope f a A outer s H E) [] (start N vs) H s1:=JX S p.hd i hl r x;refine Bj (O [] s1 (start N vs) H _ I R) (λX s' d=>?_) λe s' d=>d;have h:∀{c:St}{H':Hp}{v:V}{u:Uw},cF (UT CX P w K mg base N qual scope f a A outer s H E) [] c H' s'->bE v u->Q v H'->CE outer P w H s Q u s':=
  λ{c H' v u} J j q=>⟨v,H',J.os,J.bare,J.base,J.hok,j,q⟩
 cases X with
 |ret u=>
  obtain⟨v,c,H',J,j,q⟩:=d;exact h J j q
 |next=>
  obtain⟨c,H',J,q⟩:=d;exact h (v:=V.non) (u:=Value.none) J rfl q
 |brk=>
  obtain⟨_,_,_,q⟩:=d;exact Fv q
 |cont=>
  obtain⟨_,_,_,q⟩:=d;exact Fv q
section
variable{X:Cx}{x:Va}{p pos:Pos}{e:Vc}{es:List Vc}{t:TA}{id T:String}{r:List V->Hp->VK->Prop}
def tCB(r:List V->Hp->VK->Prop)(t:TA):TE:=λσ H Q=>t σ H λvs H1=>r vs H1 Q
def M5(hc:aB X (.builtin id) r)(j:Gl X x)(i:X.mg x=bb)(f:Bi x=ba (.builtin id))(l:PA X (e::es) t)(g:x≠ "__name__":=by decide)(b:(x==("__debug__":Va))=bd:=by decide)(k:Uz (e::es) X.env=(bd,eval e X.env)::Uz es X.env:=by rfl)(a:(Em pos (Uz es X.env)).any (·.1)=bd:=by rfl):PE X (.Call (.Name x p) (e::es) [] pos) (tCB r t):=by intro aa s σ H Q I h;refine Ds (WR I j i f ?_ g b);exact PyProof.Rows.callWith_builtin1 (ZH (l pos aa s σ H _ I h) λc s1 ⟨vs,H1,m,d,q1⟩=>hc aa s1 σ H1 vs c Q m d q1) k a
def WX(hc:aB X (.type T) r)(j:Gl X x)(i:X.mg x=bb)(f:Bi x=ba (.type T))(l:PA X (e::es) t)(g:x≠ "__name__":=by decide)(b:(x==("__debug__":Va))=bd:=by decide)(k:Uz (e::es) X.env=(bd,eval e X.env)::Uz es X.env:=by rfl)(a:(Em pos (Uz es X.env)).any (·.1)=bd:=by rfl):PE X (.Call (.Name x p) (e::es) [] pos) (tCB r t):=by intro aa s σ H Q I h;refine Ds (WR I j i f ?_ g b);exact Cj (ZH (l pos aa s σ H _ I h) λc s1 ⟨vs,H1,m,d,q1⟩=>hc aa s1 σ H1 vs c Q m d q1) k a
end
end L2
namespace HT
open PySem PyProof.Rows
section
variable{prog:Aw}{w:Ve}{A:Bw}{E:Uw->Ae->Prop}{s:Ae}
def zHG{t b:Ux}{vs a:List Uw}{Q:Uw->Ae->Prop}(o:IsTup s.heap t vs.toArray)(p:IsTup s.heap b a.toArray)(l:vs≠[])(h1:a=[]->Q (.ref t) s)(h2:a≠[]->Q (.ref s.heap.objs.size) {s with heap:=s.heap.push {cls:=.type "tuple",data:=.seq (vs++a).toArray}})(hsz:vs.length+a.length<=sizeLine):Uy (Vb prog w) A (Fz .Add (.ref t) (.ref b)) Q E s:=by
 obtain⟨⟨cls,dd,data,j⟩,i,hc,n,m⟩:=id o;obtain⟨⟨q,h,data2,d⟩,c,g,k,f⟩:=id p;simp only at hc m g f;subst hc m g f;have e:vs.toArray++a.toArray=(vs++a).toArray:=by simp
 by_cases hw:a=[]
 ·exact Ng ⟨_,i,rfl⟩ ⟨_,c,rfl⟩ Ms Pa Jd Im (Ie _ _)
   (tuple_addW1 t b vs.toArray a.toArray n k dd h j d (by simpa using l) (by simp[hw])) ⟨i,c,h1 hw⟩
 ·refine Ng ⟨_,i,rfl⟩ ⟨_,c,rfl⟩ Ms Pa Jd Im (Ie _ _)
   (tuple_addW2 t b vs.toArray a.toArray n k dd h j d (by simpa using l) (by simpa using hw) (by rw[Aq,Aq];exact hsz)) ⟨i,c,?_⟩
  rw[e];exact h2 hw
noncomputable def sIx(n d:Nat):Option Int->Nat
 |none=>d
 |some v=>if v<0 then(v+(n:Int)).toNat else min v.toNat n
def FU(n d:Nat):sIx n d bb=d:=rfl
def B4(n d k:Nat):sIx n d (ba (k:Int))=min k n:=by show(if(k:Int)<0 then((k:Int)+(n:Int)).toNat else min (k:Int).toNat n)=min k n;rw[if_neg (by lia),Jj]
def gO(n d:Nat)(b:d<=n)(o:Option Int):sIx n d o<=n:=by
 cases o with
 |none=>exact b
 |some v=>
  show(if v<0 then(v+(n:Int)).toNat else min v.toNat n)<=n;by_cases a:v<0
  ·rw[if_pos a];lia
  ·rw[if_neg a];exact Nat.min_le_right _ _
def AH(v:Int)(n d:Nat):(if v<0 then max (v+(n:Int)) 0 else min v (n:Int))=((sIx n d (ba v):Nat):Int):=by
 show(if v<0 then max (v+(n:Int)) 0 else min v (n:Int))=(((if v<0 then(v+(n:Int)).toNat else min v.toNat n):Nat):Int);by_cases a:v<0
 ·simp only[if_pos a];lia
 ·simp only[if_neg a];lia
def CN(lo hi:Option Int)(n:Nat):Hv lo hi 1 (n:Int)=(((sIx n 0 lo:Nat):Int),((sIx n n hi:Nat):Int)):=by
 have h1:¬((1:Int)<0):=by lia
 unfold Hv;simp only[h1,if_false];refine Prod.ext ?_ ?_
 ·cases lo with
  |none=>rfl
  |some v=>exact AH v n 0
 ·cases hi with
  |none=>rfl
  |some v=>exact AH v n n
def DK(i j:Nat):Gc (i:Int) (j:Int) 1=j-i:=by
 unfold Gc;have h1:(1:Int)>0:=by lia
 simp only[h1,if_true,Int.ediv_one];split<;>lia
def NE{v:Uw}{o:Option Int}{Q:Option Int->Ae->Prop}(p:IsPart v o)(h:Q o s):Uy (Vb prog w) A (Rs v) Q E s:=by
 cases p with
 |none=>exact slicePart_none h
 |int i t=>exact slicePart_int h
def VR{e:Ux}{d c:Uw}{lo hi:Option Int}{n:Nat}{Q:Int×Int×Nat->Ae->Prop}(g:s.heap.IsSliceOf e d c .none)(f:IsPart d lo)(pu:IsPart c hi)(h:Q (((sIx n 0 lo:Nat):Int),1,sIx n n hi-sIx n 0 lo) s):Uy (Vb prog w) A (Li (.ref e) (pure (n:Int))) Q E s:=by obtain⟨os,a,i,b⟩:=id g;unfold Li Sv;refine Aa (Aa (Du a b (x:=d) rfl (Aa (Du a b (x:=c) rfl (Aa (Du a b (x:=.none) rfl (Ag ?_)))))));refine Aa (slicePart_none ?_);show Uy _ _ (if((1:Int)==0)=bc then _ else _) _ _ s;rw[if_neg (by decide)];refine Aa (NE f (Aa (NE pu (Aa (Ag ?_)))));show Uy _ _ (match Hv lo hi 1 (n:Int)with|(lo,hi)=>pure (lo,(1:Int),Gc lo hi 1)) _ _ s;rw[CN lo hi n];show Uy _ _ (pure (((sIx n 0 lo:Nat):Int),(1:Int),Gc ((sIx n 0 lo:Nat):Int) ((sIx n n hi:Nat):Int) 1)) _ _ s;rw[DK];exact Ag h
def ph(xs:Array Uw)(i k:Nat):((Au k).filterMap λ(m:Nat)=>xs[((i:Int)+(m:Int)*1).toNat]?).toArray=((xs.toList.drop i).take k).toArray:=by
 have e:(λ(m:Nat)=>xs[((i:Int)+(m:Int)*1).toNat]?)=λm=>xs[i+m]? :=by
  funext m;have:((i:Int)+(m:Int)*1).toNat=i+m:=by lia
  rw[this]
 rw[e];have:=pick_run xs i k
 rw[List.filterMap_map]at this;have a:((λx=>xs[x]?)∘λx=>i+x)=λm=>xs[i+m]? :=rfl;rw[a]at this;rw[this]
def QV{t c:Ux}{items:Array Uw}{j i:Uw}{lo hi:Option Int}{Q:Uw->Ae->Prop}(a:IsTup s.heap t items)(k:s.heap.IsSliceOf c j i .none)(l:IsPart j lo)(pu:IsPart i hi)(hw:¬(sIx items.size 0 lo=0/\sIx items.size items.size hi=items.size))(h:Q (.ref s.heap.objs.size) {s with heap:=s.heap.push {cls:=.type "tuple",data:=.seq ((items.toList.drop (sIx items.size 0 lo)).take (sIx items.size items.size hi-sIx items.size 0 lo)).toArray}})(hsz:items.size<=sizeLine):Uy (Vb prog w) A (Mi (.ref t) (.ref c)) Q E s:=by
 have b:sizeOk (.seq ((items.toList.drop (sIx items.size 0 lo)).take (sIx items.size items.size hi-sIx items.size 0 lo)).toArray):=by show((items.toList.drop (sIx items.size 0 lo)).take (sIx items.size items.size hi-sIx items.size 0 lo)).toArray.size<=sizeLine;rw[Aq,Cn,Rb,Gu];lia
 have o:sIx items.size items.size hi<=items.size:=gO _ _ (Am _) hi;obtain⟨os,d,f,n⟩:=id k;have g:s.TypeIs (.ref c) "slice":=⟨os,d,f⟩;unfold Mi;try with_reducible refine Bv ?_
 first|refine Aa (Ag ?_)|skip
 refine Aa (Ly a.typeIs (by decide) ?_);refine Aa (De (name:=Bf "__getitem__") a.typeIs Fa
  (Dj Fa a.typeIs entry_tuple_getitem ?_ (args_tuple_getitem _ _)))
 show Uy _ _ (Lj (.ref t)>>=_) _ _ s;refine Aa (tupleItemsOf_ a ?_);refine Aa (Lo g ?_);rw[if_pos (by decide)];refine Aa (VR k l pu ?_);have e:¬((((sIx items.size 0 lo:Nat):Int)==0&&(1:Int)==1&&(sIx items.size items.size hi-sIx items.size 0 lo)==items.size)=bc):=by intro q;rw[Af,Af]at q;have q1:((sIx items.size 0 lo:Nat):Int)=0:=eq_of_beq q.1.1;have q2:sIx items.size items.size hi-sIx items.size 0 lo=items.size:=eq_of_beq q.2;exact hw ⟨by lia,by lia⟩
 show Uy _ _ (if(((sIx items.size 0 lo:Nat):Int)==0&&(1:Int)==1&&(sIx items.size items.size hi-sIx items.size 0 lo)==items.size)=bc then _ else _) _ _ s;rw[if_neg e,ph]
 first
  |exact Aa (m:=Gi _) (Cc (Ag ⟨_,rfl,Ag h⟩) b)
  |exact Aa (m:=Gi _) (Cc (Aa (Ag (Ag ⟨_,rfl,Ag h⟩))) b)
  |exact Aa (Aa (m:=Gi _) (Cc (Ag (Ag ⟨_,rfl,Ag h⟩)) b))
  |exact Aa (Aa (m:=Gi _) (Cc (Ag ⟨_,rfl,Ag h⟩) b))
end
end HT
namespace L2
open PySem PySem.Spec PyProof.Rows
abbrev TO:=St->Hp->(Option Int->Hp->Prop)->Prop
def PO(X:Cx)(e:Option Vc)(t:TO):Prop:=
 ∀(aa:List (Ux×Vi)) (s:Ae) (σ:St) (H:Hp) (Q:Option Int->Hp->Prop),cF X aa σ H s->t σ H Q->
  Uy (Vb X.prog X.w) X.A (evalPart e X.env) (λu s'=>∃o H',cF X aa σ H' s'/\IsPart u o/\Q o H') X.xe s
def eX:TO:=λ_ H Q=>Q bb H
def fS(t:TE):TO:=λσ H Q=>t σ H λx H1=>∃i,x=.int i/\Q (ba i) H1
section
variable{X:Cx}{e:Vc}{te:TE}{lo hi:Option Vc}{tl th:TO}{pos p2:Pos}
def zG9:PO X bb eX:=by intro aa s σ H Q I h;rw[evalPart_none];exact Ag ⟨bb,H,I,.none,h⟩
def lA(h:PE X e te):PO X (ba e) (fS te):=by intro aa s σ H Q I hw;rw[evalPart_some];refine ZH (h aa s σ H _ I hw) λu s1 ⟨x,H1,b,a,q1⟩=>?_;obtain⟨i,rfl,q⟩:=q1;obtain⟨t,rfl⟩:=a;exact⟨ba i,H1,b,.int i t,q⟩
def SlR(X:Cx)(r:V->Option Int->Option Int->Hp->VK->Prop):Prop:=
 ∀(aa:List (Ux×Vi)) (s:Ae) (σ:St) (H:Hp) (x:V) (v b a:Uw) (lo hi:Option Int) (c:Ux) (Q:VK),cF X aa σ H s->bE x v->s.heap.IsSliceOf c b a .none->IsPart b lo->IsPart a hi->r x lo hi H Q->
  ∃T id,typeLookup (.type T) "__getitem__"=pure (ba (.builtin id))/\s.TypeIs v T/\Uy (Vb X.prog X.w) X.A (Mi v (.ref c)) (EP X aa σ Q) X.xe s
def SlR.or{r r':V->Option Int->Option Int->Hp->VK->Prop}(h:SlR X r)(h':SlR X r'):SlR X (λx lo hi H Q=>r x lo hi H Q∨r' x lo hi H Q):=by
 intro aa s σ H x v b a lo hi c Q I d f e pu q;rcases q with q|q
 ·exact h aa s σ H x v b a lo hi c Q I d f e pu q
 ·exact h' aa s σ H x v b a lo hi c Q I d f e pu q
def tSl(r:V->Option Int->Option Int->Hp->VK->Prop)(te:TE)(tl th:TO):TE:=λσ H Q=>te σ H λx H1=>tl σ H1 λl H2=>th σ H2 λu a=>r x l u a Q
def lK{r:V->Option Int->Option Int->Hp->VK->Prop}(m:SlR X r)(o:PE X e te)(hl:PO X lo tl)(j:PO X hi th):PE X (.Subscript e (.Slice lo hi bb p2) pos) (tSl r te tl th):=by intro aa s σ H Q I h;refine Subscript_ (ZH (o aa s σ H _ I h) λv s1 ⟨x,H1,B,g,q1⟩=>?_);refine wpAny_Slice (ZH (hl aa s1 σ H1 _ B q1) λc f ⟨l,H2,z,i,q2⟩=>ZH (j aa f σ H2 _ z q2) λa s3 ⟨u,d,y,pu,q3⟩=>?_);rw[evalPart_none];refine Ag ?_;have t:cF X aa σ d {s3 with heap:=s3.heap.push {cls:=.type "slice",data:=.fields #[c,a,.none]}}:=y.kept (t':=s3.toks) λb C q=>Ad _ q;obtain⟨T,id,p,k,n⟩:=m aa {s3 with heap:=s3.heap.push {cls:=.type "slice",data:=.fields #[c,a,.none]}} σ d x v c a l u s3.heap.objs.size Q t g (Uu ..) i pu q3;show Uy (Vb X.prog X.w) X.A (subscriptTail e (.Slice lo hi bb p2) v (.ref s3.heap.objs.size)) (EP X aa σ Q) X.xe {s3 with heap:=s3.heap.push {cls:=.type "slice",data:=.fields #[c,a,.none]}};exact Tp (ops:=[.ref s3.heap.objs.size,v]) k p n (by with_unfolding_all rfl)
def EK(xs:List V)(lo hi:Option Int):List V:=(xs.drop (HT.sIx xs.length 0 lo)).take (HT.sIx xs.length xs.length hi-HT.sIx xs.length 0 lo)
def OF(xs:List V)(lo hi:Option Int):(EK xs lo hi).length<=xs.length:=by unfold EK;rw[Cn,Rb];lia
def rSlT(K:Ah):V->Option Int->Option Int->Hp->VK->Prop:=λx lo hi H Q=>∃a xs,x=.ref a/\WN K H a xs∧
 ¬(HT.sIx xs.length 0 lo=0/\HT.sIx xs.length xs.length hi=xs.length)/\∀p,H p=bb->Q (.ref p) (upd H p (.tup (EK xs lo hi)))
def zJP:SlR X (rSlT X.K):=by
 intro aa s σ H x v l k lo hi m Q I f j g pu h;obtain⟨a,xs,rfl,i,hw,q⟩:=h;cases f;obtain⟨c,r,e,hz⟩:=I.tuple i;have d:c.toArray.size=xs.length:=by rw[Aq];exact r.length.symm
 refine⟨"tuple",_,PyProof.Rows.slot_tuple_getitem.lookup,e.typeIs,?_⟩;refine HT.QV e j g pu (by rw[d];exact hw) ?_ (by rw[d];exact hz);rw[d];refine⟨.ref s.heap.objs.size,_,I.laid (t':=s.toks) (o:=.tup (EK xs lo hi)) (λb n q=>Ad _ q) (Am _) ?_,rfl,q _ (I.hok.fresh (Am _))⟩;exact⟨Fc (OF xs lo hi) hz,_,(r.drop (HT.sIx xs.length 0 lo)).take (HT.sIx xs.length xs.length hi-HT.sIx xs.length 0 lo),Ko _ _⟩
def bL.nil_iff{xs:List V}{a:List Uw}(r:bL xs a):a=[]↔xs=[]:=by
 cases r with
 |nil=>simp
 |cons _ _=>simp
end
noncomputable def ixN(n:Nat)(i:Int):Option Nat:=if 0<=i then(if i<n then ba i.toNat else bb)else if -(n:Int)<=i then ba (i+n).toNat else bb
def SQ{α:Type}(xs:List α)(i:Int):Option α:=(ixN xs.length i).bind λj=>xs[j]?
def hZ{n:Nat}{i:Int}{j:Nat}(h:ixN n i=ba j):seqIndex? i n=ba j/\j<n/\ -(n:Int)<=i/\i<n:=by
 unfold ixN at h;by_cases a:0<=i
 ·rw[if_pos a]at h
  by_cases h1:i<n
  ·rw[if_pos h1]at h
   have e:i.toNat=j:=Cv h;exact⟨by rw[seqIndex_of a h1,e],by lia,by lia,h1⟩
  ·rw[if_neg h1]at h;cases h
 ·rw[if_neg a]at h
  by_cases h1: -(n:Int)<=i
  ·rw[if_pos h1]at h
   have e:(i+n).toNat=j:=Cv h;exact⟨by rw[seqIndex_neg (by lia) h1,e],by lia,h1,by lia⟩
  ·rw[if_neg h1]at h;cases h
def GZ{α:Type}{xs:List α}{i:Int}{v:α}(h:SQ xs i=ba v):∃j,seqIndex? i xs.length=ba j/\xs[j]?=ba v/\j<xs.length/\ -(xs.length:Int)<=i/\i<xs.length:=by
 unfold SQ at h;cases e:ixN xs.length i with
 |none=>rw[e]at h;cases h
 |some j=>
  rw[e]at h;obtain⟨h1,h2,b,a⟩:=hZ e;exact⟨j,h1,h,h2,b,a⟩
def QH{α:Type}(xs:List α)(v:α):SQ (xs++[v]) (-1)=ba v:=by
 have hl:(xs++[v]).length=xs.length+1:=by simp
 have e:ixN (xs++[v]).length (-1)=ba xs.length:=by unfold ixN;rw[hl,if_neg (by decide),if_pos (by lia)];congr 1;lia
 unfold SQ;rw[e];show(xs++[v])[xs.length]?=ba v;simp
def GW(b:Vc):Prop:=∀o i,subscripted b bd o i=operate [o,i] (Mi o i)
def IxR(X:Cx)(r:R2):Prop:=
 ∀(value a:Vc) (aa:List (Ux×Vi)) (s:Ae) (σ:St) (H:Hp) (x y:V) (v u:Uw) (Q:VK),cF X aa σ H s->bE x v->bE y u->r x y H Q->
  subscripted a bd v u=operate [v,u] (Mi v u)->Uy (Vb X.prog X.w) X.A (subscriptTail value a v u) (EP X aa σ Q) X.xe s
def MtR(X:Cx)(id:String)(r:V->List V->Hp->VK->Prop):Prop:=
 ∀(aa:List (Ux×Vi)) (s:Ae) (σ:St) (H:Hp) (x:V) (xs:List V) (v:Uw) (a:List Uw) (Q:VK),cF X aa σ H s->bE x v->bL xs a->r x xs H Q->
  Uy (Vb X.prog X.w) X.A (call (.builtin id) (v::a)) (EP X aa σ Q) X.xe s
section
variable{X:Cx}{a b:Vc}{ta tb:TE}{pos:Pos}
def IxR.or{r r':R2}(h:IxR X r)(h':IxR X r'):IxR X (λx y H Q=>r x y H Q∨r' x y H Q):=by
 intro value a aa s σ H x y v u Q I c b q d;rcases q with q|q
 ·exact h value a aa s σ H x y v u Q I c b q d
 ·exact h' value a aa s σ H x y v u Q I c b q d
def mz{r:R2}(g:IxR X r)(j:PE X a ta)(i:PE X b tb)(f:GW b):PE X (.Subscript a b pos) (tOp r ta tb):=by intro aa s σ H Q I h;exact Subscript_ (binT j i I h λv u c x y H2 k e d q=>g a b aa c σ H2 x y v u Q k e d q (f _ _))
def rIxL(K:Ah):R2:=λx y H Q=>∃p xs i v,x=.ref p/\y=.int i/\X8 K H p xs/\SQ xs i=ba v/\Q v H
def rIxT(K:Ah):R2:=λx y H Q=>∃p xs i v,x=.ref p/\y=.int i/\WN K H p xs/\SQ xs i=ba v/\Q v H
def rIxS:R2:=λx y H Q=>∃z i c,x=.str z/\y=.int i/\z.length<=sizeLine/\SQ z.cps.toList i=ba c/\Q (.str ⟨#[c]⟩) H
def zH2:IxR X (rIxL X.K):=by
 intro value b aa s σ H x y v u Q I n m h g;obtain⟨p,xs,i,z,rfl,rfl,o,A,q⟩:=h;cases n;obtain⟨t,rfl⟩:=m;obtain⟨e,r,d,hz⟩:=I.list o;obtain⟨j,h1,h2,E,C,B⟩:=GZ A;obtain⟨w,l,c⟩:=r.get h2;have hl:=r.length;have D:=MW;have a:EP X aa σ Q w s:=⟨z,H,I,c,q⟩;by_cases k:0<=i
 ·have f:i.toNat=j:=by rw[seqIndex_of k B]at h1;exact Cv h1
  exact item_listR d.isList k (by lia) (by rw[f];simpa using l) a g
 ·have f:(i+(e.toArray.size:Int)).toNat=j:=by rw[seqIndex_neg (by lia) C]at h1;rw[Aq,<- hl];exact Cv h1
  exact My (x:=w) d.isList.typeIs slot_list_getitem.lookup
   (wpAny_getItem_list_neg (Q:=λr s'=>r=w/\EP X aa σ Q r s') d.isList (by lia) (by rw[Aq]<;>lia) (by lia) (by rw[f];simpa using l) ⟨rfl,a⟩) g
def zL9:IxR X (rIxT X.K):=by
 intro value a aa s σ H x y v u Q I f e h k;obtain⟨p,xs,i,z,rfl,rfl,l,m,q⟩:=h;cases f;obtain⟨t,rfl⟩:=e;obtain⟨g,r,d,hz⟩:=I.tuple l;obtain⟨j,h1,h2,C,B,A⟩:=GZ m;obtain⟨w,n,b⟩:=r.get h2;have hl:=r.length;have o:=MW;have c:EP X aa σ Q w s:=⟨z,H,I,b,q⟩;exact My (x:=w) d.typeIs slot_tuple_getitem.lookup
  (getItem_tuple (j:=j) (Q:=λr s'=>r=w/\EP X aa σ Q r s') d (by lia) (by lia) (by rw[Aq,<-hl];exact h1) (by simpa using n) ⟨rfl,c⟩) k
def lH:IxR X rIxS:=by
 intro value a aa s σ H x y v u Q I d b h e;obtain⟨z,i,c,rfl,rfl,hz,f,q⟩:=h;obtain⟨t,rfl⟩:=d;obtain⟨t',rfl⟩:=b;obtain⟨j,h1,h2,o,k,g⟩:=GZ f;have hl:z.cps.toList.length=z.length:=by simp[Str.length]
 rw[hl]at h1 k g;have n:=MW;exact Tp (typeIs_str s z t) slot_str_getitem.lookup (getItem_str (c:=c) (by have m:decide (i< -(2 ^ 63:Int))=bd:=decide_eq_false (by lia);have l:decide (i≥2 ^ 63)=bd:=decide_eq_false (by lia);rw[m,l,Tq]) (by rw[h1];simpa using h2) ⟨.str ⟨#[c]⟩,H,I.tok _,⟨_,rfl⟩,q⟩) e
def rIx(K:Ah):R2:=λx y H Q=>rIxL K x y H Q∨rIxT K x y H Q∨rIxS x y H Q
def zLB:IxR X (rIx X.K):=zH2.or (zL9.or lH)
def IJ(lo hi:Option Int)(n:Nat):(Jk lo hi bb n).1=((HT.sIx n 0 lo:Nat):Int)/\(Jk lo hi bb n).2.1=((HT.sIx n n hi:Nat):Int)/\(Jk lo hi bb n).2.2=1:=by
 refine⟨?_,?_,rfl⟩
 ·cases lo with
  |none=>simp[Jk,HT.sIx]
  |some i=>
   simp only[Jk,HT.sIx,Rc,show(1:Int)>0 by decide,if_true];by_cases h:i<0
   ·simp only[h,if_true]<;>lia
   ·simp only[h,if_false]<;>lia
 ·cases hi with
  |none=>simp[Jk,HT.sIx]
  |some i=>
   simp only[Jk,HT.sIx,Rc,show(1:Int)>0 by decide,if_true];by_cases h:i<0
   ·simp only[h,if_true]<;>lia
   ·simp only[h,if_false]<;>lia
def LU(a:List Uw)(lo hi:Option Int):slicePick a.toArray lo hi bb=((a.drop (HT.sIx a.length 0 lo)).take (HT.sIx a.length a.length hi-HT.sIx a.length 0 lo)).toArray:=by obtain⟨h1,h2,b⟩:=IJ lo hi a.toArray.size;unfold slicePick;rw[h1,h2,b];simp only[sliceRange_one,pick_run,Aq]<;>rfl
def rSlL(K:Ah):V->Option Int->Option Int->Hp->VK->Prop:=λx lo hi H Q=>∃a xs,x=.ref a/\X8 K H a xs/\∀p,H p=bb->Q (.ref p) (upd H p (.lst (EK xs lo hi)))
def eC:SlR X (rSlL X.K):=by intro aa s σ H x v l k lo hi m Q I d i e pu h;obtain⟨a,xs,rfl,g,q⟩:=h;cases d;obtain⟨f,r,c,hz⟩:=I.list g;have j:=r.length;refine⟨"list",_,slot_list_getitem.lookup,c.isList.typeIs,?_⟩;refine wpAny_getItem_list_slice c.isList i e pu .none (by simp) ?_ (by rw[Aq]<;>lia);rw[LU,<-j];refine⟨.ref s.heap.objs.size,_,I.laid (t':=s.toks) (o:=.lst (EK xs lo hi)) (λb n q=>Ad _ q) (Am _) ?_,rfl,q _ (I.hok.fresh (Am _))⟩;exact⟨Fc (OF xs lo hi) hz,_,0,(r.drop (HT.sIx xs.length 0 lo)).take (HT.sIx xs.length xs.length hi-HT.sIx xs.length 0 lo),Aj _ rfl⟩
def G3:aB X (.builtin "len") (λxs H Q=>∃p ys,xs=[.ref p]/\(X8 X.K H p ys∨WN X.K H p ys)/\Q (.int ys.length) H):=by
 intro aa s σ H xs f Q I r h;obtain⟨p,ys,rfl,a,q⟩:=h;obtain⟨u,rfl,e⟩:=U0 r;cases e;have g:=MW;rcases a with a|a
 ·obtain⟨c,r',b,hz⟩:=I.list a
  have d:=r'.length;exact Calls.call_len_list b.isList (by simp only[Aq]<;>lia) ⟨.int ys.length,H,I.tok _,⟨s.toks+1,by rw[Aq,d]⟩,q⟩
 ·obtain⟨c,r',b,hz⟩:=I.tuple a
  have d:=r'.length;exact len_tuple b (by simp only[Aq]<;>lia) ⟨.int ys.length,H,I.tok _,⟨s.toks+1,by rw[Aq,d]⟩,q⟩
def G4:aB X (.builtin "len") (λxs H Q=>∃z,xs=[.str z]/\z.length<=sizeLine/\Q (.int z.length) H):=by intro aa s σ H xs a Q I r h;obtain⟨z,rfl,hz,q⟩:=h;obtain⟨u,rfl,t,rfl⟩:=U0 r;have b:=MW;exact len_str (by lia) ⟨.int z.length,H,I.tok _,⟨_,rfl⟩,q⟩
def aB.or{f:Uw}{r r':List V->Hp->VK->Prop}(h:aB X f r)(h':aB X f r'):aB X f (λxs H Q=>r xs H Q∨r' xs H Q):=by
 intro aa s σ H xs a Q I b q;rcases q with q|q
 ·exact h aa s σ H xs a Q I b q
 ·exact h' aa s σ H xs a Q I b q
def G5:aB X (.type "list") (λxs H Q=>∃p ys,xs=[.ref p]/\(X8 X.K H p ys∨WN X.K H p ys)/\∀l,H l=bb->Q (.ref l) (upd H l (.lst ys))):=by
 intro aa s σ H xs t Q I r h;obtain⟨p,ys,rfl,d,q⟩:=h;obtain⟨u,rfl,k⟩:=U0 r;cases k;have f:∀(a:List Uw),bL ys a->ys.length<=sizeLine->∀(h':Vg) (c:Nat),(∀b o',s.heap.get? b=ba o'->h'.get? b=ba o')->
   h'.get? s.heap.objs.size=ba {cls:=.type "list",dict:=bb,data:=.seq a.toArray c,slots:= #[]}->EP X aa σ Q (.ref s.heap.objs.size) {s with heap:=h'}:=λa r' hz h' c kp e=>
  ⟨.ref s.heap.objs.size,_,I.laid (t':=s.toks) kp (Am _) (show Z7 X.prog X.w _ h' _ (.lst ys) from⟨hz,a,c,r',e⟩),rfl,q _ (I.hok.fresh (Am _))⟩
 rcases d with d|d
 ·obtain⟨a,r',g,hz⟩:=I.list d
  have m:=r'.length;obtain⟨o,i,hc,n,j⟩:=g.isList;exact call_list_seq p (.inl rfl) i hc j (λh' c kp e=>f a r' hz h' c kp e) (by simp only[Aq]<;>lia)
 ·obtain⟨a,r',g,hz⟩:=I.tuple d
  have m:=r'.length;obtain⟨o,i,hc,n,j⟩:=g;exact call_list_seq p (.inr rfl) i hc j (λh' c kp e=>f a r' hz h' c kp e) (by simp only[Aq]<;>lia)
def LM:aB X (.type "tuple") (λxs H Q=>∃p ys,xs=[.ref p]/\((X8 X.K H p ys/\∀l,H l=bb->Q (.ref l) (upd H l (.tup ys)))∨(WN X.K H p ys/\Q (.ref p) H))):=by
 intro aa s σ H xs j Q I r h;obtain⟨p,ys,rfl,h⟩:=h;obtain⟨u,rfl,g⟩:=U0 r;cases g;rcases h with⟨d,q⟩|⟨d,q⟩
 ·obtain⟨a,r',c,hz⟩:=I.list d
  have k:=r'.length;refine call_tuple_list c.isList (λh' kp=>?_) (by simp only[Aq]<;>lia);have f:cF X aa σ H {s with heap:=h'}:=I.kept (t':=s.toks) kp;have i:cF X aa σ (upd H h'.objs.size (.tup ys)) {s with heap:=h'.push {cls:=.type "tuple",data:=.seq a.toArray}}:=
   f.laid (t':=s.toks) (λb o e=>Ad _ e) (Am _) (show Z7 X.prog X.w _ _ _ (.tup ys) from⟨hz,a,r',Ko _ _⟩)
  exact⟨.ref h'.objs.size,_,i,rfl,q _ (f.hok.fresh (Am _))⟩
 ·obtain⟨a,r',c,hz⟩:=I.tuple d
  exact call_tuple_same c ⟨.ref p,H,I,rfl,q⟩
def tyV(K:Ah)(T:String)(x:V)(H:Hp):Prop:=match x with
 |.str _=>T= "str"
 |.int _=>T= "int"
 | .ref p => (T = "list" /\ ∃ xs,X8 K H p xs) ∨ (T = "tuple" /\ ∃ o,K.lookup p = ba o /\ o.cls = .type "tuple" /\ o.dict = bb) ∨
   (T= "dict" /\((∃kvs,H p=ba (.dK kvs))∨∃kvs,H p=ba (.dT kvs)))∨(T= "set" /\∃S n,H p=ba (.set S n))
 |_=>False
def l3{aa:List (Ux×Vi)}{σ:St}{H:Hp}{s:Ae}{T:String}{x:V}{v:Uw}(I:cF X aa σ H s)(r:bE x v)(ty:tyV X.K T x H):s.TypeIs v T/\∀a,v=.ref a->∃h,s.heap.get? a=ba h/\h.dict=bb:=by
 cases x with
 |str z=>
  obtain⟨t,rfl⟩:=r;cases (show T= "str" from ty);exact⟨typeIs_str s z t,λ_ e=>nomatch e⟩
 |int i=>
  obtain⟨t,rfl⟩:=r;cases (show T= "int" from ty);exact⟨Nu s i t,λ_ e=>nomatch e⟩
 |ref p=>
  cases r;rcases ty with⟨rfl,xs,k⟩|⟨rfl,o,b,hc,d⟩|⟨rfl,b⟩|⟨rfl,S,n,b⟩
  ·obtain⟨j,_,g,_⟩:=I.list k
   refine⟨g.isList.typeIs,λa e=>?_⟩;cases e;obtain⟨o,n,e,c,d,_⟩:=g;exact⟨o,e,d⟩
  ·refine ⟨⟨o,I.kIn p o b,hc⟩,λa e => ?_⟩
   cases e;exact⟨o,I.kIn _ o b,d⟩
  ·have z: ∃o,s.heap.get? p=ba o/\o.ExactDict:=by
    rcases b with⟨kvs,b⟩|⟨kvs,b⟩
    ·obtain⟨_,_,_,_,o,_,_,e,ex,_⟩:=I.hok p _ b
     exact⟨o,e,ex⟩
    ·obtain⟨_,_,_,_,o,_,_,e,ex,_⟩:=I.hok p _ b
     exact⟨o,e,ex⟩
   obtain⟨o,e,ex⟩:=z;refine⟨⟨o,e,ex.1⟩,λa f=>?_⟩;cases f;exact⟨o,e,ex.2.1⟩
  ·obtain⟨o,_,_,_,e,ex,_⟩:=I.hok p _ b
   refine⟨⟨o,e,ex.1⟩,λa f=>?_⟩;cases f;exact⟨o,e,ex.2.1⟩
 |_=>exact Fv ty
def tBM(K:Ah)(T:String)(r:V->List V->Hp->VK->Prop)(to:TE)(t:TA):TE:=λσ H Q=>to σ H λx H1=>tyV K T x H1/\t σ H1 λxs H2=>r x xs H2 Q
variable{o e:Vc}{es:List Vc}{to:TE}{t:TA}{name:Va}{aj af:Pos}{T id:String}{r:V->List V->Hp->VK->Prop}
def ma(pa:PlainAttrs T)(slot:Slot T name id)(a:Qu (.builtin id)=pure (.type "method_descriptor"))(l:MtR X id r)(k:PE X o to)(m:PA X (e::es) t)(p:Hn o name X.env (eval o X.env)=eval o X.env:=by rfl)(n:((Em af (Uz (e::es) X.env)).all (λx=> !x.1)&&(Ff af (Cw [] X.env)).all (λx=>x.1.isSome)&&decide ((e::es).length+([]:List Ia).length+(if([]:List Ia).isEmpty then 0 else 1)<30))=bc:=by rfl)(q:(aj.endLine==af.line)=bc:=by rfl)(j:Uz (e::es) X.env=(bd,eval e X.env)::Uz es X.env:=by rfl)(u:(Em af (Uz es X.env)).any (·.1)=bd:=by rfl):PE X (.Call (.Attribute o name aj) (e::es) [] af) (tBM X.K T r to t):=by intro aa s σ H Q I h;refine wpAny_Call_method_late p n q rfl (ZH (k aa s σ H _ I h) λv s1 ⟨x,H1,d,b,ty,q1⟩=>?_);obtain⟨h1,h2⟩:=l3 d b ty;refine⟨T,id,pa,slot,a,h1,h2,?_⟩;have c:=m af aa s1 σ H1 _ d q1;rw[j]at c⊢;refine Hh (by show(bd || (Em af (Uz es X.env)).any (·.1))=bd;rw[u]<;>rfl) (Ge ?_);exact ZH c λf g ⟨vs,H2,w,i,q2⟩=>l aa g σ H2 x vs v f Q w b i q2
end
def MtM(X:Cx)(id:String)(r:V->List V->Hp->VK->Prop):Prop:=
 ∀(aa:List (Ux×Vi)) (s:Ae) (σ:St) (H:Hp) (x:V) (xs:List V) (v:Uw) (a:List Uw) (Q:VK),cF X aa σ H s->bE x v->bL xs a->r x xs H Q->
  Uy (Vb X.prog X.w) X.A (call (.builtin id) (v::a)) (EP X aa σ Q) X.xe s
theorem bL.one:∀{x:V}{a:List Uw},bL [x] a->∃u,a=[u]/\bE x u
 |_,_,.cons r .nil=>⟨_,rfl,r⟩
theorem bL.eraseIdx:∀{xs:List V}{a:List Uw}(i:Nat),bL xs a->bL (xs.eraseIdx i) (a.eraseIdx i)
 |_,_,_,.nil=>.nil
 |_,_,0,.cons _ t=>t
 |_,_,i+1,.cons r t=>.cons r (bL.eraseIdx i t)
section
variable{X:Cx}{aa:List (Ux×Vi)}{σ:St}{H:Hp}{s:Ae}{l b:Ux}{xs ys zs:List V}
def cF.lset{a its':List Uw}{n:Nat}{f:Array Uw->Array Uw}{t':Nat}(I:cF X aa σ H s)(h:H l=ba (.lst xs))(e:s.heap.get? l=ba {cls:=.type "list",data:=.seq a.toArray n})(d:f a.toArray=its'.toArray)(b:bL ys its')(hz:ys.length<=sizeLine):cF X aa σ (upd H l (.lst ys)) {s with heap:=s.heap.update l (Dt f),toks:=t'}:=by have q:=PySem.IsL.update e f;rw[d]at q;refine I.write (x:=l) (e:=l) (by rw[h];exact trivial) (.inl rfl) (λi u g c=>(Heap.get?_update_other s.heap (Dt f) (Ea g)).trans c) ⟨_,q⟩ ?_;exact⟨hz,its',_,b,q⟩
def cF.lnew{a:List Uw}{t':Nat}(I:cF X aa σ H s)(b:bL ys a)(hz:ys.length<=sizeLine):cF X aa σ (upd H s.heap.objs.size (.lst ys)) {s with heap:=s.heap.push {cls:=.type "list",data:=.seq a.toArray},toks:=t'}:=
 I.laid (λ_ _ q=>Ad _ q) (Am _) ⟨hz,a,0,b,Aj _ rfl⟩
def cF.fresh(I:cF X aa σ H s):H s.heap.objs.size=bb:=I.hok.fresh (Am _)
def cF.lstM(I:cF X aa σ H s)(b:H l=ba (.lst xs)):xs.length<=sizeLine/\∃(a:List Uw) (n:Nat),bL xs a/\xs.length=a.length/\s.heap.get? l=ba {cls:=.type "list",data:=.seq a.toArray n}:=by obtain⟨z,a,n,r,e⟩:=I.hok l _ b;exact⟨z,a,n,r,r.length,e⟩
def oM{n:Nat}(h:n<=sizeLine):Gj n=bd:=by unfold Gj;exact decide_eq_false (by lia)
end
section
variable{X:Cx}
def BR:V->List V->Hp->VK->Prop:=λx vs H Q=>∃l xs y,x=.ref l/\vs=[y]/\H l=ba (.lst xs)/\xs.length<sizeLine/\Q .non (upd H l (.lst (xs++[y])))
def Z9:MtM X "list.append" BR:=by intro aa s σ H x vs v g Q I c d h;obtain⟨l,xs,y,rfl,rfl,b,hz,q⟩:=h;cases c;obtain⟨u,rfl,f⟩:=d.one;obtain⟨z,a,n,r,hl,e⟩:=I.lstM b;refine Gk F.slot_list_append ⟨_,e,rfl⟩ F.entry_list_append (F.args_list_append_2 _ _) (PySem.list_append l a.toArray n u (by rw[Aq];lia)) ⟨e,?_⟩;refine⟨.non,_,I.lset (its':=a++[u]) b e (by simp) (r.append (.cons f .nil)) ?_,rfl,q⟩;rw[Cs,Jx];lia
end
section
variable{prog:Aw}{w:Ve}{A:Bw}{E:Uw->Ae->Prop}{s:Ae}
set_option maxRecDepth 100000 in
end
section
variable{κ:Type}[DecidableEq κ]
noncomputable def SS(kvs:List (κ×V))(k:κ):Option V:=(kvs.find? λa=>decide (a.1=k)).map (·.2)
noncomputable def XD(kvs:List (κ×V))(k:κ)(v:V):List (κ×V):=
 if(kvs.any λa=>decide (a.1=k))=bc then kvs.map (λa=>if a.1=k then(a.1,v)else a)else kvs++[(k,v)]
def RB{p:κ×V}{r:List (κ×V)}{k:κ}(e:p.1=k):SS (p::r) k=ba p.2:=by simp[SS,Hl,e]
def UN{p:κ×V}{r:List (κ×V)}{k:κ}(e:¬p.1=k):SS (p::r) k=SS r k:=by simp[SS,Hl,e]
theorem NF(k:κ):∀kvs:List (κ×V),(kvs.any λa=>decide (a.1=k))=(SS kvs k).isSome
 |[]=>rfl
 |p::r=>by
  rw[Ho];by_cases e:p.1=k
  ·simp only[RB e,decide_eq_true e,Bool.true_or,Pb]
  ·rw[UN e,decide_eq_false e,Tr];exact NF k r
def OQ(kvs:List (κ×V))(k:κ)(v:V):(XD kvs k v).length<=kvs.length+1:=by
 unfold XD;split
 ·rw[Ce];lia
 ·rw[Cs,Bu,Nh];lia
def jX{kvs:List (κ×V)}{k:κ}(v:V)(h:SS kvs k=bb):XD kvs k v=kvs++[(k,v)]:=by unfold XD;rw[NF,h];exact if_neg (by decide)
def O0.isSome_eq{o:Option V}{u:Option Uw}(r:O0 o u):o.isSome=u.isSome:=by
 cases o with
 |none=>cases u with
  |none=>rfl
  |some _=>exact(show False from r).elim
 |some _=>cases u with
  |none=>exact(show False from r).elim
  |some _=>rfl
def O0.getD{o:Option V}{u:Option Uw}{d:V}{d':Uw}(r:O0 o u)(a:bE d d'):bE (o.getD d) (u.getD d'):=by
 cases o with
 |none=>cases u with
  |none=>exact a
  |some _=>exact(show False from r).elim
 |some _=>cases u with
  |none=>exact(show False from r).elim
  |some _=>exact r
def KV.val{kvs:List (κ×V)}{vs:List (κ×Uw)}(r:KV kvs vs)(k:κ):O0 (SS kvs k) (Qb vs k):=by
 unfold KV at r;induction r with
 |nil=>exact True.intro
 | @cons p q ps qs h t c=>
  obtain⟨h1,h2⟩:=h;by_cases e:p.1=k
  ·have a:q.1=k:=h1.symm.trans e
   have b:Qb (q::qs) k=ba q.2:=by simp[Qb,Hl,a]
   rw[RB e,b];exact h2
  ·have a : ¬ q.1 = k := λz => e (h1.trans z)
   have b:Qb (q::qs) k=Qb qs k:=by simp[Qb,Hl,a]
   rw[UN e,b];exact c
def KV.any{kvs:List (κ×V)}{vs:List (κ×Uw)}(r:KV kvs vs)(k:κ):(kvs.any λa=>decide (a.1=k))=vs.any λa=>decide (a.1=k):=by
 unfold KV at r;induction r with
 |nil=>rfl
 |cons h t b=>rw[Ho,Ho,b,h.1]
def KV.repl{kvs:List (κ×V)}{vs:List (κ×Uw)}(r:KV kvs vs)(k:κ){y:V}{u:Uw}(b:bE y u):KV (kvs.map λa=>if a.1=k then(a.1,y)else a) (vs.map λa=>if a.1=k then(a.1,u)else a):=by
 unfold KV at r⊢;induction r with
 |nil=>exact .nil
 | @cons p q ps qs h t c=>
  rw[Bg,Bg];refine .cons ?_ c;obtain⟨h1,h2⟩:=h;by_cases e:p.1=k
  ·rw[if_pos e,if_pos (h1.symm.trans e)];exact⟨h1,b⟩
  ·rw[if_neg e,if_neg (λz=>e (h1.trans z))];exact⟨h1,h2⟩
def KV.put{kvs:List (κ×V)}{vs:List (κ×Uw)}(r:KV kvs vs)(k:κ){y:V}{u:Uw}(a:bE y u):KV (XD kvs k y) (Uj vs k u):=by
 unfold XD Uj;rw[r.any k];by_cases e:(vs.any λb=>decide (b.1=k))=bc
 ·rw[if_pos e,if_pos e];exact r.repl k a
 ·rw[if_neg e,if_neg e];exact Us r ⟨rfl,a⟩
def KV.length{kvs:List (κ×V)}{vs:List (κ×Uw)}(r:KV kvs vs):kvs.length=vs.length:=Ox r
end
def J0{P:Aw}{w:Ve}{k:aK}{u:Uw}(r:bE (kV k) u):(aT P w).is k u=bc:=by
 cases k with
 |inl i=>obtain⟨t,e⟩:=(show∃t,u=Rv i t from r);subst e;exact E8 P w i t
 |inr x=>obtain⟨t,e⟩:=(show∃t,u=Nc x t from r);subst e;exact E9 P w x t
theorem JZ{P:Aw}{w:Ve}:∀{ks:List aK}{a:List Uw},bL (ks.map kV) a->ItemsAre (aT P w) ks a
 |[],_,r=>by rw[Ey]at r;cases r;exact .nil
 |k::ks,_,r=>by
  rw[Bg]at r;cases r with
  |cons h t=>exact .cons (J0 h) (JZ t)
abbrev KT(H:Hp):List (List aK×V)->List (List aK×Ux×Uw)->Prop:=Paired λp q=>p.1=q.1/\H q.2.1=ba (.tup (p.1.map kV))/\bE p.2 q.2.2
def KT.val{H:Hp}{kvs:List (List aK×V)}{xs:List (List aK×Ux×Uw)}(r:KT H kvs xs)(k:List aK):O0 (SS kvs k) ((atKey xs k).map (·.2)):=by
 induction r with
 |nil=>exact True.intro
 | @cons p q ps qs h t c=>
  obtain⟨h1,_,h2⟩:=h;by_cases e:p.1=k
  ·have a:q.1=k:=h1.symm.trans e
   have b:atKey (q::qs) k=ba q.2:=by simp[atKey,Hl,a]
   rw[RB e,b];exact h2
  ·have a : ¬ q.1 = k := λz => e (h1.trans z)
   have b:atKey (q::qs) k=atKey qs k:=by simp[atKey,Hl,a]
   rw[UN e,b];exact c
def KT.repl{H:Hp}{kvs:List (List aK×V)}{xs:List (List aK×Ux×Uw)}(r:KT H kvs xs)(k:List aK){y:V}{u:Uw}(b:bE y u):KT H (kvs.map λa=>if a.1=k then(a.1,y)else a) (xs.map (putAt k u)):=by
 induction r with
 |nil=>exact .nil
 | @cons p q ps qs h t c=>
  rw[Bg,Bg];refine .cons ?_ c;obtain⟨h1,h2,d⟩:=h;unfold putAt;by_cases e:p.1=k
  ·rw[if_pos e,if_pos (h1.symm.trans e)];exact⟨h1,h2,b⟩
  ·rw[if_neg e,if_neg (λz=>e (h1.trans z))];exact⟨h1,h2,d⟩
def KT.put{H:Hp}{kvs:List (List aK×V)}{xs:List (List aK×Ux×Uw)}(r:KT H kvs xs)(k:List aK){b:Ux}{y:V}{u:Uw}(d:H b=ba (.tup (k.map kV)))(a:bE y u):KT H (XD kvs k y) (storedH xs k b u):=by
 have e:(kvs.any λc=>decide (c.1=k))=(atKey xs k).isSome:=by rw[NF,(r.val k).isSome_eq,Option.isSome_map]
 unfold XD storedH;rw[e];by_cases q:(atKey xs k).isSome=bc
 ·rw[if_pos q,if_pos q];exact r.repl k a
 ·rw[if_neg q,if_neg q];exact Us r ⟨rfl,d,a⟩
def KT.keeps{H H':Hp}{kvs:List (List aK×V)}{xs:List (List aK×Ux×Uw)}(r:KT H kvs xs)(a:∀b ys,H b=ba (.tup ys)->H' b=ba (.tup ys)):KT H' kvs xs:=
 Paired.mapP r λ_ _ z=>⟨z.1,a _ _ z.2.1,z.2.2⟩
section
variable{P:Aw}{w:Ve}{H:Hp}{h:Vg}{a:Ux}
def Xk{u:HO}(ok:SW P w H h)(e:Rd H a u):Z7 P w H h a u:=e.ok ok
def JM{kvs:List (aK×V)}(ok:SW P w H h)(e:Rd H a (.dK kvs)):kvs.length<=sizeLine/\(a==Hb)=bd/\∃vs,KV kvs vs/\h.DictOf (aT P w) a vs:=
 show Z7 P w H h a (.dK kvs) from Xk ok e
def Yx{kvs:List (aK×V)}(ok:SW P w H h)(e:H a=ba (.dK kvs)):kvs.length<=sizeLine/\(a==Hb)=bd/\∃vs,KV kvs vs/\h.DictOf (aT P w) a vs:=JM ok (.inl e)
def MV{ks:List aK}(ok:SW P w H h)(e:H a=ba (.tup (ks.map kV))):(tupleKind (aT P w)).is h ks a:=by obtain⟨_,b,r,o,h1,h2,n,c⟩:=(show Z7 P w H h a (.tup (ks.map kV)) from ok a _ e);exact⟨o,b.toArray,n,h1,h2,c,by simpa using JZ r⟩
def JO{kvs:List (List aK×V)}(ok:SW P w H h)(e:Rd H a (.dT kvs)):kvs.length<=sizeLine/\(a==Hb)=bd∧ ∃xs,KT H kvs xs/\h.DictOfH (tupleKind (aT P w)) a xs:=by
 obtain⟨z,y,xs,r,o,es,ep,h1,h2,i,g,f⟩:=(show Z7 P w H h a (.dT kvs) from Xk ok e);refine⟨z,y,xs,r,o,es,ep,h1,h2,i,g,λx b=>?_,f⟩;have all:∀{l:List (List aK×V)}{m:List (List aK×Ux×Uw)},KT H l m->∀x∈m,(tupleKind (aT P w)).is h x.1 x.2.1:=by
  intro l m q;induction q with
  |nil=>intro x b;exact nomatch b
  | @cons p q ps qs c t d=>
   intro x b;rcases Ak.mp b with e|b
   ·subst e
    exact MV ok (by rw[<-c.1];exact c.2.1)
   ·exact d x b
 exact all r x b
def eR{kvs:List (List aK×V)}(ok:SW P w H h)(e:H a=ba (.dT kvs)):kvs.length<=sizeLine/\(a==Hb)=bd∧ ∃xs,KT H kvs xs/\h.DictOfH (tupleKind (aT P w)) a xs:=JO ok (.inl e)
end
def OW(H:Hp)(a:Ux)(y:V)(r:Option V):Prop:=
 (∃kvs k,Rd H a (.dK kvs)/\y=kV k/\r=SS kvs k)∨∃kvs k b,Rd H a (.dT kvs)/\y=.ref b/\H b=ba (.tup (k.map kV))/\r=SS kvs k
def DPut(H:Hp)(a:Ux)(y v:V)(H':Hp):Prop:=
 (∃kvs k,H a=ba (.dK kvs)/\y=kV k/\kvs.length<sizeLine/\H'=upd H a (.dK (XD kvs k v)))∨
 ∃kvs k b,H a=ba (.dT kvs)/\y=.ref b/\H b=ba (.tup (k.map kV))/\kvs.length<sizeLine/\H'=upd H a (.dT (XD kvs k v))
def OW.k{H:Hp}{a:Ux}{kvs:List (aK×V)}{k:aK}(e:H a=ba (.dK kvs)):OW H a (kV k) (SS kvs k):=.inl ⟨kvs,k,.inl e,rfl,rfl⟩
def DPut.k{H:Hp}{a:Ux}{kvs:List (aK×V)}{k:aK}{v:V}(e:H a=ba (.dK kvs))(hl:kvs.length<sizeLine):DPut H a (kV k) v (upd H a (.dK (XD kvs k v))):=.inl ⟨kvs,k,e,rfl,hl,rfl⟩
section
variable{X:Cx}{aa:List (Ux×Vi)}{σ:St}{H:Hp}{s:Ae}{a:Ux}{y v:V}{u r:Uw}{o:Option V}{A:Bw}{E:Uw->Ae->Prop}
def cF.big(I:cF X aa σ H s):Hb<s.heap.objs.size:=by have h:Vd<s.heap.objs.size:=(I.mod.glob.keeps I.bk).lt;exact Qv (by decide) h
def iQ{Q:Uw->Ae->Prop}(n:A.units+1<cLine)(I:cF X aa σ H s)(g:OW H a y (ba v))(m:bE y u)(h:∀f s',cF X aa σ H s'->bE v f->Q f s'):Uy (Vb X.prog X.w) A (Mi (.ref a) u) Q E s:=by
 rcases g with⟨kvs,k,e,j,l⟩|⟨kvs,k,b,e,j,t,l⟩
 ·subst j
  obtain⟨z,r,vs,d,dd⟩:=JM I.hok e;obtain⟨f,hw,c⟩:=O0.some_of (v:=v) (o:=Qb vs k) (by rw[l];exact d.val k);exact wpAny_getItem_of (J0 m) dd.mapOf hw (h f _ (I.tok _) c)
 ·subst j
  cases (show u=Br b from m);obtain⟨z,r,xs,d,dd⟩:=JO I.hok e;obtain⟨f,hw,c⟩:=O0.some_of (v:=v) (o:=(atKey xs k).map (·.2)) (by rw[l];exact d.val k);obtain⟨p,q,i⟩:=Ao.mp hw;refine wpAny_getItem_heap (Io n) (MV I.hok t) dd q ?_;rw[i];exact h f _ (I.tok _) c
def AI{h':Vg}{t':Nat}{c:HO}(I:cF X aa σ H s)(d:Mut (H a))(f:Fn a s.heap h')(g:∃q,h'.get? a=ba q)(new:Z7 X.prog X.w (upd H a c) h' a c):cF X aa σ (upd H a c) {s with heap:=h',toks:=t'}:=
 I.write (x:=a) (e:=a) d (.inl rfl) (λb q h z=>(f.2 b h).trans z) g new
def Xz{P:Aw}{w:Ve}{H':Hp}{h':Vg}{kvs:List (aK×V)}{vs:List (aK×Uw)}(z:kvs.length<=sizeLine)(c:(a==Hb)=bd)(b:KV kvs vs)(dd:h'.DictOf (aT P w) a vs):Z7 P w H' h' a (.dK kvs):=⟨z,c,vs,b,dd⟩
def og{H':Hp}{Q:Unit->Ae->Prop}(C:A.units+1<cLine)(I:cF X aa σ H s)(g:DPut H a y v H')(p:bE y u)(t:bE v r)(h:∀s',cF X aa σ H' s'->Q () s'):Uy (Vb X.prog X.w) A (setItem (.ref a) u r) Q E s:=by
 rcases g with⟨kvs,k,e,n,l,o⟩|⟨kvs,k,b,e,n,B,l,o⟩
 ·subst n o
  obtain⟨z,m,vs,d,dd⟩:=Yx I.hok e;have hz:vs.length<=sizeLine:=by rw[<-d.length];exact z
  have hl:(XD kvs k v).length<=sizeLine:=by have:=OQ kvs k v;lia
  refine wpAny_setItem_pairs (hsz:=hz) (J0 p) dd λh' f j=>h _ ?_;have D:∃q,h'.get? a=ba q:=let ⟨q,_,_,i,_⟩:=f;⟨q,i⟩
  exact AI I (by rw[e];exact True.intro) j D (Xz hl m (d.put k t) f)
 ·subst n o
  cases (show u=Br b from p);obtain⟨z,m,xs,d,dd⟩:=eR I.hok e;have hz:xs.length<=sizeLine:=by rw[<-Ox d];exact z
  have hl:(XD kvs k v).length<=sizeLine:=by have:=OQ kvs k v;lia
  refine wpAny_setItem_heap (hsz:=hz) (Io C) (MV I.hok B) dd λh' f j=>h _ ?_;obtain⟨q,es,ep,i,h2,J,G,_,F⟩:=f;refine AI I (by rw[e];exact True.intro) j ⟨q,i⟩ ⟨hl,m,_,(d.put k B t).keeps λc ys x=>?_,q,es,ep,i,h2,J,G,F⟩;rw[bV (lE x e (λz=>nomatch z))];exact x
end
def EL{X:Cx}{aa:List (Ux×Vi)}{σ:St}{H:Hp}{s:Ae}{a:Ux}{y:V}{o:Option V}(I:cF X aa σ H s)(g:OW H a y o):s.TypeIs (.ref a) "dict":=by
 rcases g with⟨kvs,k,e,_,_⟩|⟨kvs,k,b,e,_,_,_⟩
 ·obtain⟨_,_,vs,_,dd⟩:=JM I.hok e
  exact dd.typeIs
 ·obtain⟨_,_,xs,_,dd⟩:=JO I.hok e
  exact dd.typeIs
def mx(td ty tv:TE):TS:=λD σ H=>tv σ H λv H1=>td σ H1 λx H2=>ty σ H2 λy c=>∃a b,x=.ref a/\DPut c a y v b/\D.nx σ b
section
variable{X:Cx}{o i e value:Vc}{pos c9 cq:Pos}{td ty tv:TE}
def oq(j:X.A.units+1<cLine)(l:PE X o td)(hi:PE X i ty)(f:PE X value tv)(k:Hj value (ba (.Subscript o i c9)) pos.line X.env=pure bd):PS X (.Assign [.Subscript o i c9] value pos) (mx td ty tv):=by intro aa s σ H D I h;refine wpAny_Assign_Subscript (ZH (f aa s σ H _ I h) λr s1 ⟨v,H1,q,e,q1⟩=>ZH (l aa s1 σ H1 _ q q1) λu b ⟨x,H2,p,d,q2⟩=>ZH (hi aa b σ H2 _ p q2) λw s3 ⟨y,z,n,c,a,t,ex,g,q3⟩=>?_) k;subst ex;obtain rfl:u=Br a:=d;exact og j n g c e λs4 m=>⟨σ,t,m,q3⟩
end
def oQ{P:Aw}{w:Ve}{H:Hp}(h:Vg)(a:Hb<h.objs.size):Z7 P w H (h.push {cls:=.type "dict",data:=.dict #[]}) h.objs.size (.dK []):=
 ⟨Df _,beq_eq_false_iff_ne.mpr (Ea (Bb a)),[],.nil,Sc h⟩
def lJ:TE:=λ_ H Q=>∀p,H p=bb->Q (.ref p) (upd H p (.dK []))
section
variable{X:Cx}{pos:Pos}
def zDF:PE X (.Dict [] [] pos) lJ:=λaa s σ H Q I h=>
 wpAny_Dict_empty ⟨.ref s.heap.objs.size,_,I.laid (a:=s.heap.objs.size) (o:=.dK []) (t':=s.toks) (λ_ _ q=>Ad _ q) (Am _) (oQ s.heap I.big),rfl,h _ (I.hok.fresh (Am _))⟩
end
def MY(kvs more:List (aK×V)):List (aK×V):=more.foldl (λacc a=>XD acc a.1 a.2) kvs
def KV.merge:∀{more:List (aK×V)}{a:List (aK×Uw)}{kvs:List (aK×V)}{vs:List (aK×Uw)},KV more a->KV kvs vs->KV (MY kvs more) (merged vs a):=by
 intro more a kvs vs r;unfold KV at r;induction r generalizing kvs vs with
 |nil=>intro q;exact q
 | @cons p q ps qs h t c=>
  intro b;have e:KV (XD kvs p.1 p.2) (Uj vs q.1 q.2):=by
   have:=b.put p.1 h.2
   rw[<-h.1];exact this
  exact c e
structure M1(X:Cx)(o:Vc)(m:Va)(aj:Pos)(e:Vc)(af:Pos):Prop where
 base:Hn o m X.env (eval o X.env)=eval o X.env
 few:((Em af (Uz [e] X.env)).all (λx=> !x.1)&&(Ff af (Cw [] X.env)).all (λx=>x.1.isSome)
  && decide (([e]:List Vc).length+([]:List Ia).length+(if([]:List Ia).isEmpty then 0 else 1)<30))=bc
 line:(aj.endLine==af.line)=bc
 trees:Em af (Uz [e] X.env)=[(bd,eval e X.env)]
structure M2(X:Cx)(o:Vc)(m:Va)(aj:Pos)(e f:Vc)(af:Pos):Prop where
 base:Hn o m X.env (eval o X.env)=eval o X.env
 few:((Em af (Uz [e,f] X.env)).all (λx=> !x.1)&&(Ff af (Cw [] X.env)).all (λx=>x.1.isSome)
  && decide (([e,f]:List Vc).length+([]:List Ia).length+(if([]:List Ia).isEmpty then 0 else 1)<30))=bc
 line:(aj.endLine==af.line)=bc
 trees:Em af (Uz [e,f] X.env)=[(bd,eval e X.env),(bd,eval f X.env)]
def IsD(H:Hp)(a:Ux):Prop:=(∃kvs,Rd H a (.dK kvs))∨∃kvs,Rd H a (.dT kvs)
def Zg{X:Cx}{aa:List (Ux×Vi)}{σ:St}{H:Hp}{s:Ae}{a:Ux}(I:cF X aa σ H s)(d:IsD H a):s.TypeIs (.ref a) "dict" /\(∀b,Br a=.ref b->∃c,s.heap.get? b=ba c/\c.dict=bb)/\(a==Hb)=bd:=by
 rcases d with⟨kvs,e⟩|⟨kvs,e⟩
 ·obtain⟨_,f,vs,_,dd⟩:=JM I.hok e
  refine⟨dd.typeIs,λb q=>?_,f⟩;cases q;obtain⟨c,_,_,h1,h2,_⟩:=dd;exact⟨c,h1,h2.2.1⟩
 ·obtain⟨_,f,xs,_,dd⟩:=JO I.hok e
  refine⟨dd.typeIs,λb q=>?_,f⟩;cases q;obtain⟨c,_,_,h1,h2,_⟩:=dd;exact⟨c,h1,h2.2.1⟩
section
variable{X:Cx}{aa:List (Ux×Vi)}{σ:St}{H:Hp}{s:Ae}{a:Ux}{y d:V}{u r:Uw}{o:Option V}{A:Bw}{E:Uw->Ae->Prop}
def ls{Q:Uw->Ae->Prop}(m:A.units+1<cLine)(I:cF X aa σ H s)(g:OW H a y o)(j:bE y u)(h:∀i s',cF X aa σ H s'->bE (o.getD .non) i->Q i s'):Uy (Vb X.prog X.w) A (call (.builtin "dict.get") [.ref a,u]) Q E s:=by
 rcases g with⟨kvs,k,e,f,l⟩|⟨kvs,k,b,e,f,n,l⟩
 ·subst f
  obtain⟨z,d,vs,c,dd⟩:=JM I.hok e;refine Ni Ek dd.typeIs Ft (Ip _ _) (meets_dict_get (aT X.prog X.w) a (J0 j) d) ⟨_,dd.mapOf,h _ _ (I.tok _) ?_⟩;rw[l];exact(c.val k).getD rfl
 ·subst f
  cases (show u=Br b from j);obtain⟨z,d,xs,c,dd⟩:=JO I.hok e;refine Ni Ek dd.typeIs Ft (Ip _ _) (meetsH_dict_get (tupleKind (aT X.prog X.w)) a b d) ⟨Io m,k,xs,MV I.hok n,dd,h _ _ (I.tok _) ?_⟩;rw[l];exact(c.val k).getD rfl
def jS{Q:Uw->Ae->Prop}(p:A.units+1<cLine)(I:cF X aa σ H s)(g:OW H a y o)(m:bE y u)(n:bE d r)(h:∀j s',cF X aa σ H s'->bE (o.getD d) j->Q j s'):Uy (Vb X.prog X.w) A (call (.builtin "dict.get") [.ref a,u,r]) Q E s:=by
 rcases g with⟨kvs,k,e,i,l⟩|⟨kvs,k,b,e,i,q,l⟩
 ·subst i
  obtain⟨z,f,vs,c,dd⟩:=JM I.hok e;refine Ni Ek dd.typeIs Ft (Mj _ _ _) (meets_dict_get_default (aT X.prog X.w) a (J0 m) f r) ⟨_,dd.mapOf,h _ _ (I.tok _) ?_⟩;rw[l];exact(c.val k).getD n
 ·subst i
  cases (show u=Br b from m);obtain⟨z,f,xs,c,dd⟩:=JO I.hok e;refine Ni Ek dd.typeIs Ft (Mj _ _ _) (meetsH_dict_get_default (tupleKind (aT X.prog X.w)) a b f r) ⟨Io p,k,xs,MV I.hok q,dd,h _ _ (I.tok _) ?_⟩;rw[l];exact(c.val k).getD n
end
def ln(td ty tx:TE):TE:=λσ H Q=>td σ H λx H1=>∃a,x=.ref a/\IsD H1 a/\ty σ H1 λy H2=>tx σ H2 λz b=>∃o,OW b a y o/\Q (o.getD z) b
section
variable{X:Cx}{o e f:Vc}{aj af:Pos}{td ty tx:TE}
def gK(p:X.A.units+1<cLine)(q:PE X o td)(t:PE X e ty)(r:PE X f tx)(m:M2 X o "get" aj e f af):PE X (.Call (.Attribute o "get" aj) [e,f] [] af) (ln td ty tx):=by
 intro aa s σ H Q I h;refine Qc m.base m.few m.line Mk Ek Nj (ZH (q aa s σ H _ I h) λu s1 ⟨x,H1,c,n,a,ex,d,q1⟩=>?_);subst ex;obtain rfl:u=Br a:=n;obtain⟨j,i,_⟩:=Zg c d;refine⟨j,i,?_⟩;rw[m.trees];refine Hh rfl (Ge (Fe (ZH (t aa s1 σ H1 _ c q1) λF k ⟨y,H2,B,l,q2⟩=>
  Fe (ZH (r aa k σ H2 _ B q2) λG s3 ⟨z,C,w,rz,E,g,q3⟩=>Gh ?_))))
 exact jS p w g l rz λD s4 v b=>⟨_,C,v,b,q3⟩
end
end L2
namespace Att
open PySem PySem.W PySem.Calls PyProof.Rows
def N3{P:Lm}{h:Vg}:∀(ns:List Int) (vs:List Uw),WellAll P h vs (ns.map WData.int)->Ts vs ns:=by
 intro ns;induction ns with
 |nil=>
  intro vs w;rw[Ey]at w;cases w;exact .nil
 |cons n ns c=>
  intro vs w;rw[Bg]at w;cases w with
  |cons a b=>
   cases a;exact .cons _ _ (c _ b)
def lr{l:OpenLaw}{n:Nat}(p:l.most=ba n){P:Lm}{h:Vg}{args:List WData}{b:List Uw}(c:l.row.toRowW.claim.pre args=bc)(g:WellAll P h b args):∃a vs ns,b=[Br a]/\args=[WData.list (ns.map WData.int)]/\h.get? a=ba {cls:=.type "list",data:=.seq vs.toArray}/\Ts vs ns/\ns.length<=n:=by
 have i:WShape.hasAll [] args [.list .int]=bc:=(pre_splitW c).1;have hc:l.pre.holds [] {args:=args}=bc:=(pre_splitW c).2;obtain⟨d,r,rfl,h1,h2⟩:=hasAllW_cons i;obtain rfl:=hasAllW_nil h2;obtain⟨xs,rfl,s⟩:=hasW_list h1;obtain⟨ns,rfl⟩:=items_int s;have u:ns.length<=n:=by
  unfold OpenLaw.pre at hc;have f:(WTm.not (.lt (.lit (.int (n:Int))) (.len (.arg 0)))).holds [] {args:=[.list (ns.map .int)]}=bc:=by have f:=(holds_andW hc).1;rw[p]at f;exact f
  have e:=condW_of f (w_not (w_lt w_lit (w_len_list (w_arg rfl))));rw[Ce]at e;refine Nat.le_of_not_lt λq=>?_;have m:(n:Int)<((ns.length:Nat):Int):=by lia
  first
   |(rw[decide_eq_true m]at e;exact absurd e (by decide))
   |(simp at e;lia)
 cases g with
 |cons k j=>
  cases j;cases k with
  |list o t=>exact⟨_,_,ns,rfl,rfl,o,N3 ns _ t,u⟩
def mR(l:OpenLaw)(args:List WData):l.row.toRowW.claim.post args (.bool bc) args=bc:=
 postW_of (r:=l.row.toRowW) (X:=(bc==bc))
  (show Uv [] (.bool bc) .bool=bc by first|rfl|decide|simp[Uv,WShape.arms,WShape.armsAll])
  (show(WTm.eq .res (.lit (.bool bc))).value [] {args:=args,res:=ba (.bool bc),after:=args}=ba (.bool (bc==bc)) from w_eq_bool (w_res rfl) w_lit) rfl
def ED{l:OpenLaw}{n:Nat}{q:Aw}{loose:List Va}{XP:(Va->Option Uw)->Vg->Prop}{YP:Ve->Vg->Prop}{d:DefRec}(z:l.most=ba n)(m:d.params.defaults=[])(call:∀(w:Ve) (s₀ b:Ae) (mg i:Va->Option Uw) (fa:Ux) (o:Vi) (h cd doc:Uw) (a:Ux) (vs:List Uw) (ns:List Int),Ground q loose [] XP w s₀ mg i b.heap->YP w b.heap->b.heap.get? fa=ba o->o.data=.func (docDef d.name d.params d.body d.scope h cd doc)->b.heap.CodeRec cd d.name->mg d.name=ba (.ref fa)->b.heap.get? a=ba {cls:=.type "list",data:=.seq vs.toArray}->Ts vs ns->ns.length<=n->b.gens= #[]->Hg (Vb l.prog w) Qd (.call (.ref fa) ⟨[.ref a],[]⟩) (λr s'=>r=.ok (.ret (.bool bc))/\OldK b.heap s'.heap/\s'.os=b.os/\Mg s'.gens) b):WalkO q loose XP YP l.row.toRowW d [] (λf vs=>PySem.call f vs):=by intro w s₀ b mg i G Y fa o h cd doc H kV y D p u k C args s as e t v j B;obtain rfl:H=.none:=Dflts.none u m;obtain rfl:kV=.none:=Dflts.noKw u;obtain⟨a,vs,ns,rfl,rfl,g,c,I⟩:=lr z e j;refine enter_call (Gr (call w s₀ b mg i fa o h cd doc a vs ns G Y y (fd_plain D) p k g c I C) λr s' x=>?_);obtain⟨rfl,h2,F,E⟩:=x;exact⟨.inl ⟨.bool bc,.bool bc,[],rfl,λ_=>rfl,.bool bc,mR l _,λ_=>⟨Qe,λ_ A=>(nomatch A)⟩⟩,h2,F,E⟩
end Att
namespace L2
open PySem PySem.Spec PyProof.Rows
theorem K8:∀{vs:List Uw}{ns:List Int},Ts vs ns->bL (ns.map V.int) vs
 |_,_,.nil=>.nil
 |_,_,.cons n t h=>.cons ⟨t,rfl⟩ (K8 h)
def Y0(s:Vj):Lv:=match s with
 |.FunctionDef _ a _ _ _ _ _ _ _ _=>a
 |_=>{posonlyargs:=[],args:=[],vararg:=bb,kwonlyargs:=[],kw_defaults:=[],kwarg:=bb,defaults:=[]}
def aY(s:Vj):List Vj:=match s with
 |.FunctionDef _ _ b _ _ _ _ _ _ _=>b
 |_=>[]
def cL(s:Vj):Vk:=match s with
 |.FunctionDef _ _ _ _ _ _ a _ _ _=>a
 |_=>{kind:=.function,names:=[],isGenerator:=bd,isCoroutine:=bd}
abbrev CX0:CXT:=λ_ _ _ _ _ _=>False
abbrev E0:XK:=λ_ _ _=>False
def Xy{X:Cx}:L6 CX0 X E0:=λ_ _ _ _ _ _ _ h=>h.elim
structure SO(K:Ah)(x qual:Va)(st:Vj)(f:Ux)(fd:Ci):Prop where
 ex:∃(oc:Uw) (od:Option Ux) (kV doc pm:Uw) (an:Option Ux) (cdv ct:Uw) (osl:Array (Option Uw)),
  fd=Mr x qual (Y0 st) (aY st) (cL st) .none kV doc pm an cdv ct/\K.lookup f=ba ⟨oc,od,.func fd,osl⟩/\Rr K cdv qual=bc
 kp:Hy K (.ref f)=bc
section
variable{P:Aw}{w:Ve}{K:Ah}{mg:Va->Option Uw}{base:Vg}
def SO.ok{x qual:Va}{st:Vj}{f:Ux}{fd:Ci}{N ps:List Va}{k:Nat}{sp:Sp}(F:SO K x qual st f fd)(S:aS N ps (cL st))(len:∀vs H Q E,sp vs H Q E->vs.length=ps.length)(i:∀(a:Uw) (A:Bw) (outer:List Env) (s:Ae) (H:Hp) (vs:List V) (Q:VK) (E:XK),ZZ k (A.deeper (envOfC qual (cL st) s.heap.objs.size f a))->sp vs H Q E->∃t,W7 (UT CX0 P w K mg base N qual (cL st) f a A outer s H E).nox (aY st) t/\t {nx:=λ_ H'=>Q .non H',rt:=Q} (start N vs) H):YO P w K mg base CX0 (k+1) f fd ps sp:=by obtain⟨oc,od,kV,doc,j,l,a,ct,d,rfl,e,c⟩:=F.ex;refine Ws e c S len λA outer s H vs Q E g b=>?_;obtain⟨t,h,q⟩:=i a A outer s H vs Q E g b;exact⟨t,h.nox,q⟩
def SO.binds{x qual:Va}{st:Vj}{f:Ux}{fd:Ci}{ps:List Va}(F:SO K x qual st f fd)(h:∀(kV doc c:Uw) (d:Option Ux) (a ct:Uw) (b:List Uw),b.length=ps.length->bindArgs (Mr x qual (Y0 st) (aY st) (cL st) .none kV doc c d a ct) ⟨b,[]⟩=pure (ps.zip b)):P9 K fd ps []:=by obtain⟨oc,od,kV,doc,c,d,a,ct,e,rfl,i,g⟩:=F.ex;exact .all (h kV doc c d a ct)
def PH{x qual:Va}{st:Vj}{f:Ux}{oc:Uw}{od e:Option Ux}{b:Array (Option Uw)}{kV doc d a ct:Uw}(l:K.lookup f=ba ⟨oc,od,.func (Mr x qual (Y0 st) (aY st) (cL st) .none kV doc d e a ct),b⟩)(c:Rr K a qual=bc)(k:Hy K (.ref f)=bc):SO K x qual st f (Mr x qual (Y0 st) (aY st) (cL st) .none kV doc d e a ct):=⟨⟨oc,od,kV,doc,d,e,a,ct,b,rfl,l,c⟩,k⟩
end
def Wt{A:Bw}{k:Nat}(a:ZZ k A):A.units+1<cLine:=Nat.lt_of_le_of_lt (Nat.add_le_add_left (by decide:1<=64) _) a.units
section
variable{X:Cx}
def pv(i:Nat){x:Va}{pos:Pos}(d:X.N[i]?=ba x:=by rfl)(b:Vis X.env.scope x:=by first|exact Ez rfl|exact Dg (Ez rfl)|exact Dg (Dg rfl))(c:(x==("__debug__":Va))=bd:=by decide)(a:(x==("__classdict__":Va))=bd:=by decide):PE X (.Name x pos) (LV i):=DI d b c a
end
def PP{A B:Prop}(h:B):if bd=bc then A else B:=by rw[if_neg Cr];exact h
def PQ{A B:Prop}(h:A):if bc=bc then A else B:=by rw[if_pos rfl];exact h
def bF(H H':Hp):Prop:=∀b o,H b=ba o->H' b=ba o
def bF.refl(H:Hp):bF H H:=λ_ _ h=>h
def bF.trans{H H1 H2:Hp}(a:bF H H1)(b:bF H1 H2):bF H H2:=λc o h=>b c o (a c o h)
def bF.seq{K:Ah}{H H':Hp}{a:Ux}{xs:List V}(e:bF H H')(h:X8 K H a xs):X8 K H' a xs:=by
 rcases h with(h|⟨o,h⟩)|h
 ·exact .inl (.inl (e _ _ h))
 ·exact .inl (.inr ⟨o,e _ _ h⟩)
 ·exact .inr h
theorem G7{env:Env}{f:Va×Vm->List (Va×Ux)->Vo (ForInStep (List (Va×Ux)))}(i:∀n k r,f (n,k) r=if(k==Bq)=bc then(cellOf env n>>=λc=>pure (Ed ((n,c)::r)))else pure (Ed r)):∀(names:List (Va×Vm)) (b:List (Va×Ux)),(∀y∈names,y.2=.free->∃c,env.cells.lookup y.1=ba c)->∃cl,forIn names b f=(pure cl:Vo (List (Va×Ux)))/\(∀x c,cl.lookup x=ba c->b.lookup x=ba c∨env.cells.lookup x=ba c)∧(∀x c,b.lookup x=ba c->∃g,cl.lookup x=ba g)/\∀x,(x,Bq)∈names->∃c,cl.lookup x=ba c
 |[],b,_=>⟨b,rfl,λ_ _ e=>.inl e,λ_ c e=>⟨c,e⟩,λ_ h=>nomatch h⟩
 | (n,k) :: r,b,h => by
  have p:∀y∈r,y.2=.free->∃c,env.cells.lookup y.1=ba c:=λy s=>h y (Ap _ s);by_cases j:k=.free
  ·subst j
   obtain⟨c,hc⟩:=h (n,.free) Ax rfl;have hc:env.cells.lookup n=ba c:=hc;obtain⟨cl,o,m,d,l⟩:=G7 i r ((n,c)::b) p;refine⟨cl,?_,λx g e=>?_,λx g e=>?_,λx a=>?_⟩
   ·rw [Kr,i,if_pos (show (Bq == Bq) = bc by decide)]
    have u:cellOf env n=pure c:=by unfold cellOf;rw[hc]
    rw[u,pure_bind,pure_bind];exact o
   ·rcases m x g e with q|q
    ·by_cases a:x=n
     ·subst a
      rw[El]at q;cases q;exact .inr hc
     ·rw[Co,beq_eq_false_iff_ne.mpr a]at q
      exact .inl q
    ·exact .inr q
   ·by_cases a:x=n
    ·subst a
     exact d x c (El ..)
    ·refine d x g ?_
     rw[Co,beq_eq_false_iff_ne.mpr a];exact e
   ·rcases Ak.mp a with q|q
    ·cases q
     exact d n c (El ..)
    ·exact l x q
  ·obtain⟨cl,o,m,d,l⟩:=G7 i r b p
   refine⟨cl,?_,m,d,λx a=>?_⟩
   ·have t : ¬ (k == Bq) = bc := by simpa using j
    rw[Kr,i,if_neg t,pure_bind];exact o
   ·rcases Ak.mp a with q|q
    ·cases q
     exact absurd rfl j
    ·exact l x q
def G8{env:Env}{scope:Vk}(h:∀y∈scope.names,y.2=.free->∃c,env.cells.lookup y.1=ba c):∃cl,closureFor scope env=pure cl/\(∀x c,cl.lookup x=ba c->env.cells.lookup x=ba c)/\∀x,(x,Bq)∈scope.names->∃c,cl.lookup x=ba c:=by
 simp only[closureFor];obtain⟨cl,a,d,_,b⟩:=G7 (env:=env) (f:=λx r=>match x with
  |(name,kind)=>if(kind==Bq)=bc then(cellOf env name>>=λc=>pure (Ed ((name,c)::r)))else pure (Ed r)) (λ_ _ _=>rfl) scope.names [] h
 refine⟨cl,?_,λx c e=>?_,b⟩
 ·first
   |exact a
   |(refine Eq.trans (congrArg (λm=>m>>=pure) a) ?_;exact pure_bind _ _)
 ·rcases d x c e with q|q
  ·cases q
  ·exact q
def Y6(ix:List Nat)(σ:St):St:=ix.map λi=>(σ[i]?).join
def PTs(Y:Cx)(ifs:List Vc)(tt:TT):Prop:=
 ∀(aa:List (Ux×Vi)) (s:Ae) (σ:St) (H:Hp) (Q:Bool->Hp->Prop),cF Y aa σ H s->tt σ H Q->
  Uy (Vb Y.prog Y.w) Y.A (forIn ifs bc λc r=>if r=bc then do let ok<-isTrue c Y.env (eval c Y.env);pure (Ed ok)else pure (Ed r)) (TP Y aa σ Q) Y.xe s
def tYes:TT:=λ_ H Q=>Q bc H
def lc{Y:Cx}:PTs Y [] tYes:=λ_ _ _ H _ I h=>wpAny_tests_nil ⟨H,I,h⟩
def mO{Y:Cx}{c:Vc}{tt:TT}(h:PT Y c tt):PTs Y [c] tt:=λaa s σ H Q I hw=>wpAny_tests_one (h aa s σ H Q I hw)
structure Blk(Y:Cx)(tg:Vc)(ifs:List Vc)(elt:Vc)(g:TG)(tt:TT)(te:TE):Prop where
 tg:PG Y tg g
 ts:PTs Y ifs tt
 el:PE Y elt te
section
variable{X:Cx}{aa:List (Ux×Vi)}{σ:St}{H H':Hp}{s s1 s':Ae}{h'':Vg}
def cF.offNew{a:St}{H1:Hp}(d:cF X aa σ H1 s1)(i:cF X aa a H' s')(h:H' s1.heap.objs.size=bb)(f:∀b o,b≠s1.heap.objs.size->s'.heap.get? b=ba o->h''.get? b=ba o):cF X aa a H' {s' with heap:=h''}:=
 i.turned (t':=s'.toks) (it:=s1.heap.objs.size) f h (Ic d.lt) (.inr d.sz)
  (λx c e z => by
   obtain⟨v,q⟩:=d.cell x c e;have:=q.lt
   rw[z]at this;exact Cq _ this)
  λp g z=>by
   have:=An (d.pin p g).1
   rw[z]at this;exact Cq _ this
end
abbrev TM:=St->Hp->(St->Hp->Prop)->Prop
inductive Wb(D:Ux)(o0:HO)(ix:List Nat)(nl:Nat)(J:It)(g:TG)(tt:TT)(tm:Ux->TM)(σ:St)(H0:Hp)(Q:Hp->Prop):Prop
 |mk (W:Nat->Nat->Hp->Prop) (m:Nat) (h0:W 0 m (upd H0 D o0)) (h1:∀i m H1,W i m H1->(J.stop i H1/\Q H1)∨
  (J.go i H1/\ ∃N:Hp->Prop,(∀H',N H'-> ∃m',m'<m/\W (i+1) m' H')∧
   ∀x H2,J.yld i H1 x H2->g x (Y6 ix σ++As nl bb) H2 λσ2 H3=>σ2.take ix.length=Y6 ix σ∧
    tt σ2 H3 λb H4=>if b=bc then tm D σ2 H4 (λσ' H'=>σ'.take ix.length=Y6 ix σ/\N H')else N H4)):Wb D o0 ix nl J g tt tm σ H0 Q
def tmL(te:TE)(D:Ux):TM:=λσ H N=>te σ H λv a=>∃acc,a D=ba (.lst acc)/\acc.length<sizeLine/\N σ (upd a D (.lst (acc++[v])))
theorem Q5{env:Env}{x:Va}:∀{l:List (Va×Vm)},l.lookup x=ba .free->(l.map λ(n,k)=>if(k==Bq&&env.scope.kind== .function&&env.kindOf n==ba .cell)then(n,Cm)else(n,k)).lookup x=ba .cell∨(l.map λ(n,k)=>if(k==Bq&&env.scope.kind== .function&&env.kindOf n==ba .cell)then(n,Cm)else(n,k)).lookup x=ba .free
 |[],h=>by cases h
 | (n,k) :: r,h => by
  show Om x ((if(k==Bq&&env.scope.kind== .function&&env.kindOf n==ba .cell)=bc then(n,Cm)else(n,k))::_)=ba .cell∨Om x ((if(k==Bq&&env.scope.kind== .function&&env.kindOf n==ba .cell)=bc then(n,Cm)else(n,k))::_)=ba .free;by_cases c:x=n
  ·subst c
   rw[El]at h;cases h;by_cases hc:(Bq==Bq&&env.scope.kind== .function&&env.kindOf x==ba .cell)=bc
   ·left
    rw[if_pos hc,El]
   ·right
    rw[if_neg hc,El]
  ·have a:(x==n)=bd:=beq_eq_false_iff_ne.mpr c
   simp only[Co,a]at h;have b:=Q5 (env:=env) h;by_cases hc:(k==Bq&&env.scope.kind== .function&&env.kindOf n==ba .cell)=bc
   ·rw[if_pos hc]
    simp only[Co,a];exact b
   ·rw[if_neg hc]
    simp only[Co,a];exact b
def IL(ix:List Nat)(nl:Nat)(wi:TI)(g:TG)(tt:TT)(tm:Ux->TM):TE:=λσ H Q=>wi σ H λJ H0=>∀D,H0 D=bb->Wb D (.lst []) ix nl J g tt tm σ H0 λH'=>Q (.ref D) H'
abbrev Wn(ix:List Nat)(nl:Nat)(wi:TI)(g:TG)(tt:TT)(te:TE):TE:=IL ix nl wi g tt (tmL te)
mutual
inductive Dp(K:Ah)(H:Hp):V->Oe->Prop
 |non:Dp K H .non .none
 |bl (b:Bool):Dp K H (.bl b) (.bool b)
 |int (i:Int):Dp K H (.int i) (.int i)
 |str (x:Va):Dp K H (.str x) (.str x)
 |lst {a:Ux}{xs:List V}{ds:List Oe}:X8 K H a xs->LZ K H xs ds->Dp K H (.ref a) (.list ds)
 |tup {a:Ux}{xs:List V}{ds:List Oe}:WN K H a xs->LZ K H xs ds->Dp K H (.ref a) (.tuple ds)
inductive LZ(K:Ah)(H:Hp):List V->List Oe->Prop
 |nil:LZ K H [] []
 |cons {v:V}{vs:List V}{d:Oe}{ds:List Oe}:Dp K H v d->LZ K H vs ds->LZ K H (v::vs) (d::ds)
end
section
variable{X:Cx}{aa:List (Ux×Vi)}{σ:St}{H:Hp}{s:Ae}
mutual
theorem cF.reads(I:cF X aa σ H s):∀{v:V}{d:Oe}{u:Uw},Dp X.K H v d->bE v u->∃as,Reads s.heap u d as
 |_,_,_,.non,r=>by cases r;exact⟨_,.none⟩
 |_,_,_,.bl b,r=>by cases r;exact⟨_,.bool b⟩
 |_,_,_,.int i,r=>by obtain⟨t,rfl⟩:=r;exact⟨_,.int i t⟩
 |_,_,_,.str x,r=>by obtain⟨t,rfl⟩:=r;exact⟨_,.str x t⟩
 |_,_,_,.lst q all,r=>by
  cases r;obtain⟨f,a,⟨o,n,e,c,_,d⟩,_⟩:=I.list q;obtain⟨as,h⟩:=cF.readsAll I all a;exact⟨_,.list e c d (by simpa using h)⟩
 |_,_,_,.tup q all,r=>by
  cases r;obtain⟨f,a,⟨o,e,c,n,d⟩,_⟩:=I.tuple q;obtain⟨as,h⟩:=cF.readsAll I all a;exact⟨_,.tuple e c d (by simpa using h)⟩
theorem cF.readsAll(I:cF X aa σ H s):∀{vs:List V}{ds:List Oe}{a:List Uw},LZ X.K H vs ds->bL vs a->∃as,ReadsAll s.heap a ds as
 |_,_,_,.nil,r=>by cases r;exact⟨_,.nil⟩
 | _,_,_,.cons h t,r => by
  cases r with
  |cons c b=>
   obtain⟨as,h1⟩:=cF.reads I h c;obtain⟨bs,h2⟩:=cF.readsAll I t b;exact⟨_,.cons h1 h2⟩
end
end
def rEqD(K:Ah):R2:=λx y H Q=>∃d e,Dp K H x d/\Dp K H y e/\Fd d=bc/\Fd e=bc/\Q (.bl (Kf d e)) H
def rNeD(K:Ah):R2:=λx y H Q=>∃d e,Dp K H x d/\Dp K H y e/\Fd d=bc/\Fd e=bc/\Q (.bl (!PyData.eqv d e)) H
section
variable{X:Cx}
def pP(g:X.A.units+64<cLine):WZ X (Dr .Eq) (rEqD X.K):=by intro aa s σ H x y v u Q I f c h;obtain⟨d,e,j,i,b,a,q⟩:=h;obtain⟨as,h1⟩:=I.reads j f;obtain⟨bs,h2⟩:=I.reads i c;exact eq_dataH h1 h2 b a g (HD I q rfl)
def gW(g:X.A.units+64<cLine):WZ X (Dr .NotEq) (rNeD X.K):=by intro aa s σ H x y v u Q I f c h;obtain⟨d,e,j,i,b,a,q⟩:=h;obtain⟨as,h1⟩:=I.reads j f;obtain⟨bs,h2⟩:=I.reads i c;exact ne_dataH h1 h2 b a g (HD I q rfl)
def rngP(p:Ux)(a b c:Int):Vg->Prop:=λh=>∃t u v,IsRange h p a b c t u v
inductive IZ:List Nb->List (Va×V)->Prop
 |nil:IZ [] []
 |cons {e:Nb}{es:List Nb}{x:Va}{t:Vp}{v:V}{D:List (Va×V)}:e.key=.str x t->bE v e.val->IZ es D->IZ (e::es) ((x,v)::D)
def KTab(K:Ah)(a:Ux)(D:List (Va×V)):Prop:=
 (a==Hb)=bd/\∃o es ep,K.lookup a=ba o/\o.ExactDict/\o.data=.dict es ep/\IZ es.toList D
def IZ.rows{es:List Nb}{D:List (Va×V)}(h:IZ es D):KTD.Rows bE es D:=by
 induction h with
 |nil=>exact .nil
 |cons h1 h2 _ a=>exact .cons h1 h2 a
def EY{A:Bw}{E:Uw->Ae->Prop}{s:Ae}{K:Ah}{prog:Aw}{w:Ve}{a:Ux}{D:List (Va×V)}{k:Va}{tk:Vp}{Q:Option Uw->Ae->Prop}(p:K.In s.heap)(T:KTab K a D)(h1:∀d v,Gd k D=ba d->bE d v->Q (ba v) {s with toks:=s.toks+1})(h2:Gd k D=bb->Q bb {s with toks:=s.toks+1}):Uy (Vb prog w) A (dictGet a (.str k tk)) Q E s:=by
 obtain⟨_,o,es,ep,g,hc,j,c⟩:=T;have g:=p _ _ g;have c:=c.rows;unfold dictGet;try with_reducible refine Bv ?_
 refine Aa (wpAny_pyHash_str (Aa (KTD.kt_dictFind_strs (s:={s with toks:=s.toks+1}) g j (by obtain⟨l⟩:=es;simpa using c.exact) ?_)));have f:Q (findBy (λk v=>v.isStr k) es k) {s with toks:=s.toks+1}:=by
  have n:findBy (λk v=>v.isStr k) es k=(es.toList.find? λe=>e.key.isStr k).map (·.val):=by obtain⟨l⟩:=es;simp[findBy]
  rw[n];cases b:Gd k D with
  |some d=>obtain⟨v,m,h⟩:=c.find_some b;rw[m];exact h1 d v b h
  |none=>rw[c.find_none b];exact h2 b
 rw[findBy_of_findIdx?]at f;cases hi:es.findIdx? λe=>e.key.isStr k with
 |none=>rw[hi]at f;exact Ag f
 |some i=>rw[hi]at f;exact Aa (wpAny_dictEntries (s:={s with toks:=s.toks+1}) g j (Ag f))
def kB:IxR X (λx y H Q=>∃a k D v,x=.ref a/\y=.str k/\KTab X.K a D/\Gd k D=ba v/\Q v H):=by
 intro value c aa s σ H x y v u Q I l j h n;obtain⟨a,k,D,d,rfl,rfl,T,f,q⟩:=h;cases l;obtain⟨t,rfl⟩:=j;have b:s.TypeIs (.ref a) "dict":=by obtain⟨_,o,es,ep,p,hc,_⟩:=T;exact⟨o,I.kIn _ _ p,hc.1⟩
 have main:Uy (Vb X.prog X.w) X.A (Mi (.ref a) (.str k t)) (EP X aa σ Q) X.xe s:=by
  unfold Mi;try with_reducible refine Bv ?_
  refine Aa (Ly b (by decide) ?_);refine Aa (De (name:=Bf "__getitem__") b Lr
   (Dj Lr b PySem.F.entry_dict_getitem ?_ (PySem.F.args_dict_getitem_2 _ _)))
  show Uy _ _ (dictGet a (.str k t)>>=_) _ _ s;exact Aa (EY I.kIn T (λd' i g m=>Ag ⟨i,rfl,Ag (by rw[f]at g;cases g;exact⟨d,H,I.tok _,m,q⟩)⟩) λe=>by rw[f]at e;cases e)
 exact Tp b PySem.F.slot_dict_getitem.lookup main n
end
section
variable{prog:Aw}{w:Ve}{A:Bw}{E:Uw->Ae->Prop}{s:Ae}
theorem JN{it t:Ux}{items:Array Uw}(g:t≠it):∀(n i:Nat) (s:Ae) (Q:List Uw->Ae->Prop),s.heap.IsListIter it t i->s.heap.IsList t items->i+n<=items.size->(∀h',h'.IsListIter it t (i+n)->Fn it s.heap h'->Q ((items.toList.drop i).take n) {s with heap:=h'})->Uy (Vb prog w) A (draw (.ref it) n) Q E s
 |0,i,s,Q,e,_,_,j=>by show Uy _ _ (pure []) Q E s;exact Ag (by simpa using j s.heap e (Heap.SameBut.refl ..))
 |n+1,i,s,Q,e,l,m,j=>by
  have h:i<items.size:=by lia
  show Uy _ _ (pyNext (.ref it)>>=_) Q E s;refine Aa (Hf e l (x:=items[i]) (by simp[h]) λk c a=>?_);refine Aa (Bv (JN g n (i+1) _ _ c (l.extBut a.extBut g) (by lia) λf b d=>Ag ?_));have o:items.toList.drop i=items[i]::items.toList.drop (i+1):=by simp[Dn,h]
  have:=j f (by rw[show i+(n+1)=i+1+n by lia];exact b) (a.trans d)
  rw[o,List.take_succ_cons]at this;exact this
def P6{t:Ux}{items:Array Uw}{Q:List Uw->Ae->Prop}(n:A.handled=bb)(k:s.heap.IsList t items)(p:∀h',Jl s.heap.objs.size s.heap h'->Q items.toList {s with heap:=h'}):Uy (Vb prog w) A (Kn (.ref t) items.size bb) Q E s:=by
 have j:t≠s.heap.objs.size:=by obtain⟨o,l,_⟩:=k;exact Bb (An l)
 unfold Kn;refine Aa ?_
 ·unfold notIterableAtAll
  refine Aa (Iq k.typeIs PySem.F.slot_list_iter.lookup ?_);refine Ag ?_;simp only[Fg,if_false];refine Aa (Bv (Fo k ?_));have i:(s.heap.push {cls:=.type "list_iterator",data:=.fields #[.ref t,.int 0 0]}).IsList t items:=by obtain⟨o,l,r⟩:=k;exact⟨o,Ad _ l,r⟩
  refine Aa (Bv (JN j items.size 0 _ _ ⟨_,Aj _ rfl,rfl,rfl⟩ i (by lia) λh c a=>?_));have q:List.take items.size (List.drop 0 items.toList)=items.toList:=by rw[Of];exact Cu (by simp)
  rw[q];rw[if_neg (by simp)];have d:h.IsList t items:=i.extBut a.extBut j;refine Aa (Bv (Jw n c d (by simp) λg f=>?_));simp only[Option.isSome_none,Fg,if_false];refine Ag (p g λb o m e=>f b o m (a.extBut b o m (Ad _ e)))
def QG{env:Env}{a:List Vc}{x1}{pos:Pos}{t:Ux}{items:Array Uw}{Q:Unit->Ae->Prop}(d:A.handled=bb)(b:s.heap.IsList t items)(c:(Vf a env).length=items.size)(e:(Vf a env).findIdx? (·.1)=bb)(h:∀h',Jl s.heap.objs.size s.heap h'->Uy (Vb prog w) A (Vn ((Vf a env).map (·.2)) items.toList) Q E {s with heap:=h'}):Uy (Vb prog w) A (Hs (.Tuple a x1 pos) env (.ref t)) Q E s:=by rw[assign_Tuple];refine Aa (Fm ?_);unfold unpack;rw[c,e];exact Aa (Bv (P6 d b h))
end
section
variable{X:Cx}{pos:Pos}
def gLst(K:Ah)(n:Nat)(t:TGs):TG:=λv σ H Q=>∃a xs,v=.ref a/\X8 K H a xs/\xs.length=n/\t xs σ H Q
def jV{es:List Vc}{k:Nat}{t:TGs}{n:Nat}(hc:X.calm=bc)(h:AE X es t)(l:(Vf es X.env).length=n:=by rfl)(c:(Vf es X.env).findIdx? (·.1)=bb:=by rfl):PG X (.Tuple es k pos) (gLst X.K n t):=by intro aa s σ H v u Q I r hw;obtain⟨a,xs,m,j,hl,hw⟩:=hw;subst m;cases r;obtain⟨f,d,i,hz⟩:=I.list j;refine QG (I.ok.hd hc) i.isList (by simp[l,<-hl,d.length]) c λh' g=>?_;have p:cF X aa σ H {s with heap:=h'}:=I.kept (t':=s.toks) λb o e=>g b o (Bb (An e)) e;exact h aa _ σ H xs _ Q p (by simpa using d) hw
end
section
variable{X:Cx}{K:Ah}
def lR(h:X.K=K:=by rfl):aB X (.type "list") (λxs H Q=>∃p ys,xs=[.ref p]/\(X8 K H p ys∨WN K H p ys)/\∀l,H l=bb->Q (.ref l) (upd H l (.lst ys))):=by subst h;exact G5
def fW(h:X.K=K:=by rfl):aB X (.type "tuple") (λxs H Q=>∃p ys,xs=[.ref p]/\((X8 K H p ys/\∀l,H l=bb->Q (.ref l) (upd H l (.tup ys)))∨(WN K H p ys/\Q (.ref p) H))):=by subst h;exact LM
def kEqD(a:X.A.units+64<cLine)(h:X.K=K:=by rfl):WZ X (Dr .Eq) (rEqD K):=by subst h;exact pP a
def RX(a:X.A.units+64<cLine)(h:X.K=K:=by rfl):WZ X (Dr .NotEq) (rNeD K):=by subst h;exact gW a
def Ys(h:X.K=K){es:List Vc}{k:Nat}{t:TGs}{n:Nat}{pos:Pos}(hc:X.calm=bc)(c:AE X es t)(b:(Vf es X.env).length=n:=by rfl)(a:(Vf es X.env).findIdx? (·.1)=bb:=by rfl):PG X (.Tuple es k pos) (gTup K n t):=by subst h;exact iE hc c b a
def mv(h:X.K=K){es:List Vc}{k:Nat}{t:TGs}{n:Nat}{pos:Pos}(hc:X.calm=bc)(c:AE X es t)(b:(Vf es X.env).length=n:=by rfl)(a:(Vf es X.env).findIdx? (·.1)=bb:=by rfl):PG X (.Tuple es k pos) (gLst K n t):=by subst h;exact jV hc c b a
def Yy(h:X.K=K){tg l:Vc}{tl:TE}(hl:PE X l tl):PI X tg l (Zx K tl):=by subst h;exact ju hl
def Zz(h:X.K=K){tg l:Vc}{tl:TE}(hl:PE X l tl):PI X tg l (iTup K tl):=by subst h;exact eV hl
def kBm(h:X.K=K:=by rfl){o e:Vc}{es:List Vc}{to:TE}{t:TA}{name:Va}{aj af:Pos}{T id:String}{r:V->List V->Hp->VK->Prop}(pa:PlainAttrs T)(slot:Slot T name id)(a:Qu (.builtin id)=pure (.type "method_descriptor"))(d:MtR X id r)(c:PE X o to)(f:PA X (e::es) t)(i:Hn o name X.env (eval o X.env)=eval o X.env:=by rfl)(g:((Em af (Uz (e::es) X.env)).all (λx=> !x.1)&&(Ff af (Cw [] X.env)).all (λx=>x.1.isSome)&&decide ((e::es).length+([]:List Ia).length+(if([]:List Ia).isEmpty then 0 else 1)<30))=bc:=by rfl)(j:(aj.endLine==af.line)=bc:=by rfl)(b:Uz (e::es) X.env=(bd,eval e X.env)::Uz es X.env:=by rfl)(k:(Em af (Uz es X.env)).any (·.1)=bd:=by rfl):PE X (.Call (.Attribute o name aj) (e::es) [] af) (tBM K T r to t):=by subst h;exact ma pa slot a d c f i g j b k
end
def on:Bi "len"=ba (.builtin "len"):=by decide+kernel
def hG:Bi "min"=ba (.builtin "min"):=by decide+kernel
def mD:Bi "max"=ba (.builtin "max"):=by decide+kernel
def O9:Bi "sorted"=ba (.builtin "sorted"):=by decide+kernel
def bR:Bi "isinstance"=ba (.builtin "isinstance"):=by decide+kernel
def NL:Bi "list"=ba (.type "list"):=by decide+kernel
def YA:Bi "tuple"=ba (.type "tuple"):=by decide+kernel
def ko:Bi "range"=ba (.type "range"):=by decide+kernel
def nW:Bi "bool"=ba (.type "bool"):=by decide+kernel
def ky:Bi "int"=ba (.type "int"):=by decide+kernel
def iK:Bi "str"=ba (.type "str"):=by decide+kernel
structure Def(P:Aw)(w:Ve)(K:Ah)(mg:Va->Option Uw)(base:Vg)(x:Va)(k:Nat)(ps:List Va)(sp:Sp)(f:Ux):Prop where
 at_:mg x=ba (.ref f)
 ok:∃fd,YO P w K mg base CX0 k f fd ps sp/\P9 K fd ps []
 kp:Hy K (.ref f)=bc
section
variable{X:Cx}{x:Va}{k j:Nat}{ps:List Va}{sp:Sp}{f:Ux}{p pos:Pos}{e:Vc}{es:List Vc}{t:TA}
def FI(D:Def X.prog X.w X.K X.mg X.base x k ps sp f)(c:ZZ j X.A)(d:k<=j)(g:Gl X x)(i:PA X (e::es) t)(b:(x==("__debug__":Va))=bd:=by decide)(h:Uz (e::es) X.env=(bd,eval e X.env)::Uz es X.env:=by rfl)(a:(Em pos (Uz es X.env)).any (·.1)=bd:=by rfl):PE X (.Call (.Name x p) (e::es) [] pos) (B6 sp [] E0 t):=by obtain⟨fd,F,B⟩:=D.ok;exact mY F (c.mono d) g D.at_ D.kp B .nil Xy i b h a
end
def cM{H:Hp}{p:Ux}{o:HO}(a:H p=bb):bF H (upd H p o):=λb o' e=>by rw[bV (Z6 e a)];exact e
def FY(ns:List Int):Fd (.list (ns.map Qf))=bc:=by
 have h1:Hd (.list (ns.map Qf))=bc:=by simp only[Hd,canLayAll_ints]
 have h2:Jy (.list (ns.map Qf))<=64:=by simp only[Jy,depthAll_ints];decide
 unfold Fd;rw[h1,decide_eq_true h2];rfl
abbrev SE(X:Cx)(a:Vc)(es:List Vc):Prop:=Uz (a::es) X.env=(bd,eval a X.env)::Uz es X.env
abbrev ND(x:Va):Prop:=(x==("__debug__":Va))=bd
abbrev LO(X:Cx)(x:Va):Prop:=X.fn x=bc∨X.env.scope.names.lookup x=ba .local
inductive cV where
 |non|bl (b:Bool)|int (i:Int)|str (x:Va)|ty (n:String)|fn (x:Va)|tup (ds:List cV)|lst (ds:List cV)|dct (ks:List aK) (ds:List cV)|exn (x:Va)|exr (x n:Va) (d:cV)
def FzL(K:Ah)(H:Hp)(a:Ux)(xs:List V):Prop:=
 (∃o,H a=ba (.frz o (.lst xs)))∨
  ∃(o:Vi) (b:Array Uw) (n:Nat),K.lookup a=ba o/\o.cls=.type "list" /\o.dict=bb/\o.data=.seq b n/\b.size<=sizeLine/\bL xs b.toList
def FzL.sq{K:Ah}{H:Hp}{a:Ux}{xs:List V}(h:FzL K H a xs):X8 K H a xs:=by
 rcases h with⟨o,h⟩|h
 ·exact .inl (.inr ⟨o,h⟩)
 ·exact .inr h
def AA(h:Vg)(a C:Ux):Prop:=∃o vs,h.get? a=ba o/\o.cls=.ref C/\o.data=.fields vs
def Xv(h:Vg)(a C D:Ux):Prop:=∃o vs,h.get? a=ba o/\o.cls=.ref C/\o.data=.fields vs/\o.dict=ba D
mutual
inductive bC(K:Ah)(N:Ux->Prop)(H:Hp):(Ux->Prop)->V->cV->Prop
 |non {M:Ux->Prop}:bC K N H M .non .non
 |bl {M:Ux->Prop}(b:Bool):bC K N H M (.bl b) (.bl b)
 |int {M:Ux->Prop}(i:Int):bC K N H M (.int i) (.int i)
 |str {M:Ux->Prop}(x:Va):bC K N H M (.str x) (.str x)
 |ty {M:Ux->Prop}(n:String):bC K N H M (.ty n) (.ty n)
 |fn {M:Ux->Prop}{a:Ux}{x:Va}:Gs K Vd x=ba (ba (.ref a))->bC K N H M (.ref a) (.fn x)
 |tup {M:Ux->Prop}{a:Ux}{xs:List V}{ds:List cV}:WN K H a xs->bZ K N H xs ds->bC K N H M (.ref a) (.tup ds)
 |lst {M:Ux->Prop}{a:Ux}{xs:List V}{ds:List cV}:H a=ba (.lst xs)->¬M a->bZ K N H xs ds->bC K N H M (.ref a) (.lst ds)
 |fzl {M:Ux->Prop}{a:Ux}{xs:List V}{ds:List cV}:FzL K H a xs->bZ K N H xs ds->bC K N H M (.ref a) (.lst ds)
 |dct {M:Ux->Prop}{a:Ux}{kvs:List (aK×V)}{ds:List cV}:H a=ba (.dK kvs)->¬M a->bZ K N H (kvs.map Er) ds->bC K N H M (.ref a) (.dct (kvs.map Dk) ds)
 |ktb {M:Ux->Prop}{a:Ux}{D:List (Va×V)}{ds:List cV}:KTab K a D->bZ K N H (D.map Er) ds->bC K N H M (.ref a) (.dct (D.map λp=>.inr p.1) ds)
 |exn {M:Ux->Prop}{a C:Ux}{x:Va}{φ:Vg->Prop}:Gs K Vd x=ba (ba (.ref C))->H a=ba (.ext φ)->(∀h,φ h->AA h a C)->bC K N H M (.ref a) (.exn x)
 |exr {M:Ux->Prop}{a C D:Ux}{x n:Va}{φ:Vg->Prop}{v:V}{d:cV}:Gs K Vd x=ba (ba (.ref C))->H a=ba (.ext φ)->(∀h,φ h->Xv h a C D)->H D=ba (.xd [(n,v)])->bC K N H N v d->bC K N H M (.ref a) (.exr x n d)
inductive bZ(K:Ah)(N:Ux->Prop)(H:Hp):List V->List cV->Prop
 |nil:bZ K N H [] []
 |cons {v:V}{vs:List V}{d:cV}{ds:List cV}:bC K N H N v d->bZ K N H vs ds->bZ K N H (v::vs) (d::ds)
end
inductive RepL(K:Ah)(N:Ux->Prop)(H:Hp)(M:Ux->Prop)(ds:List cV):V->Prop
 |lst {a:Ux}{xs:List V}:H a=ba (.lst xs)->¬M a->bZ K N H xs ds->RepL K N H M ds (.ref a)
 |fzl {a:Ux}{xs:List V}:FzL K H a xs->bZ K N H xs ds->RepL K N H M ds (.ref a)
inductive RepT(K:Ah)(N:Ux->Prop)(H:Hp)(ds:List cV):V->Prop
 |tup {a:Ux}{xs:List V}:WN K H a xs->bZ K N H xs ds->RepT K N H ds (.ref a)
inductive RepD(K:Ah)(N:Ux->Prop)(H:Hp)(M:Ux->Prop)(ks:List aK)(ds:List cV):V->Prop
 |dct {a:Ux}{kvs:List (aK×V)}:H a=ba (.dK kvs)->¬M a->bZ K N H (kvs.map Er) ds->ks=kvs.map Dk->RepD K N H M ks ds (.ref a)
 |ktb {a:Ux}{D:List (Va×V)}:KTab K a D->bZ K N H (D.map Er) ds->ks=D.map (λp=>.inr p.1)->RepD K N H M ks ds (.ref a)
def RepI(K:Ah)(N:Ux->Prop)(H:Hp)(M:Ux->Prop)(v:V):cV->Prop
 |.non=>v=.non
 |.bl b=>v=.bl b
 |.int i=>v=.int i
 |.str x=>v=.str x
 |.ty n=>v=.ty n
 |.fn x=>∃a,v=.ref a/\Gs K Vd x=ba (ba (.ref a))
 |.tup ds=>RepT K N H ds v
 |.lst ds=>RepL K N H M ds v
 |.dct ks ds=>RepD K N H M ks ds v
 |_=>True
section
variable{K:Ah}{N:Ux->Prop}{H:Hp}{M:Ux->Prop}{v:V}{d:cV}{ds:List cV}
def bC.inv(h:bC K N H M v d):RepI K N H M v d:=by
 cases h with
 |fn q=>exact⟨_,rfl,q⟩
 |tup q r=>exact .tup q r
 |lst q n r=>exact .lst q n r
 |fzl q r=>exact .fzl q r
 |dct q n r=>exact .dct q n r rfl
 |ktb q r=>exact .ktb q r rfl
 |exn _ _ _=>trivial
 |exr _ _ _ _ _=>trivial
 |_=>rfl
def bC.onI{i:Int}(h:bC K N H M v (.int i)):v=.int i:=h.inv
def bC.onB{i:Bool}(h:bC K N H M v (.bl i)):v=.bl i:=h.inv
def bC.onS{i:Va}(h:bC K N H M v (.str i)):v=.str i:=h.inv
def bC.onL(h:bC K N H M v (.lst ds)):RepL K N H M ds v:=h.inv
def bC.onT(h:bC K N H M v (.tup ds)):RepT K N H ds v:=h.inv
def bC.onD{ks:List aK}(h:bC K N H M v (.dct ks ds)):RepD K N H M ks ds v:=h.inv
end
def Hard:HO->Prop
 |.tup _=>True
 |.frz _ _=>True
 |.ext _=>True
 |.xd _=>True
 |.ctb _ _=>True
 |_=>False
def Fr(P:Ux->Prop)(H H':Hp):Prop:=∀b o,H b=ba o->(P b->Hard o)->H' b=ba o
def Fr.refl(P:Ux->Prop)(H:Hp):Fr P H H:=λ_ _ h _=>h
def Fr.trans{P:Ux->Prop}{H H1 H2:Hp}(a:Fr P H H1)(b:Fr P H1 H2):Fr P H H2:=λc o h n=>b c o (a c o h n) n
def Fr.mono{P P':Ux->Prop}{H H':Hp}(a:Fr P H H')(h:∀b,P b->P' b):Fr P' H H':=λc o e n=>a c o e λz=>n (h c z)
def bF.fr{P:Ux->Prop}{H H':Hp}(a:bF H H'):Fr P H H':=λc o h _=>a c o h
def Fr.same{H H':Hp}(a:Fr (λ_=>False) H H'):bF H H':=λc o h=>a c o h λz=>z.elim
section
variable{K:Ah}{N N' M M' P:Ux->Prop}{H H':Hp}
def Fr.tup(f:Fr P H H'){a:Ux}{xs:List V}(h:WN K H a xs):WN K H' a xs:=by
 rcases h with(h|⟨o,h⟩)|h
 ·exact .inl (.inl (f _ _ h λ_=>trivial))
 ·exact .inl (.inr ⟨o,f _ _ h λ_=>trivial⟩)
 ·exact .inr h
def Fr.fzl(f:Fr P H H'){a:Ux}{xs:List V}(h:FzL K H a xs):FzL K H' a xs:=by
 rcases h with⟨o,h⟩|h
 ·exact .inl ⟨o,f _ _ h λ_=>trivial⟩
 ·exact .inr h
def bC.fr(f:Fr P H H')(e:∀a,P a->N a){M:Ux->Prop}{v:V}{d:cV}(c:∀a,P a->M a)(h:bC K N H M v d):bC K N H' M v d:=
 bC.rec (motive_1:=λM v d _=>(∀a,P a->M a)->bC K N H' M v d) (motive_2:=λvs ds _=>bZ K N H' vs ds) (λ_=>.non) (λb _=>.bl b) (λi _=>.int i) (λx _=>.str x) (λn _=>.ty n) (λq _=>.fn q) (λq _ r _=>.tup (f.tup q) r)
  (λq n _ r c=>.lst (f _ _ q λz=>absurd (c _ z) n) n r) (λq _ r _=>.fzl (f.fzl q) r) (λq n _ r c=>.dct (f _ _ q λz=>absurd (c _ z) n) n r) (λq _ r _=>.ktb q r) (λp q r _=>.exn p (f _ _ q λ_=>trivial) r)
  (λp q r s _ t _=>.exr p (f _ _ q λ_=>trivial) r (f _ _ s λ_=>trivial) (t e)) .nil (λ_ _ a b=>.cons (a e) b) h c
def bZ.map{c:Ah}{N':Ux->Prop}{H':Hp}(g:∀{v d},bC K N H N v d->bC c N' H' N' v d):∀{vs:List V}{ds:List cV},bZ K N H vs ds->bZ c N' H' vs ds:=by
 intro vs;induction vs with
 |nil=>intro ds h;cases h;exact .nil
 |cons v vs e=>intro ds h;cases h with|cons a b=>exact .cons (g a) (e b)
def bZ.fr(f:Fr P H H')(b:∀a,P a->N a){vs:List V}{ds:List cV}(h:bZ K N H vs ds):bZ K N H' vs ds:=h.map λr=>r.fr f b b
def bC.mono(e:∀a,N' a->N a){M M':Ux->Prop}{v:V}{d:cV}(c:∀a,M' a->M a)(h:bC K N H M v d):bC K N' H M' v d:=
 bC.rec (motive_1:=λM v d _=>∀M',(∀a,M' a->M a)->bC K N' H M' v d) (motive_2:=λvs ds _=>bZ K N' H vs ds) (λ_ _=>.non) (λb _ _=>.bl b) (λi _ _=>.int i) (λx _ _=>.str x) (λn _ _=>.ty n) (λq _ _=>.fn q) (λq _ r _ _=>.tup q r)
  (λq n _ r _ c=>.lst q (λz=>n (c _ z)) r) (λq _ r _ _=>.fzl q r) (λq n _ r _ c=>.dct q (λz=>n (c _ z)) r) (λq _ r _ _=>.ktb q r) (λp q r _ _=>.exn p q r) (λp q r s _ t _ _=>.exr p q r s (t _ e)) .nil (λ_ _ a b=>.cons (a _ e) b) h M' c
def bZ.mono(b:∀a,N' a->N a){vs:List V}{ds:List cV}(h:bZ K N H vs ds):bZ K N' H vs ds:=h.map λr=>r.mono b b
def bC.same(f:bF H H'){v:V}{d:cV}(h:bC K N H M v d):bC K N H' M v d:=h.fr f.fr (λ_ z=>z.elim) (P:=λ_=>False) λ_ z=>z.elim
def bZ.same(f:bF H H'){vs:List V}{ds:List cV}(h:bZ K N H vs ds):bZ K N H' vs ds:=h.fr f.fr (P:=λ_=>False) λ_ z=>z.elim
theorem bZ.length:∀{vs:List V}{ds:List cV},bZ K N H vs ds->vs.length=ds.length
 |_,_,.nil=>rfl
 |_,_,.cons _ t=>congrArg (· +1) (bZ.length t)
theorem bZ.append:∀{vs a:List V}{ds es:List cV},bZ K N H vs ds->bZ K N H a es->bZ K N H (vs++a) (ds++es)
 |_,_,_,_,.nil,s=>s
 |_,_,_,_,.cons h t,s=>.cons h (bZ.append t s)
theorem bZ.get:∀{vs:List V}{ds:List cV}{i:Nat}{d:cV},bZ K N H vs ds->ds[i]?=ba d->∃v,vs[i]?=ba v/\bC K N H N v d
 |_,_,_,_,.nil,e=>by simp at e
 |_,_,0,_,.cons r _,e=>by simp at e;subst e;exact⟨_,rfl,r⟩
 |_,_,i+1,x,.cons _ t,e=>by obtain⟨u,h1,h2⟩:=bZ.get (i:=i) (d:=x) t (by simpa using e);exact⟨u,by simpa using h1,h2⟩
theorem bZ.getV:∀{vs:List V}{ds:List cV}{i:Nat}{v:V},bZ K N H vs ds->vs[i]?=ba v->∃d,ds[i]?=ba d/\bC K N H N v d
 |_,_,_,_,.nil,e=>by simp at e
 |_,_,0,_,.cons r _,e=>by simp at e;subst e;exact⟨_,rfl,r⟩
 |_,_,i+1,x,.cons _ t,e=>by obtain⟨u,h1,h2⟩:=bZ.getV (i:=i) (v:=x) t (by simpa using e);exact⟨u,by simpa using h1,h2⟩
theorem bZ.take:∀{vs:List V}{ds:List cV}(n:Nat),bZ K N H vs ds->bZ K N H (vs.take n) (ds.take n)
 |_,_,0,_=>.nil
 |_,_,_+1,.nil=>.nil
 |_,_,n+1,.cons r t=>.cons r (bZ.take n t)
theorem bZ.drop:∀{vs:List V}{ds:List cV}(n:Nat),bZ K N H vs ds->bZ K N H (vs.drop n) (ds.drop n)
 |_,_,0,r=>r
 |_,_,_+1,.nil=>.nil
 |_,_,n+1,.cons _ t=>bZ.drop n t
def bZ.snoc{vs:List V}{ds:List cV}{v:V}{d:cV}(r:bZ K N H vs ds)(h:bC K N H N v d):bZ K N H (vs++[v]) (ds++[d]):=r.append (.cons h .nil)
end
mutual
def cV.isD:cV->Bool
 |.non=>bc
 |.bl _=>bc
 |.int _=>bc
 |.str _=>bc
 |.ty _=>bd
 |.fn _=>bd
 |.tup ds=>EU ds
 |.lst ds=>EU ds
 |.dct _ _=>bd
 |.exn _=>bd
 |.exr _ _ _=>bd
def EU:List cV->Bool
 |[]=>bc
 |d::ds=>d.isD&&EU ds
end
mutual
def cV.pd:cV->Oe
 |.non=>.none
 |.bl b=>.bool b
 |.int i=>.int i
 |.str x=>.str x
 |.ty _=>.none
 |.fn _=>.none
 |.tup ds=>.tuple (pds ds)
 |.lst ds=>.list (pds ds)
 |.dct _ _=>.none
 |.exn _=>.none
 |.exr _ _ _=>.none
def pds:List cV->List Oe
 |[]=>[]
 |d::ds=>d.pd::pds ds
end
mutual
def cV.hard:cV->Bool
 |.tup ds=>UB ds
 |.lst _=>bd
 |.dct _ _=>bd
 |.exr _ _ _=>bd
 |_=>bc
def UB:List cV->Bool
 |[]=>bc
 |d::ds=>d.hard&&UB ds
end
section
variable{K:Ah}{N:Ux->Prop}{H:Hp}
def bC.dp{M:Ux->Prop}{v:V}{d:cV}(h:bC K N H M v d)(e:d.isD=bc):Dp K H v d.pd:=
 bC.rec (motive_1:=λM v d _=>d.isD=bc->Dp K H v d.pd) (motive_2:=λvs ds _=>EU ds=bc->LZ K H vs (pds ds)) (λ_=>.non) (λb _=>.bl b) (λi _=>.int i) (λx _=>.str x) (λ_ h=>nomatch h) (λ_ h=>nomatch h) (λq _ r h=>.tup q (r h))
  (λq _ _ r h=>.lst (X8.of q) (r h)) (λq _ r h=>.lst q.sq (r h)) (λ_ _ _ _ h=>nomatch h) (λ_ _ _ h=>nomatch h) (λ_ _ _ h=>nomatch h) (λ_ _ _ _ _ _ h=>nomatch h) (λ_=>.nil) (λ_ _ a b e=>.cons (a (Eb.mp e).1) (b (Eb.mp e).2)) h e
def bC.hard{N':Ux->Prop}{M M':Ux->Prop}{v:V}{d:cV}(h:bC K N H M v d)(e:d.hard=bc):bC K N' H M' v d:=
 bC.rec (motive_1:=λM v d _=>∀M',d.hard=bc->bC K N' H M' v d) (motive_2:=λvs ds _=>UB ds=bc->bZ K N' H vs ds) (λ_ _=>.non) (λb _ _=>.bl b) (λi _ _=>.int i) (λx _ _=>.str x) (λn _ _=>.ty n) (λq _ _=>.fn q) (λq _ r _ h=>.tup q (r h))
  (λ_ _ _ _ _ h=>nomatch h) (λ_ _ _ _ h=>nomatch h) (λ_ _ _ _ _ h=>nomatch h) (λ_ _ _ _ h=>nomatch h) (λp q r _ _=>.exn p q r) (λ_ _ _ _ _ _ _ h=>nomatch h) (λ_=>.nil) (λ_ _ a b e=>.cons (a _ (Eb.mp e).1) (b (Eb.mp e).2)) h M' e
def bZ.hard{N':Ux->Prop}:∀{vs:List V}{ds:List cV},bZ K N H vs ds->UB ds=bc->bZ K N' H vs ds:=by
 intro vs;induction vs with
 |nil=>intro ds h _;cases h;exact .nil
 |cons v vs c=>intro ds h e;cases h with|cons a b=>exact .cons (a.hard (Eb.mp e).1) (c b (Eb.mp e).2)
end
inductive Sl where
 |no|va (d:cV)|ow (d:cV)
abbrev Ev:=List Sl
structure Bs where
 Z:Ux->Prop
 P:Ux->Prop
 H0:Hp
 mu:Nat->Option Ux
 kp:List (V×cV)
def Nn(B:Bs)(O:Nat->Option Ux):Ux->Prop:=λa=>B.Z a∨∃i,O i=ba a
def OA(O:Nat->Option Ux):Ux->Prop:=λa=>∃i,O i=ba a
inductive NY(K:Ah)(N:Ux->Prop)(H:Hp)(a:Ux):cV->Prop
 |lst {xs:List V}{ds:List cV}:H a=ba (.lst xs)->bZ K N H xs ds->NY K N H a (.lst ds)
 |dct {kvs:List (aK×V)}{ds:List cV}:H a=ba (.dK kvs)->bZ K N H (kvs.map Er) ds->NY K N H a (.dct (kvs.map Dk) ds)
theorem NY.fr{K:Ah}{N P:Ux->Prop}{H H':Hp}{a:Ux}{d:cV}(f:Fr P H H')(c:∀a,P a->N a)(b:¬P a):NY K N H a d->NY K N H' a d
 |.lst q r=>.lst (f _ _ q λz=>absurd z b) (r.fr f c)
 |.dct q r=>.dct (f _ _ q λz=>absurd z b) (r.fr f c)
theorem NY.mono{K:Ah}{N N':Ux->Prop}{H:Hp}{a:Ux}{d:cV}(h:∀b,N' b->N b):NY K N H a d->NY K N' H a d
 |.lst q r=>.lst q (r.mono h)
 |.dct q r=>.dct q (r.mono h)
def NY.soft{K:Ah}{N:Ux->Prop}{H:Hp}{a:Ux}{d:cV}(h:NY K N H a d):∃o,H a=ba o/\¬Hard o:=by
 cases h with
 |lst q _=>exact⟨_,q,λz=>z⟩
 |dct q _=>exact⟨_,q,λz=>z⟩
def NY.rep{K:Ah}{N M:Ux->Prop}{H:Hp}{a:Ux}{d:cV}(h:NY K N H a d)(b:¬M a):bC K N H M (.ref a) d:=by
 cases h with
 |lst q r=>exact .lst q b r
 |dct q r=>exact .dct q b r
structure aR(K:Ah)(ml:List Nat)(B:Bs)(O:Nat->Option Ux)(H:Hp)(σ:St)(δ:Ev):Prop where
 len:σ.length=δ.length
 va:∀(i:Nat) (d:cV),δ[i]?=ba (Sl.va d)->∃v,σ[i]?=ba (ba v)/\bC K (Nn B O) H (Nn B O) v d
 ow:∀(i:Nat) (d:cV),δ[i]?=ba (Sl.ow d)->∃a,O i=ba a/\σ[i]?=ba (ba (.ref a))/\NY K (Nn B O) H a d
 dom:∀(i:Nat) a,O i=ba a->∃d,δ[i]?=ba (Sl.ow d)
 inj:∀i j a,O i=ba a->O j=ba a->i=j
 old:∀i a,O i=ba a->¬B.Z a/\(B.P a∨B.H0 a=bb)
 zin:∀a,B.Z a->∃o,H a=ba o
 frm:Fr B.P B.H0 H
 par:((∀i a,B.mu i=ba a->i∈ml)/\CL K B.H0)/\∀i∈ml,O i=B.mu i
 pin:∀a,B.P a->∃o,H a=ba o
 kep:∀p∈B.kp,bC K (Nn B O) H (Nn B O) p.1 p.2
section
variable{K:Ah}{ml:List Nat}{B:Bs}{O:Nat->Option Ux}{H H':Hp}{σ:St}{δ δ':Ev}
def aR.nin(S:aR K ml B O H σ δ){a:Ux}(h:Nn B O a):∃o,H a=ba o:=by
 rcases h with h|⟨i,h⟩
 ·exact S.zin a h
 ·obtain⟨d,e⟩:=S.dom i a h
  obtain⟨c,b,_,w⟩:=S.ow i d e;rw[h]at b;cases b;obtain⟨o,q,_⟩:=w.soft;exact⟨o,q⟩
def aR.new(S:aR K ml B O H σ δ){a:Ux}(h:H a=bb):¬Nn B O a:=λz=>by obtain⟨o,q⟩:=S.nin z;rw[h]at q;cases q
def aR.same(S:aR K ml B O H σ δ)(f:bF H H'):aR K ml B O H' σ δ where
 len:=S.len
 va:=λi d e=>let ⟨v,a,b⟩:=S.va i d e;⟨v,a,b.same f⟩
 ow:=λi d e=>let ⟨a,b,c,w⟩:=S.ow i d e;⟨a,b,c,w.fr (P:=λ_=>False) f.fr (λ_ z=>z.elim) λz=>z⟩
 dom:=S.dom
 inj:=S.inj
 old:=S.old
 zin:=λa h=>let ⟨o,q⟩:=S.zin a h;⟨o,f _ _ q⟩
 frm:=S.frm.trans f.fr
 par:=S.par
 pin:=λa h=>let ⟨o,q⟩:=S.pin a h;⟨o,f _ _ q⟩
 kep:=λp h=>(S.kep p h).same f
def aR.fresh(S:aR K ml B O H σ δ){a:Ux}(h:H a=bb):B.H0 a=bb:=by
 cases q:B.H0 a with
 |none=>rfl
 |some o=>
  by_cases b:B.P a
  ·obtain⟨o',e⟩:=S.pin a b
   rw[h]at e;cases e
  ·have := S.frm a o q λz => absurd z b
   rw[h]at this;cases this
def Bs.add(B:Bs)(p:Ux):Bs:={B with Z:=λa=>B.Z a∨a=p}
def R0{p:Ux}:∀a,Nn B O a->Nn (B.add p) O a:=λa h=>by
 rcases h with h|h
 ·exact .inl (.inl h)
 ·exact .inr h
def bC.away{p:Ux}(g:H p=bb)(N N':Ux->Prop)(f:∀a,N' a->N a∨a=p){M M':Ux->Prop}{v:V}{d:cV}(c:∀a,M' a->M a∨a=p)(h:bC K N H M v d):bC K N' H M' v d:=
 have no:∀{a:Ux}{o:HO}{M M':Ux->Prop},H a=ba o->¬M a->(∀a,M' a->M a∨a=p)->¬M' a:=λq n c z=>(c _ z).elim n λe=>by rw[e,g]at q;cases q
 bC.rec (motive_1:=λM v d _=>∀M',(∀a,M' a->M a∨a=p)->bC K N' H M' v d) (motive_2:=λvs ds _=>bZ K N' H vs ds) (λ_ _=>.non) (λb _ _=>.bl b) (λi _ _=>.int i) (λx _ _=>.str x) (λn _ _=>.ty n) (λq _ _=>.fn q) (λq _ r _ _=>.tup q r)
  (λq n _ r _ c=>.lst q (no q n c) r) (λq _ r _ _=>.fzl q r) (λq n _ r _ c=>.dct q (no q n c) r) (λq _ r _ _=>.ktb q r) (λp q r _ _=>.exn p q r) (λp q r s _ t _ _=>.exr p q r s (t _ f)) .nil (λ_ _ a b=>.cons (a _ f) b) h M' c
def bZ.away{p:Ux}(c:H p=bb)(N N':Ux->Prop)(b:∀a,N' a->N a∨a=p){vs:List V}{ds:List cV}(h:bZ K N H vs ds):bZ K N' H vs ds:=h.map λr=>r.away c N N' b b
def WH{p:Ux}:∀a,Nn (B.add p) O a->Nn B O a∨a=p:=λa h=>by
 rcases h with(h|h)|h
 ·exact .inl (.inl h)
 ·exact .inr h
 ·exact .inl (.inr h)
def aR.laid(S:aR K ml B O H σ δ){p:Ux}{o:HO}(f:H p=bb):aR K ml (B.add p) O (upd H p o) σ δ where
 len:=S.len
 va:=λi d e=>let ⟨v,a,b⟩:=S.va i d e;⟨v,a,(b.away f _ _ WH WH).same (cM f)⟩
 ow:=λi d e=>by
  obtain⟨a,b,c,w⟩:=S.ow i d e;refine⟨a,b,c,?_⟩;have g:∀o,H a=ba o->upd H p o=upd H p o:=λ_ _=>rfl;cases w with
  |lst q r=>exact .lst (cM f _ _ q) ((r.away f _ _ WH).same (cM f))
  |dct q r=>exact .dct (cM f _ _ q) ((r.away f _ _ WH).same (cM f))
 dom:=S.dom
 inj:=S.inj
 old:=λi a h=>by
  refine⟨λz=>?_,(S.old i a h).2⟩;rcases z with z|z
  ·exact(S.old i a h).1 z
  ·obtain⟨o,q⟩:=S.nin (.inr ⟨i,h⟩)
   rw[z,f]at q;cases q
 zin:=λa h=>by
  rcases h with h|h
  ·obtain⟨o,q⟩:=S.zin a h
   exact⟨o,cM f _ _ q⟩
  ·exact⟨_,by rw[h];exact b9⟩
 frm:=S.frm.trans (cM f).fr
 par:=S.par
 pin:=λa h=>let ⟨o,q⟩:=S.pin a h;⟨o,cM f _ _ q⟩
 kep:=λp h=>((S.kep p h).away f _ _ WH WH).same (cM f)
def OR{i:Nat}{o:Option Ux}:∀a,Nn B (λj=>if j=i then bb else O j) a->Nn B O a:=λa h=>by
 rcases h with h|⟨j,h⟩
 ·exact .inl h
 ·refine .inr ⟨j,?_⟩
  by_cases b:j=i
  ·simp[b]at h
  ·simpa[b]using h
def TK{α:Type}{l:List α}{i j:Nat}{x y:α}(h:(l.set i x)[j]?=ba y):(j=i/\y=x/\i<l.length)∨(j≠i/\l[j]?=ba y):=by
 by_cases a:j=i
 ·subst a
  rw[List.getElem?_set_self']at h;obtain⟨z,q,h⟩:=Ao.mp h;cases h;exact .inl ⟨rfl,rfl,(Ai.mp q).1⟩
 ·rw[Bz (Ea a)]at h
  exact .inr ⟨a,h⟩
def aR.setVa(S:aR K ml B O H σ δ){i:Nat}{v:V}{d:cV}(n:i∉ml)(h:bC K (Nn B O) H (Nn B O) v d):aR K ml B (λj=>if j=i then bb else O j) H (σ.set i (ba v)) (δ.set i (.va d)) where
 len:=by rw[Ck,Ck,S.len]
 va:=λj e q=>by
  rcases TK q with⟨rfl,z,hl⟩|⟨b,q⟩
  ·cases z
   exact⟨v,by rw[Dq (by rw[S.len];exact hl)],h.mono (OR (o:=bb)) (OR (o:=bb))⟩
  ·obtain⟨u,c,r⟩:=S.va j e q
   exact⟨u,by rw[Bz (Ea b)];exact c,r.mono (OR (o:=bb)) (OR (o:=bb))⟩
 ow:=λj e q=>by
  rcases TK q with⟨rfl,z,hl⟩|⟨b,q⟩
  ·cases z
  ·obtain⟨a,c,f,w⟩:=S.ow j e q
   exact⟨a,by simpa[b]using c,by rw[Bz (Ea b)];exact f,w.mono (OR (o:=bb))⟩
 dom:=λj a e=>by
  by_cases b:j=i
  ·simp[b]at e
  ·obtain ⟨d,q⟩ := S.dom j a (by simpa [b]using e)
   exact⟨d,by rw[Bz (Ea b)];exact q⟩
 inj:=λj k a c f=>by
  by_cases b:j=i
  ·simp[b]at c
  ·by_cases l:k=i
   ·simp[l]at f
   ·exact S.inj j k a (by simpa[b]using c) (by simpa[l]using f)
 old:=λj a e=>by
  by_cases b:j=i
  ·simp[b]at e
  ·exact S.old j a (by simpa[b]using e)
 zin:=S.zin
 frm:=S.frm
 par:=⟨S.par.1,λj b=>by have g:j≠i:=λz=>n (z▸b);have h2:O j=B.mu j:=S.par.2 j b;simpa[g]using h2⟩
 pin:=S.pin
 kep:=λp m=>(S.kep p m).mono (OR (o:=bb)) (OR (o:=bb))
def PV{i:Nat}{p:Ux}:∀a,Nn B (λj=>if j=i then ba p else O j) a->Nn (B.add p) O a:=λa h=>by
 rcases h with h|⟨j,h⟩
 ·exact .inl (.inl h)
 ·by_cases b:j=i
  ·simp[b]at h
   exact .inl (.inr h.symm)
  ·exact .inr ⟨j,by simpa[b]using h⟩
def CL.fr{P:Ux->Prop}(t:CL K H)(f:Fr P H H'):CL K H':=λa o h=>by obtain⟨_,_,rfl⟩:=DW h;exact f _ _ (t _ _ h) λ_=>trivial
def aR.tbs(S:aR K ml B O H σ δ):CL K H:=S.par.1.2.fr S.frm
def aR.setOw{p:Ux}(S:aR K ml (B.add p) O H σ δ){i:Nat}{d:cV}(n:i∉ml)(hl:i<δ.length)(hz:¬B.Z p)(o:B.H0 p=bb)(h:NY K (Nn (B.add p) O) H p d):
  aR K ml B (λj=>if j=i then ba p else O j) H (σ.set i (ba (.ref p))) (δ.set i (.ow d)) where
 len:=by rw[Ck,Ck,S.len]
 va:=λj e q=>by
  rcases TK q with⟨rfl,z,_⟩|⟨b,q⟩
  ·cases z
  ·obtain⟨u,c,r⟩:=S.va j e q
   exact⟨u,by rw[Bz (Ea b)];exact c,r.mono PV PV⟩
 ow:=λj e q=>by
  rcases TK q with⟨rfl,z,hl⟩|⟨b,q⟩
  ·cases z
   exact⟨p,by simp,by rw[Dq (by rw[S.len];exact hl)],h.mono PV⟩
  ·obtain⟨a,c,f,w⟩:=S.ow j e q
   exact⟨a,by simpa[b]using c,by rw[Bz (Ea b)];exact f,w.mono PV⟩
 dom:=λj a e=>by
  by_cases b:j=i
  ·subst b
   exact⟨d,by rw[Dq hl]⟩
  ·obtain ⟨d,q⟩ := S.dom j a (by simpa [b]using e)
   exact⟨d,by rw[Bz (Ea b)];exact q⟩
 inj:=λj k a c f=>by
  by_cases b:j=i
  ·by_cases g:k=i
   ·rw[b,g]
   ·simp[b]at c
    simp[g]at f;exact absurd (.inr c.symm) (S.old k a f).1
  ·by_cases g:k=i
   ·simp[g]at f
    simp[b]at c;exact absurd (.inr f.symm) (S.old j a c).1
   ·exact S.inj j k a (by simpa[b]using c) (by simpa[g]using f)
 old:=λj a e=>by
  by_cases b:j=i
  ·simp[b]at e
   subst e;exact⟨hz,.inr o⟩
  ·have := S.old j a (by simpa [b]using e)
   exact⟨λz=>this.1 (.inl z),this.2⟩
 zin:=λa h=>S.zin a (.inl h)
 frm:=S.frm
 par:=⟨S.par.1,λj b=>by have l:j≠i:=λz=>n (z▸b);have h2:O j=B.mu j:=S.par.2 j b;simpa[l]using h2⟩
 pin:=S.pin
 kep:=λp m=>(S.kep p m).mono PV PV
def aR.wrote(S:aR K ml B O H σ δ){i:Nat}{a:Ux}{d:cV}{o:HO}(e:O i=ba a)(E:¬Hard o)(h:NY K (Nn B O) (upd H a o) a d):aR K ml B O (upd H a o) σ (δ.set i (.ow d)):=by
 have y:Fr (λb=>b=a) H (upd H a o):=λb u q n=>by
  by_cases f:b=a
  ·subst f
   obtain⟨d',t⟩:=S.dom i b e;obtain⟨s,c,_,w⟩:=S.ow i d' t;rw[e]at c;cases c;obtain⟨C,q1,x⟩:=w.soft;rw[q]at q1;cases q1;exact absurd (n rfl) x
  ·rw[bV f]
   exact q
 have l:∀b,b=a->Nn B O b:=λb z=>.inr ⟨i,z▸e⟩;have k:∀b,(∃u,H b=ba u)->∃u,upd H a o b=ba u:=λb q0=>by
  obtain⟨u,q⟩:=q0;by_cases f:b=a
  ·exact⟨o,by rw[f];exact b9⟩
  ·exact⟨u,by rw[bV f];exact q⟩
 refine⟨by rw[Ck,S.len],λj d' q=>?_,λj d' q=>?_,λj b q=>?_,S.inj,S.old,λb h=>k b (S.zin b h),?_,S.par,λb h=>k b (S.pin b h),λp D=>(S.kep p D).fr y l l⟩
 ·rcases TK q with⟨_,z,_⟩|⟨g,q⟩
  ·cases z
  ·obtain⟨v,c,r⟩:=S.va j d' q
   exact⟨v,c,r.fr y l l⟩
 ·rcases TK q with⟨rfl,z,hl⟩|⟨g,q⟩
  ·cases z
   obtain⟨m,q0⟩:=S.dom j a e;obtain⟨s,c,A,_⟩:=S.ow j m q0;rw[e]at c;cases c;exact⟨a,e,A,h⟩
  ·obtain⟨s,c,A,w⟩:=S.ow j d' q
   exact⟨s,c,A,w.fr y l λz=>g (S.inj j i a (z▸c) e)⟩
 ·by_cases g:j=i
  ·subst g
   obtain⟨m,q0⟩:=S.dom j b q;exact⟨d,by rw[Dq (Ai.mp q0).1]⟩
  ·obtain⟨m,q0⟩:=S.dom j b q
   exact⟨m,by rw[Bz (Ea g)];exact q0⟩
 ·intro b u q n
  have h1:=S.frm b u q n;by_cases f:b=a
  ·subst f
   rcases(S.old i b e).2 with z|z
   ·obtain⟨d',t⟩:=S.dom i b e
    obtain⟨s,c,_,w⟩:=S.ow i d' t;rw[e]at c;cases c;obtain⟨C,q1,x⟩:=w.soft;rw[h1]at q1;cases q1;exact absurd (n z) x
   ·rw[q]at z
    cases z
  ·rw[bV f]
   exact h1
def aR.keepV(S:aR K ml B O H σ δ){ps:List (V×cV)}(h:∀p∈ps,bC K (Nn B O) H (Nn B O) p.1 p.2):aR K ml {B with kp:=ps++B.kp} O H σ δ:=
 ⟨S.len,S.va,S.ow,S.dom,S.inj,S.old,S.zin,S.frm,S.par,S.pin,λp a=>(Dh.mp a).elim (h p) (S.kep p)⟩
def aR.unkeep{ps:List (V×cV)}(S:aR K ml {B with kp:=ps++B.kp} O H σ δ):aR K ml B O H σ δ:=
 ⟨S.len,S.va,S.ow,S.dom,S.inj,S.old,S.zin,S.frm,S.par,S.pin,λp a=>S.kep p (At _ a)⟩
end
def rz(B:Bs):Ux->Prop:=λa=>B.Z a∨∃i,B.mu i=ba a
def av(B:Bs)(O:Nat->Option Ux)(b:Bool):Ux->Prop:=if b then Nn B O else λa=>Nn B O a/\rz B a
def at_(B:Bs)(O:Nat->Option Ux)(b:Bool):Ux->Prop:=if b then Nn B O else λ_=>False
def dE{B:Bs}{O:Nat->Option Ux}{b:Bool}:∀a,at_ B O b a->av B O b a:=λa h=>by
 cases b with
 |true=>exact h
 |false=>exact h.elim
def l7{B:Bs}{O:Nat->Option Ux}{b c:Bool}(h:b=bc->c=bc):∀a,at_ B O b a->at_ B O c a:=λa z=>by
 cases b with
 |true=>rw[h rfl];exact z
 |false=>exact z.elim
def aR.rzn{K:Ah}{ml:List Nat}{B:Bs}{O:Nat->Option Ux}{H:Hp}{σ:St}{δ:Ev}(S:aR K ml B O H σ δ):∀a,rz B a->Nn B O a:=λa h=>by
 rcases h with h|⟨i,h⟩
 ·exact .inl h
 ·exact .inr ⟨i,(S.par.2 i (S.par.1.1 i a h)).trans h⟩
def aR.rza{K:Ah}{ml:List Nat}{B:Bs}{O:Nat->Option Ux}{H:Hp}{σ:St}{δ:Ev}(S:aR K ml B O H σ δ){b:Bool}:∀a,rz B a->av B O b a:=λa h=>by
 cases b with
 |true=>exact S.rzn a h
 |false=>exact⟨S.rzn a h,h⟩
def NK{B:Bs}{O:Nat->Option Ux}{b c:Bool}(h:b=bc->c=bc):∀a,av B O b a->av B O c a:=λa z=>by
 cases b with
 |true=>rw[h rfl];exact z
 |false=>cases c with
  |true=>exact z.1
  |false=>exact z
structure Res(K:Ah)(ml:List Nat)(B:Bs)(O:Nat->Option Ux)(H:Hp)(σ:St)(pu bt bi:Bool)(H':Hp)(δ':Ev)(v:V)(d:cV):Prop where
 sta:aR K ml B O H' σ δ'
 frm:Fr (OA O) H H'
 pur:pu=bc->bF H H'
 rep:bC K (av B O bi) H' (at_ B O bt) v d
abbrev VF:=Ev->Option (cV×Ev)
inductive TVi(K:Ah)(ml:List Nat)(pu bt bi:Bool)(f:VF)(σ:St)(H:Hp)(Q:VK):Prop
 |mk (B:_) (O:_) (δ:_) (d:_) (δ':_) (h0:aR K ml B O H σ δ) (h1:f δ=ba (d,δ')) (h2:∀v H',Res K ml B O H σ pu bt bi H' δ' v d->Q v H'):TVi K ml pu bt bi f σ H Q
def TV(K:Ah)(ml:List Nat)(pu bt bi:Bool)(f:VF):TE:=λσ H Q=>TVi K ml pu bt bi f σ H Q
def PE.imp{X:Cx}{e:Vc}{t u:TE}(h:PE X e t)(k:∀σ H Q,u σ H Q->t σ H Q):PE X e u:=λaa s σ H Q I w=>h aa s σ H Q I (k σ H Q w)
def PT.imp{X:Cx}{e:Vc}{t u:TT}(h:PT X e t)(k:∀σ H Q,u σ H Q->t σ H Q):PT X e u:=λaa s σ H Q I w=>h aa s σ H Q I (k σ H Q w)
def PW.imp{X:Cx}{e:Vc}{t u:TT}(h:PW X e t)(k:∀σ H Q,u σ H Q->t σ H Q):PW X e u:=λa aa s σ H Q I w=>h a aa s σ H Q I (k σ H Q w)
def PA.imp{X:Cx}{e:List Vc}{t u:TA}(h:PA X e t)(k:∀σ H Q,u σ H Q->t σ H Q):PA X e u:=λpos aa s σ H Q I w=>h pos aa s σ H Q I (k σ H Q w)
def PS.imp{X:Cx}{e:Vj}{t u:TS}(h:PS X e t)(k:∀D σ H,u D σ H->t D σ H):PS X e u:=λaa s σ H D I w=>h aa s σ H D I (k D σ H w)
def W7.imp{X:Cx}{e:List Vj}{t u:TS}(h:W7 X e t)(k:∀D σ H,u D σ H->t D σ H):W7 X e u:=λaa s σ H D I w=>h aa s σ H D I (k D σ H w)
section
variable{X:Cx}{K:Ah}{ml:List Nat}{e a b c:Vc}{pa ta ia pb tb ib pc tc ic:Bool}{fa fb fc:VF}{r:R2}{o:cV->cV->Option cV}{B:Bs}{O:Nat->Option Ux}{H H1 H':Hp}{σ:St}{δ δ':Ev}{v:V}{d:cV}
def fC(d:cV):VF:=λδ=>ba (d,δ)
def Res.refl{pu bt bi:Bool}(S:aR K ml B O H σ δ)(h:bC K (av B O bi) H (at_ B O bt) v d):Res K ml B O H σ pu bt bi H δ v d:=⟨S,Fr.refl _ _,λ_=>bF.refl _,h⟩
def ve_c(h:PE X e (tC v))(b:∀N H M,bC K N H M v d):PE X e (TV K ml bc bc bc (fC d)):=h.imp λσ H Q a=>by obtain⟨B,O,δ,d',δ',S,q,k⟩:=a;cases q;exact k v H (Res.refl S (b _ _ _))
def cS{i j pos}:PE X (.Constant (.int i) j pos) (TV K ml bc bc bc (fC (.int i))):=ve_c pL λ_ _ _=>.int i
def YV{i j pos}:PE X (.Constant (.bool i) j pos) (TV K ml bc bc bc (fC (.bl i))):=ve_c lp λ_ _ _=>.bl i
def V5{j pos}:PE X (.Constant .none j pos) (TV K ml bc bc bc (fC .non)):=ve_c nX λ_ _ _=>.non
def cD{i j pos}:PE X (.Constant (.str i) j pos) (TV K ml bc bc bc (fC (.str i))):=ve_c Xs λ_ _ _=>.str i
noncomputable def fV(i:Nat):VF:=λδ=>match δ[i]? with
 |some (.va d)=>ba (d,δ)
 |_=>bb
noncomputable def fO(i:Nat):VF:=λδ=>match δ[i]? with
 |some (.va d)=>ba (d,δ)
 |some (.ow d)=>ba (d,δ)
 |_=>bb
def oG{i:Nat}(h:PE X e (LV i)):PE X e (TV K ml bc bc bc (fV i)):=h.imp λσ H Q a=>by
 obtain⟨B,O,δ,d',δ',S,q,k⟩:=a;unfold fV at q;split at q
 ·rename_i d b
  cases q;obtain⟨v,c,r⟩:=S.va i _ b;exact⟨v,c,k v H (Res.refl S r)⟩
 ·cases q
def me{i:Nat}(h:PE X e (LV i)):PE X e (TV K ml bc bd bc (fO i)):=h.imp λσ H Q b=>by
 obtain⟨B,O,δ,d',δ',S,q,k⟩:=b;unfold fO at q;split at q
 ·rename_i d c
  cases q;obtain⟨v,f,r⟩:=S.va i _ c;exact⟨v,f,k v H (Res.refl S (r.mono (λ_ z=>z) λa z=>z.elim))⟩
 ·rename_i d c
  cases q;obtain⟨a,f,g,w⟩:=S.ow i _ c;exact⟨.ref a,g,k _ H (Res.refl S (w.rep λz=>z))⟩
 ·cases q
def Res.live{H2:Hp}{c:V}{e:cV}(R2:Res K ml B O H1 σ pb tb ib H2 δ' c e)(b:(pb || (ta&&ia))=bc)(h:bC K (av B O ia) H1 (at_ B O ta) v d):bC K (av B O ia) H2 (at_ B O ta) v d:=by
 cases pb with
 |true=>exact h.same (R2.pur rfl)
 |false=>
  have b:(ta&&ia)=bc:=by simpa using b
  obtain⟨h1,h2⟩:=(Af _ _).mp b;subst h1 h2;exact h.fr R2.frm (λa z=>.inr z) λa z=>.inr z
noncomputable def f2(o:cV->cV->Option cV)(fa fb:VF):VF:=λδ=>(fa δ).bind λp=>(fb p.2).bind λq=>(o p.1 q.1).map λc=>(c,q.2)
def RL{δ2:Ev}(h:f2 o fa fb δ=ba (d,δ2)):∃x δ1 y,fa δ=ba (x,δ1)/\fb δ1=ba (y,δ2)/\o x y=ba d:=by
 unfold f2 at h;cases h1:fa δ with
 |none=>rw[h1]at h;cases h
 |some p=>
  rw[h1]at h;cases h2:fb p.2 with
  |none=>simp[h2]at h
  |some q=>
   simp only[Av,h2]at h;obtain⟨c,a,h⟩:=Ao.mp h;cases h;exact⟨p.1,p.2,q.1,rfl,h2,a⟩
def OB(K:Ah)(r:R2)(o:cV->cV->Option cV):Prop:=∀(H:Hp) (N N' M M':Ux->Prop) (x y:V) (d e c:cV) (Q:VK),bC K N H M x d->bC K N' H M' y e->o d e=ba c->(∀v,(∀H' N M,bC K N H' M v c)->Q v H)->r x y H Q
def OpC(K:Ah)(r:R2)(o:cV->cV->Option cV):Prop:=∀(H:Hp) (N M M':Ux->Prop) (x y:V) (d e c:cV) (Q:VK),bC K N H M x d->bC K N H M' y e->o d e=ba c->
 (∀v H',bF H H'->(∀M,(∀a,M a->∃o,H a=ba o)->bC K N H' M v c)->Q v H')->r x y H Q
def OpI(K:Ah)(r:R2)(o:cV->cV->Option cV):Prop:=∀(H:Hp) (N N' M M':Ux->Prop) (x y:V) (d e c:cV) (Q:VK),bC K N H M x d->bC K N' H M' y e->o d e=ba c->(∀v,bC K N H N v c->Q v H)->r x y H Q
def D1(j:OB K r o)(i:(pb || (ta&&ia))=bc){Q:VK}(h:TV K ml (pa&&pb) bc bc (f2 o fa fb) σ H Q):tOp r (TV K ml pa ta ia fa) (TV K ml pb tb ib fb) σ H Q:=by
 obtain⟨B,O,δ,d,δ2,S,q,k⟩:=h;obtain⟨x,δ1,y,h1,h2,l⟩:=RL q;refine⟨B,O,δ,x,δ1,S,h1,λf H1 a=>⟨B,O,δ1,y,δ2,a.sta,h2,λe H2 R2=>?_⟩⟩;exact j H2 _ _ _ _ f e x y d Q (R2.live i a.rep) R2.rep l λv g=>k v H2 ⟨R2.sta,a.frm.trans R2.frm,λz=>by obtain⟨c,b⟩:=(Af _ _).mp z;exact(a.pur c).trans (R2.pur b),g _ _ _⟩
def mI(l:OpC K r o)(j:(pb || (ta&&ia))=bc){Q:VK}(h:TV K ml (pa&&pb) bc (ia&&ib) (f2 o fa fb) σ H Q):tOp r (TV K ml pa ta ia fa) (TV K ml pb tb ib fb) σ H Q:=by obtain⟨B,O,δ,d,δ2,S,q,k⟩:=h;obtain⟨x,δ1,y,h1,h2,m⟩:=RL q;refine⟨B,O,δ,x,δ1,S,h1,λg H1 b=>⟨B,O,δ1,y,δ2,b.sta,h2,λf H2 R2=>?_⟩⟩;have p:∀a,av B O (ia&&ib) a->av B O ia a:=NK λz=>((Af _ _).mp z).1;have n:∀a,av B O (ia&&ib) a->av B O ib a:=NK λz=>((Af _ _).mp z).2;refine l H2 (av B O (ia&&ib)) _ _ g f x y d Q ((R2.live j b.rep).mono p λ_ z=>z) (R2.rep.mono n λ_ z=>z) m λv s s3 i=>k v s ⟨R2.sta.same s3,(b.frm.trans R2.frm).trans s3.fr,λz=>?_,i _ λa z=>R2.sta.nin z⟩;obtain⟨e,c⟩:=(Af _ _).mp z;exact((b.pur e).trans (R2.pur c)).trans s3
def l5(j:OpI K r o)(i:(pb || (ta&&ia))=bc){Q:VK}(h:TV K ml (pa&&pb) ia ia (f2 o fa fb) σ H Q):tOp r (TV K ml pa ta ia fa) (TV K ml pb tb ib fb) σ H Q:=by
 obtain⟨B,O,δ,d,δ2,S,q,k⟩:=h;obtain⟨x,δ1,y,h1,h2,l⟩:=RL q;refine⟨B,O,δ,x,δ1,S,h1,λf H1 a=>⟨B,O,δ1,y,δ2,a.sta,h2,λe H2 R2=>?_⟩⟩;exact j H2 _ _ _ _ f e x y d Q (R2.live i a.rep) R2.rep l λv g=>k v H2 ⟨R2.sta,a.frm.trans R2.frm,λz=>by obtain⟨c,b⟩:=(Af _ _).mp z;exact(a.pur c).trans (R2.pur b),g.mono (λ_ z=>z) dE⟩
def YI{op:Operator}{pos:Pos}(e:WZ X (Fz op) r)(c:OB K r o)(g:PE X a (TV K ml pa ta ia fa))(f:PE X b (TV K ml pb tb ib fb))(d:(pb || (ta&&ia))=bc:=by rfl):PE X (.BinOp a op b pos) (TV K ml (pa&&pb) bc bc (f2 o fa fb)):=
 (Yg e g f).imp λ_ _ _ h=>D1 c d h
def bI{op:Operator}{pos:Pos}(e:WZ X (Fz op) r)(c:OpC K r o)(g:PE X a (TV K ml pa ta ia fa))(f:PE X b (TV K ml pb tb ib fb))(d:(pb || (ta&&ia))=bc:=by rfl):PE X (.BinOp a op b pos) (TV K ml (pa&&pb) bc (ia&&ib) (f2 o fa fb)):=
 (Yg e g f).imp λ_ _ _ h=>mI c d h
def YH{op:CmpOp}{pos:Pos}(e:WZ X (Dr op) r)(c:OB K r o)(i:PE X a (TV K ml pa ta ia fa))(g:PE X b (TV K ml pb tb ib fb))(f:Il op b=bd:=by exact UF _)(d:(pb || (ta&&ia))=bc:=by rfl):PE X (.Compare a [op] [b] pos) (TV K ml (pa&&pb) bc bc (f2 o fa fb)):=
 (jn e i g f).imp λ_ _ _ h=>D1 c d h
def oZ{pos:Pos}(f:IxR X r)(d:OpI K r o)(i:PE X a (TV K ml pa ta ia fa))(g:PE X b (TV K ml pb tb ib fb))(c:GW b)(e:(pb || (ta&&ia))=bc:=by rfl):PE X (.Subscript a b pos) (TV K ml (pa&&pb) ia ia (f2 o fa fb)):=
 (mz f i g c).imp λ_ _ _ h=>l5 d e h
noncomputable def oI(C:Int->Int->Bool)(g:Int->Int->cV):cV->cV->Option cV
 |.int i,.int j=>if C i j=bc then ba (g i j)else bb
 |_,_=>bb
def Zi{C:Int->Int->Bool}{g:Int->Int->cV}{d e c:cV}(h:oI C g d e=ba c):∃i j,d=.int i/\e=.int j/\C i j=bc/\c=g i j:=by
 unfold oI at h;split at h
 ·split at h
  ·rename_i hc
   cases h;exact⟨_,_,rfl,rfl,hc,rfl⟩
  ·cases h
 ·cases h
def BG{C:Int->Int->Prop}{a:Int->Int->Bool}{g:Int->Int->V}{g':Int->Int->cV}(m:∀i j,a i j=bc->C i j)(l:∀i j N H M,bC K N H M (g i j) (g' i j)):OB K (rI C g) (oI a g'):=by intro H N N' M M' x y d e c Q f b h k;obtain⟨i,j,rfl,rfl,hc,rfl⟩:=Zi h;cases f.onI;cases b.onI;exact⟨_,_,rfl,rfl,m _ _ hc,k _ λ_ _ _=>l ..⟩
def M4{g:Int->Int->V}{g':Int->Int->cV}(f:∀i j N H M,bC K N H M (g i j) (g' i j)):OB K (DN g) (oI (λ_ _=>bc) g'):=by intro H N N' M M' x y d e c Q b a h k;obtain⟨i,j,rfl,rfl,hc,rfl⟩:=Zi h;cases b.onI;cases a.onI;exact⟨_,_,rfl,rfl,k _ λ_ _ _=>f ..⟩
noncomputable def cMul(i j:Int):Bool:=(decide (-18446744073709551616<i)&&decide (i<18446744073709551616)) || (decide (-18446744073709551616<j)&&decide (j<18446744073709551616))
noncomputable def cDiv(i j:Int):Bool:=decide (0<j)&&decide (j<1073741824)
def cPow(i j:Int):Bool:=decide (0<=j)&&decide (j<=1000000)&&decide (i.natAbs<18446744073709551616)
abbrev M3:=oI (λ_ _=>bc) λi j=>.int (i-j)
abbrev oMul:=oI cMul λi j=>.int (i*j)
abbrev A8:=oI cDiv λi j=>.int (i/j)
abbrev HU:=oI (λ_ j=>decide (0<j)) λi j=>.int (i % j)
abbrev oPow:=oI cPow λi j=>.int (i ^ j.toNat)
abbrev oLt:=oI (λ_ _=>bc) λi j=>.bl (decide (i<j))
abbrev oLe:=oI (λ_ _=>bc) λi j=>.bl (decide (i<=j))
abbrev oGt:=oI (λ_ _=>bc) λi j=>.bl (decide (j<i))
abbrev oGe:=oI (λ_ _=>bc) λi j=>.bl (decide (j<=i))
def OU:OB K (DN λi j=>.int (i-j)) M3:=M4 λi j _ _ _=>.int _
def eS:OB K (rI CMul λi j=>.int (i*j)) oMul:=BG (λi j h=>by
 have p:(2:Int) ^ 64=18446744073709551616:=by decide
 unfold CMul;rw[p];simpa[cMul]using h) λi j _ _ _=>.int _
def dI:OB K (rI CDiv λi j=>.int (i/j)) A8:=BG (λi j h=>by show 0<j/\j<1073741824;simpa[cDiv]using h) λi j _ _ _=>.int _
def OT:OB K (rI (λ_ j=>0<j) λi j=>.int (i % j)) HU:=BG (λi j h=>by simpa using h) λi j _ _ _=>.int _
def pJ:OB K (rI CPow λi j=>.int (i ^ j.toNat)) oPow:=BG (λi j h=>by
 have p:(2:Nat) ^ 64=18446744073709551616:=by decide
 unfold CPow;rw[p];simpa[cPow,and_assoc]using h) λi j _ _ _=>.int _
def s_lt:OB K (DN λi j=>.bl (decide (i<j))) oLt:=M4 λi j _ _ _=>.bl _
def s_le:OB K (DN λi j=>.bl (decide (i<=j))) oLe:=M4 λi j _ _ _=>.bl _
def s_gt:OB K (DN λi j=>.bl (decide (j<i))) oGt:=M4 λi j _ _ _=>.bl _
def s_ge:OB K (DN λi j=>.bl (decide (j<=i))) oGe:=M4 λi j _ _ _=>.bl _
def KI(d:cV):Bool:=d.isD&&Fd d.pd
def eqD(d e:cV):Bool:=Kf d.pd e.pd
def XN(d e:cV):Option cV:=if(KI d&&KI e)=bc then ba (.bl (eqD d e))else bb
def UH(d e:cV):Option cV:=if(KI d&&KI e)=bc then ba (.bl (!eqD d e))else bb
def s_eq:OB K (rEqD K) XN:=by
 intro H N N' M M' x y d e c Q f b h k;unfold XN at h;split at h
 ·rename_i a
  cases h;simp only[KI,Af]at a;exact⟨d.pd,e.pd,f.dp a.1.1,b.dp a.2.1,a.1.2,a.2.2,k _ λ_ _ _=>.bl _⟩
 ·cases h
def R7:OB K (rNeD K) UH:=by
 intro H N N' M M' x y d e c Q f b h k;unfold UH at h;split at h
 ·rename_i a
  cases h;simp only[KI,Af]at a;exact⟨d.pd,e.pd,f.dp a.1.1,b.dp a.2.1,a.1.2,a.2.2,k _ λ_ _ _=>.bl _⟩
 ·cases h
noncomputable def isN:cV->Bool
 |.non=>bc
 |_=>bd
def FE:cV->cV->Option cV
 |d,.non=>ba (.bl (isN d))
 |_,_=>bb
def OS:cV->cV->Option cV
 |d,.non=>ba (.bl (!isN d))
 |_,_=>bb
def BX{N M:Ux->Prop}(h:bC K N H M v d):decide (v=V.non)=isN d:=by
 cases h<;>simp[isN]
def dF:OB K (λx y H Q=>y=.non/\Q (.bl (decide (x=.non))) H) FE:=by
  intro H N N' M M' x y d e c Q b a h k;cases a<;>first
    | (cases h
       refine⟨rfl,?_⟩;rw[BX b];exact k _ λ_ _ _=>.bl _)
    |(simp[FE]at h)
def Xp:OB K (λx y H Q=>y=.non/\Q (.bl (!decide (x=.non))) H) OS:=by
  intro H N N' M M' x y d e c Q b a h k;cases a<;>first
    | (cases h
       refine⟨rfl,?_⟩;rw[BX b];exact k _ λ_ _ _=>.bl _)
    |(simp[OS]at h)
noncomputable def XG:cV->Option (List cV)
 |.tup ds=>ba ds
 |.lst ds=>ba ds
 |_=>bb
def bC.seq{N M:Ux->Prop}{ds:List cV}(h:bC K N H M v d)(e:XG d=ba ds):∃a xs,v=.ref a/\(X8 K H a xs∨WN K H a xs)/\bZ K N H xs ds:=by
 cases h<;>first
  |(cases e;rename_i q r;exact⟨_,_,rfl,.inr q,r⟩)
  |(cases e;rename_i q n r;exact⟨_,_,rfl,.inl (X8.of q),r⟩)
  |(cases e;rename_i q r;exact⟨_,_,rfl,.inl q.sq,r⟩)
  |cases e
def gJ{N:Ux->Prop}{xs:List V}{ds:List cV}{i:Int}(r:bZ K N H xs ds)(h:SQ ds i=ba d):∃v,SQ xs i=ba v/\bC K N H N v d:=by
 unfold SQ at h⊢;rw[r.length];cases hi:ixN ds.length i with
 |none=>rw[hi]at h;cases h
 |some j=>
  rw[hi]at h;exact r.get h
end
section
variable{X:Cx}{K:Ah}{ml:List Nat}{e a b c:Vc}{es:List Vc}{pa ta ia pb tb ib pc tc ic pu bt bi ps bs:Bool}{fa fb fc:VF}{r r':R2}{o o':cV->cV->Option cV}{B:Bs}{O:Nat->Option Ux}{H H1 H':Hp}{σ:St}{δ δ':Ev}{v:V}{d:cV}{p:Ux}{pos:Pos}
def aR.unadd(S:aR K ml (B.add p) O H σ δ):aR K ml B O H σ δ where
 len:=S.len
 va:=λi d e=>let ⟨v,a,b⟩:=S.va i d e;⟨v,a,b.mono R0 R0⟩
 ow:=λi d e=>let ⟨a,b,c,w⟩:=S.ow i d e;⟨a,b,c,w.mono R0⟩
 dom:=S.dom
 inj:=S.inj
 old:=λi a h=>⟨λz=>(S.old i a h).1 (.inl z),(S.old i a h).2⟩
 zin:=λa h=>S.zin a (.inl h)
 frm:=S.frm
 par:=S.par
 pin:=S.pin
 kep:=λp h=>(S.kep p h).mono R0 R0
structure ResN(K:Ah)(ml:List Nat)(B:Bs)(O:Nat->Option Ux)(H:Hp)(σ:St)(pu:Bool)(H':Hp)(δ':Ev)(p:Ux)(d:cV):Prop where
 sta:aR K ml (B.add p) O H' σ δ'
 frm:Fr (OA O) H H'
 pur:pu=bc->bF H H'
 own:NY K (Nn (B.add p) O) H' p d
 nz:¬Nn B O p
 h0:B.H0 p=bb
inductive TNi(K:Ah)(ml:List Nat)(pu:Bool)(f:VF)(σ:St)(H:Hp)(Q:VK):Prop
 |mk (B:_) (O:_) (δ:_) (d:_) (δ':_) (h0:aR K ml B O H σ δ) (h1:f δ=ba (d,δ')) (h2:∀p H',ResN K ml B O H σ pu H' δ' p d->Q (.ref p) H'):TNi K ml pu f σ H Q
def TN(K:Ah)(ml:List Nat)(pu:Bool)(f:VF):TE:=λσ H Q=>TNi K ml pu f σ H Q
def bX{f:VF}(h:PE X e (TN K ml pu f)):PE X e (TV K ml pu bc bc f):=h.imp λσ H Q ⟨B,O,δ,d,δ',S,q,k⟩=>
 ⟨B,O,δ,d,δ',S,q,λp H' R=>k _ H' ⟨R.sta.unadd,R.frm,R.pur,(R.own.mono R0).rep R.nz⟩⟩
def mkN{xs:List V}{ds:List cV}(S:aR K ml B O H1 σ δ')(f:Fr (OA O) H H1)(s:pu=bc->bF H H1)(a:H1 p=bb)(r:bZ K (Nn B O) H1 xs ds):ResN K ml B O H σ pu (upd H1 p (.lst xs)) δ' p (.lst ds):=
 ⟨S.laid a,f.trans (cM a).fr,λz=>(s z).trans (cM a),.lst b9 ((r.away a _ _ WH).same (cM a)),S.new a,S.fresh a⟩
def mkD(S:aR K ml B O H1 σ δ')(f:Fr (OA O) H H1)(s:pu=bc->bF H H1)(a:H1 p=bb):ResN K ml B O H σ pu (upd H1 p (.dK [])) δ' p (.dct [] []):=
 ⟨S.laid a,f.trans (cM a).fr,λz=>(s z).trans (cM a),.dct (kvs:=[]) b9 .nil,S.new a,S.fresh a⟩
def GG:PE X (.Dict [] [] pos) (TN K ml bc (fC (.dct [] []))):=zDF.imp λσ H Q a=>by obtain⟨B,O,δ,d,δ',S,q,k⟩:=a;cases q;exact λp b=>k p _ (mkD S (Fr.refl _ _) (λ_=>bF.refl _) b)
abbrev N0:=Ev->Option (List cV×Ev)
structure ResA(K:Ah)(ml:List Nat)(B:Bs)(O:Nat->Option Ux)(H:Hp)(σ:St)(pu b:Bool)(H':Hp)(δ':Ev)(vs:List V)(ds:List cV):Prop where
 sta:aR K ml B O H' σ δ'
 frm:Fr (OA O) H H'
 pur:pu=bc->bF H H'
 rep:bZ K (av B O b) H' vs ds
inductive TAVi(K:Ah)(ml:List Nat)(pu b:Bool)(f:N0)(σ:St)(H:Hp)(Q:List V->Hp->Prop):Prop
 |mk (B:_) (O:_) (δ:_) (d:_) (δ':_) (h0:aR K ml B O H σ δ) (h1:f δ=ba (d,δ')) (h2:∀vs H',ResA K ml B O H σ pu b H' δ' vs d->Q vs H'):TAVi K ml pu b f σ H Q
def TAV(K:Ah)(ml:List Nat)(pu b:Bool)(f:N0):TA:=λσ H Q=>TAVi K ml pu b f σ H Q
def bU:N0:=λδ=>ba ([],δ)
noncomputable def cO(fa:VF)(fs:N0):N0:=λδ=>(fa δ).bind λp=>(fs p.2).map λq=>(p.1::q.1,q.2)
def iI{fs:N0}{ds:List cV}(h:cO fa fs δ=ba (ds,δ')):∃x δ1 xs,fa δ=ba (x,δ1)/\fs δ1=ba (xs,δ')/\ds=x::xs:=by
 unfold cO at h;cases h1:fa δ with
 |none=>rw[h1]at h;cases h
 |some p=>
  rw[h1]at h;cases h2:fs p.2 with
  |none=>simp[h2]at h
  |some q=>
   simp only[Av,h2]at h;cases h;exact⟨p.1,p.2,q.1,rfl,h2,rfl⟩
def cJ:PA X [] (TAV K ml bc bc bU):=aD.imp λσ H Q a=>by obtain⟨B,O,δ,d,δ',S,q,k⟩:=a;cases q;exact k [] H ⟨S,Fr.refl _ _,λ_=>bF.refl _,.nil⟩
def cT{fs:N0}(o:PE X a (TV K ml pa ta ia fa))(n:PA X es (TAV K ml ps bs fs))(e:SE X a es:=by rfl)(hl:(ps || (ta&&ia))=bc:=by rfl)(m:ta=bc:=by rfl):
  PA X (a::es) (TAV K ml (pa&&ps) (ta&&ia&&bs) (cO fa fs)):=(bN o n e).imp λσ H Q f=>by
 obtain⟨B,O,δ,d,δ2,S,q,k⟩:=f;obtain⟨x,δ1,xs,h1,h2,rfl⟩:=iI q;refine⟨B,O,δ,x,δ1,S,h1,λl H1 b=>⟨B,O,δ1,xs,δ2,b.sta,h2,λvs H2 R2=>k _ H2 ⟨R2.sta,b.frm.trans R2.frm,λz=>?_,?_⟩⟩⟩
 ·obtain⟨j,i⟩:=(Af _ _).mp z
  exact(b.pur j).trans (R2.pur i)
 ·have g : ∀ c,((ta && ia && bs) = bc -> c = bc) -> ∀ a,av B O (ta && ia && bs) a -> av B O c a := λc h => NK h
  have s:=g ta λz=>by simp only[Af]at z;exact z.1.1
  have r:=g ia λz=>by simp only[Af]at z;exact z.1.2
  have p:=g bs λz=>by simp only[Af]at z;exact z.2
  refine .cons ?_ (R2.rep.mono p);have h:bC K (av B O ia) H2 (at_ B O ta) l x:=by
   cases ps with
   |true=>exact b.rep.same (R2.pur rfl)
   |false=>
    have e:(ta&&ia)=bc:=by simpa using hl
    obtain⟨h1,h2⟩:=(Af _ _).mp e;subst h1 h2;exact b.rep.fr R2.frm (λa z=>.inr z) λa z=>.inr z
  subst m;exact h.mono r s
def aR.lone(S:aR K ml B O H σ δ){i:Nat}{x:cV}(f:i∉ml)(h:fO i δ=ba (x,δ')):δ'=δ/\∃v,σ[i]?=ba (ba v)/\bC K (av B O bd) H (av B O bd) v x:=by
 unfold fO at h;split at h
 ·rename_i d c
  cases h;obtain⟨v,b,r⟩:=S.va i _ c;exact⟨rfl,v,b,r.mono (λa z=>z.1) λa z=>z.1⟩
 ·rename_i d c
  cases h;obtain⟨a,b,g,w⟩:=S.ow i _ c;refine⟨rfl,.ref a,g,(w.mono λa z=>z.1).rep λz=>?_⟩;rcases z.2 with z|⟨j,z⟩
  ·exact(S.old i a b).1 z
  ·have e:=S.par.1.1 j a z
   have:i=j:=S.inj i j a b ((S.par.2 j e).trans z)
   exact f (this▸e)
 ·cases h
noncomputable def aH(fs:N0):VF:=λδ=>(fs δ).bind λp=>if p.1.length<=16777216 then ba (.tup p.1,p.2)else bb
noncomputable def ZG(fs:N0):VF:=λδ=>(fs δ).bind λp=>if p.1.length<=16777216 then ba (.lst p.1,p.2)else bb
def MJ{fs:N0}{g:List cV->cV}(h:((fs δ).bind λp=>if p.1.length<=16777216 then ba (g p.1,p.2)else bb)=ba (d,δ')):∃ds,fs δ=ba (ds,δ')/\ds.length<=16777216/\d=g ds:=by
 cases h1:fs δ with
 |none=>rw[h1]at h;cases h
 |some p=>
  rw[h1]at h;have h:(if p.1.length<=16777216 then ba (g p.1,p.2)else bb)=ba (d,δ'):=h;split at h
  ·cases h
   exact⟨p.1,rfl,by assumption,rfl⟩
  ·cases h
def bP{x1}{fs:N0}(h:PA X es (TAV K ml pu bs fs)):PE X (.Tuple es x1 pos) (TV K ml pu bc bs (aH fs)):=(dG h).imp λσ H Q b=>by obtain⟨B,O,δ,d,δ',S,q,k⟩:=b;obtain⟨ds,h1,hl,rfl⟩:=MJ (g:=cV.tup) q;refine⟨B,O,δ,ds,δ',S,h1,λvs H1 R=>⟨by rw[R.rep.length,Cf];exact hl,λp a=>k _ _ ⟨R.sta.same (cM a),R.frm.trans (cM a).fr,λz=>(R.pur z).trans (cM a),.tup (WN.of b9) (R.rep.same (cM a))⟩⟩⟩
def l6{fs:N0}(h:PA X es (TAV K ml pu bs fs)):PE X (.List es pos) (TV K ml pu bc bs (ZG fs)):=(Zr h).imp λσ H Q b=>by obtain⟨B,O,δ,d,δ',S,q,k⟩:=b;obtain⟨ds,h1,hl,rfl⟩:=MJ (g:=cV.lst) q;refine⟨B,O,δ,ds,δ',S,h1,λvs H1 R=>⟨by rw[R.rep.length,Cf];exact hl,λp a=>k _ _ ⟨R.sta.same (cM a),R.frm.trans (cM a).fr,λz=>(R.pur z).trans (cM a),.lst b9 (R.sta.new a) (R.rep.same (cM a))⟩⟩⟩
def aX{fs:N0}(h:PA X es (TAV K ml pu bc fs)):PE X (.List es pos) (TN K ml pu (ZG fs)):=(Zr h).imp λσ H Q a=>by obtain⟨B,O,δ,d,δ',S,q,k⟩:=a;obtain⟨ds,h1,hl,rfl⟩:=MJ (g:=cV.lst) q;exact⟨B,O,δ,ds,δ',S,h1,λvs H1 R=>⟨by rw[R.rep.length,Cf];exact hl,λp b=>k p _ (mkN R.sta R.frm R.pur b R.rep)⟩⟩
abbrev VB:=Ev->Option (Bool×Ev)
structure ResB(K:Ah)(ml:List Nat)(B:Bs)(O:Nat->Option Ux)(H:Hp)(σ:St)(pu:Bool)(H':Hp)(δ':Ev):Prop where
 sta:aR K ml B O H' σ δ'
 frm:Fr (OA O) H H'
 pur:pu=bc->bF H H'
inductive TBi(K:Ah)(ml:List Nat)(pu:Bool)(f:VB)(σ:St)(H:Hp)(Q:Bool->Hp->Prop):Prop
 |mk (B:_) (O:_) (δ:_) (k:_) (δ':_) (h0:aR K ml B O H σ δ) (h1:f δ=ba (k,δ')) (h2:∀H',ResB K ml B O H σ pu H' δ'->Q k H'):TBi K ml pu f σ H Q
def TB(K:Ah)(ml:List Nat)(pu:Bool)(f:VB):TT:=λσ H Q=>TBi K ml pu f σ H Q
noncomputable def fB(f:VF):VB:=λδ=>(f δ).bind λp=>match p.1 with
 |.bl k=>ba (k,p.2)
 |_=>bb
def pB{f:VF}{k:Bool}(h:fB f δ=ba (k,δ')):f δ=ba (.bl k,δ'):=by
 unfold fB at h;cases h1:f δ with
 |none=>rw[h1]at h;cases h
 |some p=>
  obtain⟨x,δ1⟩:=p;rw[h1]at h;cases x<;>first
   |(cases h;rfl)
   |cases h
def IM{f:VF}{t:TE}(a:∀σ H Q,TV K ml pu bt bi f σ H Q->t σ H Q){Q:Bool->Hp->Prop}(h:TB K ml pu (fB f) σ H Q):t σ H λx H'=>∃k,x=.bl k/\Q k H':=by obtain⟨B,O,δ,k,δ',S,q,w⟩:=h;refine a σ H _ ⟨B,O,δ,.bl k,δ',S,pB q,λv H' R=>⟨k,?_,w H' ⟨R.sta,R.frm,R.pur⟩⟩⟩;exact R.rep.onB
def bQ{op:CmpOp}(e:WZ X (Dr op) r)(c:OB K r o)(i:PE X a (TV K ml pa ta ia fa))(g:PE X b (TV K ml pb tb ib fb))(f:Il op b=bd:=by exact UF _)(d:(pb || (ta&&ia))=bc:=by rfl):PT X (.Compare a [op] [b] pos) (TB K ml (pa&&pb) (fB (f2 o fa fb))):=
 (jE e i g f).imp λ_ _ _ h=>IM (λ_ _ _=>D1 c d) h
def aP{f:VF}(h:PE X e (TV K ml pu bt bi f))(b:∀a,isTrue e X.env a=(do let v<-a;Oj e.pos;Px [v] (truthy v)):=by intro _;rfl):PT X e (TB K ml pu (fB f)):=
 (mQ h b).imp λ_ _ _ h=>IM (λ_ _ _ z=>z) h
noncomputable def QI(x y:VB):VB:=λδ=>(x δ).bind λp=>if p.1=bc then y p.2 else ba (bd,p.2)
noncomputable def GR(x y:VB):VB:=λδ=>(x δ).bind λp=>if p.1=bc then ba (bc,p.2)else y p.2
noncomputable def VW(x:VB):VB:=λδ=>(x δ).map λp=>(!p.1,p.2)
def ResB.refl(S:aR K ml B O H σ δ):ResB K ml B O H σ pu H δ:=⟨S,Fr.refl _ _,λ_=>bF.refl _⟩
def lL{x y:VB}{Q:Bool->Hp->Prop}(h:TB K ml (pa&&pb) (QI x y) σ H Q):tAnd (TB K ml pa x) (TB K ml pb y) σ H Q:=by
 obtain⟨B,O,δ,k,δ',S,q,w⟩:=h;unfold QI at q;obtain⟨⟨kk,δ1⟩,h1,q⟩:=Ac.mp q;refine⟨B,O,δ,kk,δ1,S,h1,λH1 a=>?_⟩;cases kk with
 |true=>
  have q:y δ1=ba (k,δ'):=q;exact PQ ⟨B,O,δ1,k,δ',a.sta,q,λH2 R2=>w H2 ⟨R2.sta,a.frm.trans R2.frm,λz=>by obtain⟨c,b⟩:=(Af _ _).mp z;exact(a.pur c).trans (R2.pur b)⟩⟩
 |false=>
  have q:ba (bd,δ1)=ba (k,δ'):=q;cases q;exact PP (w H1 ⟨a.sta,a.frm,λz=>a.pur ((Af _ _).mp z).1⟩)
def fZ{x y:VB}{Q:Bool->Hp->Prop}(h:TB K ml (pa&&pb) (GR x y) σ H Q):tOr (TB K ml pa x) (TB K ml pb y) σ H Q:=by
 obtain⟨B,O,δ,k,δ',S,q,w⟩:=h;unfold GR at q;obtain⟨⟨kk,δ1⟩,h1,q⟩:=Ac.mp q;refine⟨B,O,δ,kk,δ1,S,h1,λH1 a=>?_⟩;cases kk with
 |false=>
  have q:y δ1=ba (k,δ'):=q;exact PP ⟨B,O,δ1,k,δ',a.sta,q,λH2 R2=>w H2 ⟨R2.sta,a.frm.trans R2.frm,λz=>by obtain⟨c,b⟩:=(Af _ _).mp z;exact(a.pur c).trans (R2.pur b)⟩⟩
 |true=>
  have q:ba (bc,δ1)=ba (k,δ'):=q;cases q;exact PQ (w H1 ⟨a.sta,a.frm,λz=>a.pur ((Af _ _).mp z).1⟩)
def Y8{x:VB}(h:PT X a (TB K ml pu x)):PT X (.UnaryOp .Not a pos) (TB K ml pu (VW x)):=(lb h).imp λσ H Q b=>by obtain⟨B,O,δ,k,δ',S,q,w⟩:=b;unfold VW at q;obtain⟨p,h1,q⟩:=Ao.mp q;cases q;exact⟨B,O,δ,p.1,p.2,S,h1,w⟩
def TR{x:VB}(h:PT X a (TB K ml pu x)):PW X (.BoolOp .And [a] pos) (TB K ml pu x):=fY h
def XM{x:VB}(h:PT X a (TB K ml pu x)):PW X (.BoolOp .Or [a] pos) (TB K ml pu x):=kH h
def P7{x y:VB}(d:PT X a (TB K ml pa x))(c:PW X (.BoolOp .And (b::es) pos) (TB K ml pb y)):PW X (.BoolOp .And (a::b::es) pos) (TB K ml (pa&&pb) (QI x y)):=(nu d c).imp λ_ _ _ h=>lL h
def VV{x y:VB}(d:PT X a (TB K ml pa x))(c:PW X (.BoolOp .Or (b::es) pos) (TB K ml pb y)):PW X (.BoolOp .Or (a::b::es) pos) (TB K ml (pa&&pb) (GR x y)):=(lG d c).imp λ_ _ _ h=>fZ h
def UW{x:VB}(h:PW X e (TB K ml pu x)):PT X e (TB K ml pu x):=h.pt
noncomputable def RM(x y:VF):VF:=λδ=>(x δ).bind λp=>match p.1 with
 |.bl bc=>y p.2
 |.bl bd=>ba (.bl bd,p.2)
 |_=>bb
noncomputable def fOr(x y:VF):VF:=λδ=>(x δ).bind λp=>match p.1 with
 |.bl bd=>y p.2
 |.bl bc=>ba (.bl bc,p.2)
 |_=>bb
def X2{op}{f:VF}(h:PE X a (TV K ml pu bt bi f)):PE X (.BoolOp op [a] pos) (TV K ml pu bt bi f):=mM h
def XH(l:PE X a (TV K ml pa ta ia fa))(j:PE X (.BoolOp .And (b::es) pos) (TV K ml pb tb ib fb)):PE X (.BoolOp .And (a::b::es) pos) (TV K ml (pa&&pb) tb ib (RM fa fb)):=(jI l j).imp λσ H Q e=>by
 obtain⟨B,O,δ,d,δ',S,q,k⟩:=e;unfold RM at q;obtain⟨⟨x,δ1⟩,h1,q⟩:=Ac.mp q;refine⟨B,O,δ,x,δ1,S,h1,λi H1 c=>?_⟩;cases x with
 |bl kk=>
  have m:i=.bl kk:=c.rep.onB;refine⟨kk,m,?_⟩;cases kk with
  |true=>
   exact PQ ⟨B,O,δ1,d,δ',c.sta,q,λh H2 R2=>k h H2 ⟨R2.sta,c.frm.trans R2.frm,λz=>by obtain⟨g,f⟩:=(Af _ _).mp z;exact(c.pur g).trans (R2.pur f),R2.rep⟩⟩
  |false=>
   cases q;exact PP (k _ H1 ⟨c.sta,c.frm,λz=>c.pur ((Af _ _).mp z).1,.bl _⟩)
 |_=>cases q
def Wu(l:PE X a (TV K ml pa ta ia fa))(j:PE X (.BoolOp .Or (b::es) pos) (TV K ml pb tb ib fb)):PE X (.BoolOp .Or (a::b::es) pos) (TV K ml (pa&&pb) tb ib (fOr fa fb)):=(p9 l j).imp λσ H Q e=>by
 obtain⟨B,O,δ,d,δ',S,q,k⟩:=e;unfold fOr at q;obtain⟨⟨x,δ1⟩,h1,q⟩:=Ac.mp q;refine⟨B,O,δ,x,δ1,S,h1,λi H1 c=>?_⟩;cases x with
 |bl kk=>
  have m:i=.bl kk:=c.rep.onB;refine⟨kk,m,?_⟩;cases kk with
  |false=>
   exact PP ⟨B,O,δ1,d,δ',c.sta,q,λh H2 R2=>k h H2 ⟨R2.sta,c.frm.trans R2.frm,λz=>by obtain⟨g,f⟩:=(Af _ _).mp z;exact(c.pur g).trans (R2.pur f),R2.rep⟩⟩
  |true=>
   cases q;exact PQ (k _ H1 ⟨c.sta,c.frm,λz=>c.pur ((Af _ _).mp z).1,.bl _⟩)
 |_=>cases q
def fIf(t:VB)(x y:VF):VF:=λδ=>(t δ).bind λp=>if p.1=bc then x p.2 else y p.2
def OV{t:VB}(l:PT X c (TB K ml pc t))(n:PE X a (TV K ml pa ta ia fa))(m:PE X b (TV K ml pb tb ib fb)):PE X (.IfExp c a b pos) (TV K ml (pc&&pa&&pb) (ta&&tb) (ia&&ib) (fIf t fa fb)):=(FK l n m).imp λσ H Q g=>by
 obtain⟨B,O,δ,d,δ',S,q,k⟩:=g;unfold fIf at q;obtain⟨⟨kk,δ1⟩,h1,q⟩:=Ac.mp q;refine⟨B,O,δ,kk,δ1,S,h1,λH1 e=>?_⟩;have j:∀c,((ta&&tb)=bc->c=bc)->∀a,at_ B O (ta&&tb) a->at_ B O c a:=λc h=>l7 h;have i:∀c,((ia&&ib)=bc->c=bc)->∀a,av B O (ia&&ib) a->av B O c a:=λc h=>NK h;cases kk with
 |true=>
  exact PQ ⟨B,O,δ1,d,δ',e.sta,q,λf H2 R2=>k f H2 ⟨R2.sta,e.frm.trans R2.frm,λz=>by simp only[Af]at z;exact(e.pur z.1.1).trans (R2.pur z.1.2),R2.rep.mono (i _ λz=>((Af _ _).mp z).1) (j _ λz=>((Af _ _).mp z).1)⟩⟩
 |false=>
  exact PP ⟨B,O,δ1,d,δ',e.sta,q,λf H2 R2=>k f H2 ⟨R2.sta,e.frm.trans R2.frm,λz=>by simp only[Af]at z;exact(e.pur z.1.1).trans (R2.pur z.2),R2.rep.mono (i _ λz=>((Af _ _).mp z).2) (j _ λz=>((Af _ _).mp z).2)⟩⟩
noncomputable def f3(o o':cV->cV->Option cV)(fa fb fc:VF):VF:=λδ=>(fa δ).bind λp=>(fb p.2).bind λq=>(o p.1 q.1).bind λz=>match z with
 |.bl bc=>(fc q.2).bind λs=>(o' q.1 s.1).map λu=>(u,s.2)
 |.bl bd=>ba (.bl bd,q.2)
 |_=>bb
def F5(w:OB K r o)(j:OB K r' o')(t:(pb || (ta&&ia))=bc)(i:(pc || (tb&&ib))=bc){Q:VK}(h:TV K ml (pa&&pb&&pc) bc bc (f3 o o' fa fb fc) σ H Q):DV r r' (TV K ml pa ta ia fa) (TV K ml pb tb ib fb) (TV K ml pc tc ic fc) σ H Q:=by
 obtain⟨B,O,δ,d,b,S,q,k⟩:=h;unfold f3 at q;obtain⟨⟨x,δ1⟩,h1,q⟩:=Ac.mp q;cases h2:fb δ1 with
 |none=>simp[h2]at q
 |some p2=>
  obtain⟨y,δ2⟩:=p2;simp only[Av,h2]at q;refine⟨B,O,δ,x,δ1,S,h1,λp H1 a=>⟨B,O,δ1,y,δ2,a.sta,h2,λl H2 R2=>?_⟩⟩;obtain⟨z,D,q⟩:=Ac.mp q;refine w H2 _ _ _ _ p l x y z _ (R2.live t a.rep) R2.rep D λv c=>?_;have c:=c (λ_=>bb) (λ_=>True) λ_=>True;cases z with
  |bl kk=>
   have E:v=.bl kk:=c.onB;refine⟨kk,E,?_⟩;cases kk with
   |false=>
    cases q;exact PP (k _ H2 ⟨R2.sta,a.frm.trans R2.frm,λz=>by simp only[Af]at z;exact(a.pur z.1.1).trans (R2.pur z.1.2),.bl _⟩)
   |true=>
    have q:((fc δ2).bind λs=>(o' y s.1).map λu=>(u,s.2))=ba (d,b):=q;obtain⟨⟨g,f⟩,C,q⟩:=Ac.mp q;have q:((o' y g).map λu=>(u,f))=ba (d,b):=q;obtain⟨u,A,q⟩:=Ao.mp q;cases q;refine PQ ⟨B,O,δ2,g,_,R2.sta,C,λn m e=>?_⟩;exact j m _ _ _ _ l n y g d Q (e.live i R2.rep) e.rep A λv c=>k v m ⟨e.sta,(a.frm.trans R2.frm).trans e.frm,λz=>by simp only[Af]at z;exact((a.pur z.1.1).trans (R2.pur z.1.2)).trans (e.pur z.2),c _ _ _⟩
  |_=>cases q
def p8{op d:CmpOp}(k:WZ X (Dr op) r)(g:WZ X (Dr d) r')(i:OB K r o)(e:OB K r' o')(n:PE X a (TV K ml pa ta ia fa))(m:PE X b (TV K ml pb tb ib fb))(hc:PE X c (TV K ml pc tc ic fc))(l:Sa [op,d] [b,c]=bd:=by with_unfolding_all rfl)(j:(pb || (ta&&ia))=bc:=by rfl)(f:(pc || (tb&&ib))=bc:=by rfl):PE X (.Compare a [op,d] [b,c] pos) (TV K ml (pa&&pb&&pc) bc bc (f3 o o' fa fb fc)):=
 (gB k g n m hc l).imp λ_ _ _ h=>F5 i e j f h
def lF{op d:CmpOp}(k:WZ X (Dr op) r)(g:WZ X (Dr d) r')(i:OB K r o)(e:OB K r' o')(n:PE X a (TV K ml pa ta ia fa))(m:PE X b (TV K ml pb tb ib fb))(hc:PE X c (TV K ml pc tc ic fc))(l:Sa [op,d] [b,c]=bd:=by with_unfolding_all rfl)(j:(pb || (ta&&ia))=bc:=by rfl)(f:(pc || (tb&&ib))=bc:=by rfl):PT X (.Compare a [op,d] [b,c] pos) (TB K ml (pa&&pb&&pc) (fB (f3 o o' fa fb fc))):=
 (eJ k g n m hc l).imp λ_ _ _ h=>IM (λ_ _ _=>F5 i e j f) h
end
section
variable{X:Cx}{K:Ah}{ml:List Nat}{e a b c:Vc}{es:List Vc}{pa ta ia pb tb ib pc tc ic pu bt bi ps bs:Bool}{fa fb fc:VF}{B:Bs}{O:Nat->Option Ux}{H H1 H':Hp}{σ:St}{δ δ':Ev}{v:V}{d:cV}{p:Ux}{pos:Pos}
noncomputable def f1(o:cV->Option cV)(fa:VF):VF:=λδ=>(fa δ).bind λp=>(o p.1).map λc=>(c,p.2)
def MI{o:cV->Option cV}(h:f1 o fa δ=ba (d,δ')):∃x,fa δ=ba (x,δ')/\o x=ba d:=by
 unfold f1 at h;cases h1:fa δ with
 |none=>rw[h1]at h;cases h
 |some p=>
  rw[h1]at h;have h:((o p.1).map λc=>(c,p.2))=ba (d,δ'):=h;obtain⟨c,a,h⟩:=Ao.mp h;cases h;exact⟨p.1,rfl,a⟩
abbrev RC:=List V->Hp->VK->Prop
def CalS(K:Ah)(r:RC)(o:cV->Option cV):Prop:=∀(H:Hp) (N M:Ux->Prop) (x:V) (d c:cV) (Q:VK),bC K N H M x d->o d=ba c->(∀v,(∀H' N M,bC K N H' M v c)->Q v H)->r [x] H Q
def CalC(K:Ah)(r:RC)(o:cV->Option cV):Prop:=∀(H:Hp) (N M:Ux->Prop) (x:V) (d c:cV) (Q:VK),bC K N H M x d->o d=ba c->
 (∀v H',bF H H'->(∀M,(∀a,M a->∃o,H a=ba o)->bC K N H' M v c)->Q v H')->r [x] H Q
def CalN(K:Ah)(r:RC)(o:cV->Option cV):Prop:=∀(H:Hp) (N M:Ux->Prop) (x:V) (d c:cV) (Q:VK),bC K N H M x d->o d=ba c->
 (∀p xs ds,H p=bb->bZ K N H xs ds->c=.lst ds->Q (.ref p) (upd H p (.lst xs)))->r [x] H Q
def LY(K:Ah)(r:RC)(o:cV->cV->Option cV):Prop:=∀(H:Hp) (N N' M M':Ux->Prop) (x y:V) (d e c:cV) (Q:VK),bC K N H M x d->bC K N' H M' y e->o d e=ba c->(∀v,(∀H' N M,bC K N H' M v c)->Q v H)->r [x,y] H Q
def mL{r:RC}{o:cV->Option cV}(e:CalS K r o){Q:VK}(h:TV K ml pa bc bc (f1 o fa) σ H Q):tCB r (RA (TV K ml pa ta ia fa) F2) σ H Q:=by obtain⟨B,O,δ,d,δ',S,q,k⟩:=h;obtain⟨x,h1,h2⟩:=MI q;exact⟨B,O,δ,x,δ',S,h1,λb H1 a=>e H1 _ _ b x d Q a.rep h2 λv c=>k v H1 ⟨a.sta,a.frm,a.pur,c _ _ _⟩⟩
def lC{r:RC}{o:cV->Option cV}(g:CalC K r o){Q:VK}(h:TV K ml pa bc ia (f1 o fa) σ H Q):tCB r (RA (TV K ml pa ta ia fa) F2) σ H Q:=by obtain⟨B,O,δ,d,δ',S,q,k⟩:=h;obtain⟨x,h1,h2⟩:=MI q;exact⟨B,O,δ,x,δ',S,h1,λe H1 b=>g H1 _ _ e x d Q b.rep h2 λv H2 c f=>k v H2 ⟨b.sta.same c,b.frm.trans c.fr,λz=>(b.pur z).trans c,f _ λa z=>b.sta.nin z⟩⟩
def K7{r:RC}{o:cV->Option cV}(f:CalN K r o){Q:VK}(h:TN K ml pa (f1 o fa) σ H Q):tCB r (RA (TV K ml pa ta bc fa) F2) σ H Q:=by obtain⟨B,O,δ,d,δ',S,q,k⟩:=h;obtain⟨x,h1,h2⟩:=MI q;refine⟨B,O,δ,x,δ',S,h1,λb H1 a=>f H1 _ _ b x d Q a.rep h2 λp xs ds e c g=>?_⟩;subst g;exact k p _ (mkN a.sta a.frm a.pur e c)
def iM{r:RC}{o:cV->cV->Option cV}(j:LY K r o)(i:(pb || (ta&&ia))=bc){Q:VK}(h:TV K ml (pa&&pb) bc bc (f2 o fa fb) σ H Q):tCB r (RA (TV K ml pa ta ia fa) (RA (TV K ml pb tb ib fb) F2)) σ H Q:=by
 obtain⟨B,O,δ,d,δ2,S,q,k⟩:=h;obtain⟨x,δ1,y,h1,h2,l⟩:=RL q;refine⟨B,O,δ,x,δ1,S,h1,λf H1 a=>⟨B,O,δ1,y,δ2,a.sta,h2,λe H2 R2=>?_⟩⟩;exact j H2 _ _ _ _ f e x y d Q (R2.live i a.rep) R2.rep l λv g=>k v H2 ⟨R2.sta,a.frm.trans R2.frm,λz=>by obtain⟨c,b⟩:=(Af _ _).mp z;exact(a.pur c).trans (R2.pur b),g _ _ _⟩
section
variable{x:Va}{p':Pos}{id T:String}{r:RC}
def GA{o:cV->Option cV}(hc:aB X (.builtin id) r)(e:CalS K r o)(i:Gl X x)(g:X.mg x=bb)(d:Bi x=ba (.builtin id))(j:PE X a (TV K ml pa ta ia fa))(f:x≠ "__name__":=by decide)(b:ND x:=by decide)(c:SE X a []:=by rfl):PE X (.Call (.Name x p') [a] [] pos) (TV K ml pa bc bc (f1 o fa)):=
 (M5 hc i g d (bN j aD c) f b c).imp λ_ _ _ h=>mL e h
def X5{o:cV->cV->Option cV}(hc:aB X (.builtin id) r)(j:LY K r o)(m:Gl X x)(l:X.mg x=bb)(g:Bi x=ba (.builtin id))(p:PE X a (TV K ml pa ta ia fa))(n:PE X b (TV K ml pb tb ib fb))(k:x≠ "__name__":=by decide)(e:ND x:=by decide)(f:SE X a [b]:=by rfl)(d:SE X b []:=by rfl)(c:(Em pos (Uz [b] X.env)).any (·.1)=bd:=by rfl)(i:(pb || (ta&&ia))=bc:=by rfl):PE X (.Call (.Name x p') [a,b] [] pos) (TV K ml (pa&&pb) bc bc (f2 o fa fb)):=
 (M5 hc m l g (bN p (bN n aD d) f) k e f c).imp λ_ _ _ h=>iM j i h
def GB{o:cV->Option cV}(hc:aB X (.type T) r)(e:CalC K r o)(i:Gl X x)(g:X.mg x=bb)(d:Bi x=ba (.type T))(j:PE X a (TV K ml pa ta ia fa))(f:x≠ "__name__":=by decide)(b:ND x:=by decide)(c:SE X a []:=by rfl):PE X (.Call (.Name x p') [a] [] pos) (TV K ml pa bc ia (f1 o fa)):=
 (WX hc i g d (bN j aD c) f b c).imp λ_ _ _ h=>lC e h
def Wz{o:cV->Option cV}(hc:aB X (.type T) r)(e:CalN K r o)(i:Gl X x)(g:X.mg x=bb)(d:Bi x=ba (.type T))(j:PE X a (TV K ml pa ta bc fa))(f:x≠ "__name__":=by decide)(b:ND x:=by decide)(c:SE X a []:=by rfl):PE X (.Call (.Name x p') [a] [] pos) (TN K ml pa (f1 o fa)):=
 (WX hc i g d (bN j aD c) f b c).imp λ_ _ _ h=>K7 e h
def Wk{o:cV->Option cV}(hc:aB X (.builtin id) r)(e:CalN K r o)(i:Gl X x)(g:X.mg x=bb)(d:Bi x=ba (.builtin id))(j:PE X a (TV K ml pa ta bc fa))(f:x≠ "__name__":=by decide)(b:ND x:=by decide)(c:SE X a []:=by rfl):PE X (.Call (.Name x p') [a] [] pos) (TN K ml pa (f1 o fa)):=
 (M5 hc i g d (bN j aD c) f b c).imp λ_ _ _ h=>K7 e h
end
noncomputable def Z0:cV->Option cV
 |.tup ds=>ba (.int ds.length)
 |.lst ds=>ba (.int ds.length)
 |.str z=>if z.length<=16777216 then ba (.int z.length)else bb
 |_=>bb
def rLen(K:Ah):RC:=λxs H Q=>(∃p ys,xs=[.ref p]/\(X8 K H p ys∨WN K H p ys)/\Q (.int ys.length) H)∨∃z,xs=[.str z]/\z.length<=sizeLine/\Q (.int z.length) H
def fX(h:X.K=K:=by rfl):aB X (.builtin "len") (rLen K):=by subst h;exact G3.or G4
def kC:CalS K (rLen K) Z0:=by
  intro H N M x d c Q b h k;cases d<;>first
    | (rename_i ds
       obtain⟨a,xs,rfl,sq,r⟩:=b.seq rfl;cases h;refine .inl ⟨a,xs,rfl,sq,?_⟩;rw[r.length];exact k _ λ_ _ _=>.int _)
    | (cases b.onS
       simp only[Z0]at h;split at h
       · cases h
         exact .inr ⟨_,rfl,by rw[Cf];assumption,k _ λ_ _ _=>.int _⟩
       · cases h)
    |cases h
def FF(d:cV):Option cV:=(XG d).map cV.lst
def UI(d:cV):Option cV:=(XG d).map cV.tup
def Xa(K:Ah):RC:=λxs H Q=>∃p ys,xs=[.ref p]/\(X8 K H p ys∨WN K H p ys)/\∀l,H l=bb->Q (.ref l) (upd H l (.lst ys))
def BU(K:Ah):RC:=λxs H Q=>∃p ys,xs=[.ref p]/\((X8 K H p ys/\∀l,H l=bb->Q (.ref l) (upd H l (.tup ys)))∨(WN K H p ys/\Q (.ref p) H))
def Zc(h:X.K=K:=by rfl):aB X (.type "list") (Xa K):=lR h
def QW(h:X.K=K:=by rfl):aB X (.type "tuple") (BU K):=fW h
def FX{d:cV}{g:List cV->cV}{c:cV}(h:(XG d).map g=ba c):∃ds,XG d=ba ds/\c=g ds:=by
 cases h1:XG d with
 |none=>rw[h1]at h;cases h
 |some ds=>rw[h1]at h;cases h;exact⟨ds,rfl,rfl⟩
def RY:CalN K (Xa K) FF:=by intro H N M x d c Q b h k;obtain⟨ds,h1,rfl⟩:=FX h;obtain⟨a,xs,rfl,sq,r⟩:=b.seq h1;exact⟨a,xs,rfl,sq,λl hl=>k l xs ds hl r rfl⟩
def QM:CalC K (BU K) UI:=by
 intro H N M x d c Q b h k;obtain⟨ds,h1,rfl⟩:=FX h;obtain⟨a,xs,rfl,sq,r⟩:=b.seq h1;rcases sq with sq|sq
 ·exact⟨a,xs,rfl,.inl ⟨sq,λl hl=>k _ _ (cM hl) λM e=>.tup (WN.of b9) (r.same (cM hl))⟩⟩
 ·exact⟨a,xs,rfl,.inr ⟨sq,k _ _ (bF.refl _) λM e=>.tup sq r⟩⟩
noncomputable def o2I(g:Int->Int->Int):cV->cV->Option cV
 |.int i,.int j=>ba (.int (g i j))
 |_,_=>bb
def Zq{g:Int->Int->Int}:LY K (λxs H Q=>∃i j,xs=[.int i,.int j]/\Q (.int (g i j)) H) (o2I g):=by
 intro H N N' M M' x y d e c Q b a h k;unfold o2I at h;split at h
 ·cases h
  cases b.onI;cases a.onI;exact⟨_,_,rfl,k _ λ_ _ _=>.int _⟩
 ·cases h
abbrev oMax:=o2I λi j=>if j>i then j else i
abbrev oMin:=o2I λi j=>if j<i then j else i
def hU:LY K (λxs H Q=>∃i j,xs=[.int i,.int j]/\Q (.int (if j>i then j else i)) H) oMax:=Zq
def la:LY K (λxs H Q=>∃i j,xs=[.int i,.int j]/\Q (.int (if j<i then j else i)) H) oMin:=Zq
noncomputable def tyD:cV->Option String
 |.non=>ba "NoneType"
 |.bl _=>ba "bool"
 |.int _=>ba "int"
 |.str _=>ba "str"
 |.tup _=>ba "tuple"
 |.lst _=>ba "list"
 |.dct _ _=>ba "dict"
 |_=>bb
noncomputable def N4(t n:String):Option Bool:=if((Lw t)==(Lw n))=bc then ba bc else if W.kitMeta n=bc then(PySem.fastBuiltinMro t).map (·.contains (.type n))else bb
def li{t n:String}{k:Bool}(h:N4 t n=ba k):Hx K (.type t) (.type n)=ba k:=h
def Q0:cV->cV->Option cV
 |d,.ty n=>(tyD d).bind λt=>(N4 t n).map cV.bl
 |_,_=>bb
def rIsi(K:Ah):RC:=λxs H Q=>∃x n d N M t k,xs=[x,.ty n]/\bC K N H M x d/\tyD d=ba t/\N4 t n=ba k/\Q (.bl k) H
def ou:aB X (.builtin "isinstance") (rIsi X.K):=by
 intro aa s σ H xs v Q I r h;obtain⟨x,n,d,N,M,t,k,rfl,j,b,p,q⟩:=h;obtain⟨u,c,rfl,f,l⟩:=F8 r;cases (show c=Lw n from l);have e:=li (K:=X.K) p;have a:∀tk,EP X aa σ Q (.bool k) {s with toks:=tk}:=λtk=>⟨.bl k,H,I.tok tk,rfl,q⟩;cases j with
 |non=>cases b;exact VO I f (.non) e a
 |bl y=>cases b;exact VO I f (.bl y) e a
 |int i=>cases b;exact VO I f (.int i) e a
 |str y=>cases b;exact VO I f (.str y) e a
 |ty n=>cases b
 |fn _=>cases b
 |dct q _ _=>cases b;exact VO I f (.dK q) e a
 |ktb T _=>
  obtain⟨_,o,es,ep,m,j,_⟩:=T;cases b;cases f;exact Fj Sb I.kIn ⟨o,I.kIn _ _ m,j.1⟩ e (λz=>nomatch z) a
 |exn _ _ _=>cases b
 |exr _ _ _ _ _=>cases b
 |tup q _=>
  cases b;cases f;obtain⟨g,_,⟨o,h1,h2,_⟩,_⟩:=I.tuple q;exact Fj W.kitx_tuple I.kIn ⟨o,h1,h2⟩ e (λz=>nomatch z) a
 |lst q _ _=>
  cases b;cases f;obtain⟨g,_,⟨o,n,h1,h2,_⟩,_⟩:=I.list (X8.of q);exact Fj Ol I.kIn ⟨o,h1,h2⟩ e (λz=>nomatch z) a
 |fzl q _=>
  cases b;cases f;obtain⟨g,_,⟨o,n,h1,h2,_⟩,_⟩:=I.list q.sq;exact Fj Ol I.kIn ⟨o,h1,h2⟩ e (λz=>nomatch z) a
def kIsi(h:X.K=K:=by rfl):aB X (.builtin "isinstance") (rIsi K):=by subst h;exact ou
def lj:LY K (rIsi K) Q0:=by
  intro H N N' M M' x y d e c Q b a h k;cases a<;>first
    | (simp only [Q0]at h
       cases h1:tyD d with
       |none=>rw[h1]at h;cases h
       |some t=>
         rw[h1]at h;rename_i n;have h:(N4 t n).map cV.bl=ba c:=h;obtain⟨kk,h2,h⟩:=Ao.mp h;cases h;exact⟨x,n,d,N,M,t,kk,rfl,b,h1,h2,k _ λ_ _ _=>.bl _⟩)
    |cases h
def LQ:cV->Option cV
 |.int i=>ba (.int (-i))
 |_=>bb
def VL(f:PE X a (TV K ml pa ta ia fa)):PE X (.UnaryOp .USub a pos) (TV K ml pa bc bc (f1 LQ fa)):=(mm mT f).imp λσ H Q c=>by
 obtain⟨B,O,δ,d,δ',S,q,k⟩:=c;obtain⟨x,h1,h2⟩:=MI q;refine⟨B,O,δ,x,δ',S,h1,λe H1 b=>?_⟩;cases x with
 |int i=>
  cases h2;have g:e=.int i:=b.rep.onI;exact⟨i,g,k _ H1 ⟨b.sta,b.frm,b.pur,.int _⟩⟩
 |_=>cases h2
abbrev VP:=Ev->Option (Option Int×Ev)
inductive TPOi(K:Ah)(ml:List Nat)(pu:Bool)(f:VP)(σ:St)(H:Hp)(Q:Option Int->Hp->Prop):Prop
 |mk (B:_) (O:_) (δ:_) (k:_) (δ':_) (h0:aR K ml B O H σ δ) (h1:f δ=ba (k,δ')) (h2:∀H',ResB K ml B O H σ pu H' δ'->Q k H'):TPOi K ml pu f σ H Q
def TPO(K:Ah)(ml:List Nat)(pu:Bool)(f:VP):TO:=λσ H Q=>TPOi K ml pu f σ H Q
def pNo:VP:=λδ=>ba (bb,δ)
noncomputable def DG(f:VF):VP:=λδ=>(f δ).bind λp=>match p.1 with
 |.int i=>ba (ba i,p.2)
 |_=>bb
def PO.imp{e:Option Vc}{t u:TO}(h:PO X e t)(k:∀σ H Q,u σ H Q->t σ H Q):PO X e u:=λaa s σ H Q I w=>h aa s σ H Q I (k σ H Q w)
def SM:PO X bb (TPO K ml bc pNo):=zG9.imp λσ H Q a=>by obtain⟨B,O,δ,d,δ',S,q,k⟩:=a;cases q;exact k H (ResB.refl S)
def SN(h:PE X a (TV K ml pa ta ia fa)):PO X (ba a) (TPO K ml pa (DG fa)):=(lA h).imp λσ H Q c=>by
 obtain⟨B,O,δ,d,δ',S,q,k⟩:=c;unfold DG at q;obtain⟨⟨x,δ1⟩,h1,q⟩:=Ac.mp q;refine⟨B,O,δ,x,δ1,S,h1,λe H1 b=>?_⟩;cases x with
 |int i=>
  have f:e=.int i:=b.rep.onI;cases q;exact⟨i,f,k H1 ⟨b.sta,b.frm,b.pur⟩⟩
 |_=>cases q
def VN(ds:List cV)(lo hi:Option Int):List cV:=(ds.drop (HT.sIx ds.length 0 lo)).take (HT.sIx ds.length ds.length hi-HT.sIx ds.length 0 lo)
def NN{N:Ux->Prop}{xs:List V}{ds:List cV}(r:bZ K N H xs ds)(lo hi:Option Int):bZ K N H (EK xs lo hi) (VN ds lo hi):=by unfold EK VN;rw[r.length];exact(r.drop _).take _
noncomputable def oSl(d:cV)(lo hi:Option Int):Option cV:=match d with
 |.lst ds=>ba (.lst (VN ds lo hi))
 |.tup ds=>ba (.tup (VN ds lo hi))
 |_=>bb
def C4(fa:VF)(a b:VP):VF:=λδ=>(fa δ).bind λp=>(a p.2).bind λl=>(b l.2).bind λu=>(oSl p.1 l.1 u.1).map λc=>(c,u.2)
def nh{prog:Aw}{w:Ve}{A:Bw}{E:Uw->Ae->Prop}{s:Ae}{t b:Ux}{items:Array Uw}{f e:Uw}{lo hi:Option Int}{Q:Uw->Ae->Prop}(a:IsTup s.heap t items)(g:s.heap.IsSliceOf b f e .none)(i:IsPart f lo)(pu:IsPart e hi)(h1:HT.sIx items.size 0 lo=0)(h2:HT.sIx items.size items.size hi=items.size)(h:Q (.ref t) s):Uy (Vb prog w) A (Mi (.ref t) (.ref b)) Q E s:=by
 obtain⟨os,c,d,j⟩:=id g;have k:s.TypeIs (.ref b) "slice":=⟨os,c,d⟩;unfold Mi;try with_reducible refine Bv ?_
 first|refine Aa (Ag ?_)|skip
 refine Aa (Ly a.typeIs (by decide) ?_);refine Aa (De (name:=Bf "__getitem__") a.typeIs Fa
  (Dj Fa a.typeIs PyProof.Rows.entry_tuple_getitem ?_ (PyProof.Rows.args_tuple_getitem _ _)))
 show Uy _ _ (Lj (.ref t)>>=_) _ _ s;refine Aa (PyProof.Rows.tupleItemsOf_ a ?_);refine Aa (Lo k ?_);rw[if_pos (by decide)];refine Aa (HT.VR g i pu ?_);rw[h1,h2];show Uy _ _ (if((((0:Nat):Int)==0&&(1:Int)==1&&(items.size-0)==items.size)=bc)then _ else _) _ _ s;rw[if_pos (by simp)];refine Aa (m:=Su _) (Aa (Lo a.typeIs (Ag ?_)));rw[if_pos (by decide)];exact Aa (Hc (Ag ⟨_,rfl,Ag h⟩))
def rSlW(K:Ah):V->Option Int->Option Int->Hp->VK->Prop:=λx lo hi H Q=>∃a xs,x=.ref a/\WN K H a xs/\(HT.sIx xs.length 0 lo=0/\HT.sIx xs.length xs.length hi=xs.length)/\Q (.ref a) H
def gC:SlR X (rSlW X.K):=by
 intro aa s σ H x v k j lo hi l Q I e i f pu h;obtain⟨a,xs,rfl,g,hw,q⟩:=h;cases e;obtain⟨b,r,c,hz⟩:=I.tuple g;have d:b.toArray.size=xs.length:=by rw[Aq];exact r.length.symm
 refine⟨"tuple",_,PyProof.Rows.slot_tuple_getitem.lookup,c.typeIs,?_⟩;exact nh c i f pu (by rw[d];exact hw.1) (by rw[d];exact hw.2) ⟨.ref a,H,I,rfl,q⟩
def rSl(K:Ah):V->Option Int->Option Int->Hp->VK->Prop:=λx lo hi H Q=>(rSlT K x lo hi H Q∨rSlL K x lo hi H Q)∨rSlW K x lo hi H Q
def kSl(h:X.K=K:=by rfl):SlR X (rSl K):=by subst h;exact(zJP.or eC).or gC
def jH{b e:VP}(h:C4 fa b e δ=ba (d,δ')):∃x δ1 l δ2 u,fa δ=ba (x,δ1)/\b δ1=ba (l,δ2)/\e δ2=ba (u,δ')/\oSl x l u=ba d:=by
 unfold C4 at h;cases h1:fa δ with
 |none=>rw[h1]at h;cases h
 |some p=>
  rw[h1]at h;cases h2:b p.2 with
  |none=>simp[h2]at h
  |some q=>
   simp only[Av,h2]at h;cases a:e q.2 with
   |none=>simp[a]at h
   |some s=>
    simp only[Av,a]at h;obtain⟨c,f,h⟩:=Ao.mp h;cases h;exact⟨p.1,p.2,q.1,q.2,s.1,rfl,h2,a,f⟩
def SK{lo hi:Option Vc}{p2:Pos}{v w:VP}(F:X.K=K)(E:PE X a (TV K ml pa ta ia fa))(hl:PO X lo (TPO K ml pb v))(D:PO X hi (TPO K ml pc w))(C:(pb&&pc || (ta&&ia))=bc:=by rfl):
  PE X (.Subscript a (.Slice lo hi bb p2) pos) (TV K ml (pa&&pb&&pc) bc ia (C4 fa v w)):=(lK (kSl F) E hl D).imp λσ H Q s=>by
 obtain⟨B,O,δ,d,i,S,q,k⟩:=s;obtain⟨x,δ1,l,δ2,u,h1,h2,G,t⟩:=jH q;refine⟨B,O,δ,x,δ1,S,h1,λA H1 h=>⟨B,O,δ1,l,δ2,h.sta,h2,λH2 R2=>⟨B,O,δ2,u,i,R2.sta,G,λy c=>?_⟩⟩⟩;have o:bC K (av B O ia) y (at_ B O ta) A x:=by
  rcases(Ir _ _).mp C with z|z
  ·obtain⟨m,j⟩:=(Af _ _).mp z
   exact(h.rep.same (R2.pur m)).same (c.pur j)
  ·obtain⟨m,j⟩:=(Af _ _).mp z
   subst m j;exact(h.rep.fr R2.frm (λa z=>.inr z) λa z=>.inr z).fr c.frm (λa z=>.inr z) λa z=>.inr z
 have g:(pa&&pb&&pc)=bc->bF H y:=λz=>by simp only[Af]at z;exact((h.pur z.1.1).trans (R2.pur z.1.2)).trans (c.pur z.2)
 have f:=(h.frm.trans R2.frm).trans c.frm;cases x with
 |lst ds=>
  cases t;obtain⟨a,xs,rfl,sq,r⟩:=o.seq rfl;rcases sq with sq|sq
  ·exact .inl (.inr ⟨a,xs,rfl,sq,λp b=>k _ _ ⟨c.sta.same (cM b),f.trans (cM b).fr,λz=>(g z).trans (cM b),.lst b9 (c.sta.new b) ((NN r l u).same (cM b))⟩⟩)
  ·cases o.onL with
   |lst q n r'=>exact .inl (.inr ⟨a,_,rfl,X8.of q,λp b=>k _ _ ⟨c.sta.same (cM b),f.trans (cM b).fr,λz=>(g z).trans (cM b),.lst b9 (c.sta.new b) ((NN r' l u).same (cM b))⟩⟩)
   |fzl q r'=>exact .inl (.inr ⟨a,_,rfl,q.sq,λp b=>k _ _ ⟨c.sta.same (cM b),f.trans (cM b).fr,λz=>(g z).trans (cM b),.lst b9 (c.sta.new b) ((NN r' l u).same (cM b))⟩⟩)
 |tup ds=>
  cases t;cases o.onT with
  |tup q r'=>
   by_cases hw:HT.sIx ds.length 0 l=0/\HT.sIx ds.length ds.length u=ds.length
   ·refine .inr ⟨_,_,rfl,q,by rw [r'.length];exact hw,k _ _ ⟨c.sta,f,g,?_⟩⟩
    have e:VN ds l u=ds:=by unfold VN;rw[hw.1,hw.2];simp
    rw[e];exact .tup q r'
   ·exact .inl (.inl ⟨_,_,rfl,q,by rw[r'.length];exact hw,λp b=>k _ _ ⟨c.sta.same (cM b),f.trans (cM b).fr,λz=>(g z).trans (cM b),.tup (WN.of b9) ((NN r' l u).same (cM b))⟩⟩)
 |_=>cases t
end
inductive Ou where
 |nx (δ:Ev)|rt (d:cV) (δ:Ev)|bk (δ:Ev)|ct (δ:Ev)
abbrev VS:=Ev->Option Ou
def Post(K:Ah)(ml:List Nat)(B:Bs)(D:NX):Ou->Prop
 |.nx δ'=>∀a H' b,aR K ml B b H' a δ'->D.nx a H'
 |.rt d δ'=>∀v a H' b,aR K ml B b H' a δ'->bC K (rz B) H' (rz B) v d->D.rt v H'
 |.bk δ'=>∀a H' b,aR K ml B b H' a δ'->D.bk a H'
 |.ct δ'=>∀a H' b,aR K ml B b H' a δ'->D.ct a H'
inductive TSti(K:Ah)(ml:List Nat)(g:VS)(D:NX)(σ:St)(H:Hp):Prop
 |mk (B:_) (O:_) (δ:_) (o:_) (h0:aR K ml B O H σ δ) (h1:g δ=ba o) (h2:Post K ml B D o):TSti K ml g D σ H
def WL(K:Ah)(ml:List Nat)(g:VS):TS:=λD σ H=>TSti K ml g D σ H
section
variable{X:Cx}{K:Ah}{ml:List Nat}{e a b c:Vc}{es:List Vc}{pa ta ia pb tb ib pc tc ic pu bt bi ps bs:Bool}{fa fb fc f:VF}{B B':Bs}{O:Nat->Option Ux}{H H1 H':Hp}{σ:St}{δ δ':Ev}{v:V}{d:cV}{p:Ux}{pos:Pos}{st:Vj}{rest:List Vj}{g g':VS}
def aL:VS:=λδ=>ba (.nx δ)
def cG(g g':VS):VS:=λδ=>(g δ).bind λo=>match o with
 |.nx δ'=>g' δ'
 |o=>ba o
def cC:W7 X [] (WL K ml aL):=HZ.imp λD σ H a=>by obtain⟨B,O,δ,o,S,q,k⟩:=a;cases q;exact k σ H O S
def cU(h1:PS X st (WL K ml g))(h2:W7 X rest (WL K ml g')):W7 X (st::rest) (WL K ml (cG g g')):=(UM h1 h2).imp λD σ H a=>by
 obtain⟨B,O,δ,o,S,q,k⟩:=a;unfold cG at q;obtain⟨z,h1,q⟩:=Ac.mp q;refine⟨B,O,δ,z,S,h1,?_⟩;cases z with
 |nx δ1=>exact λb H' e c=>⟨B,e,δ1,o,c,q,k⟩
 |rt d δ1=>cases q;exact k
 |bk δ1=>cases q;exact k
 |ct δ1=>cases q;exact k
def cP(h1:PS X st (WL K ml g)):W7 X [st] (WL K ml g):=(UM h1 HZ).imp λD σ H ⟨B,O,δ,o,S,q,k⟩=>⟨B,O,δ,o,S,q,by cases o<;>exact k⟩
noncomputable def bS(f:VF):VS:=λδ=>(f δ).map λp=>.rt p.1 p.2
def cI(h:PE X e (TV K ml pu bt bi f))(b:bt=bc:=by rfl):PS X (.Return (ba e) pos) (WL K ml (bS f)):=(HX h).imp λD σ H a=>by obtain⟨B,O,δ,o,S,q,k⟩:=a;unfold bS at q;obtain⟨p,h1,q⟩:=Ao.mp q;cases q;subst b;exact⟨B,O,δ,p.1,p.2,S,h1,λv H' R=>k v σ H' O R.sta (R.rep.mono R.sta.rza R.sta.rzn)⟩
def nB{i:Nat}(h:PE X e (LV i))(b:i∉ml:=by decide):PS X (.Return (ba e) pos) (WL K ml (bS (fO i))):=(HX h).imp λD σ H a=>by obtain⟨B,O,δ,o,S,q,k⟩:=a;unfold bS at q;obtain⟨⟨x,δ1⟩,h1,q⟩:=Ao.mp q;cases q;obtain⟨rfl,v,c,r⟩:=S.lone b h1;exact⟨v,c,k v σ H O S (r.mono S.rza S.rza)⟩
def Q8(f:VF):VS:=λδ=>(f δ).map λp=>.nx p.2
def TQ(h:PE X e (TV K ml pu bt bi f))(b:Hj e bb pos.line X.env=pure bd:=by rfl):PS X (.Expr e pos) (WL K ml (Q8 f)):=(HW h b).imp λD σ H a=>by obtain⟨B,O,δ,o,S,q,k⟩:=a;unfold Q8 at q;obtain⟨p,h1,q⟩:=Ao.mp q;cases q;exact⟨B,O,δ,p.1,p.2,S,h1,λv H' R=>k σ H' O R.sta⟩
def X4(t:VB)(g g':VS):VS:=λδ=>(t δ).bind λp=>if p.1=bc then g p.2 else g' p.2
def bD{x y:List Vj}{t:VB}(d:PT X c (TB K ml pc t))(f:W7 X x (WL K ml g))(e:W7 X y (WL K ml g')):PS X (.If c x y pos) (WL K ml (X4 t g g')):=(Xr d f e).imp λD σ H a=>by
 obtain⟨B,O,δ,o,S,q,k⟩:=a;unfold X4 at q;obtain⟨⟨kk,δ1⟩,h1,q⟩:=Ac.mp q;refine⟨B,O,δ,kk,δ1,S,h1,λH1 b=>?_⟩;cases kk with
 |true=>exact PQ ⟨B,O,δ1,o,b.sta,q,k⟩
 |false=>exact PP ⟨B,O,δ1,o,b.sta,q,k⟩
abbrev VX:=Ev->Option (Sl×Ev)
inductive St1(K:Ah)(B:Bs)(O:Nat->Option Ux)(H:Hp):Bs->V->Sl->Prop
 |va {v:V}{d:cV}:St1 K B O H {B with kp:=[(v,d)]++B.kp} v (.va d)
 |ol {p:Ux}{xs:List V}{ds:List cV}:H p=ba (.lst xs)->xs.length=ds.length->¬Nn B O p->B.H0 p=bb->St1 K B O H {B.add p with kp:=xs.zip ds++B.kp} (.ref p) (.ow (.lst ds))
 |od {p:Ux}{kvs:List (aK×V)}{ds:List cV}:H p=ba (.dK kvs)->kvs.length=ds.length->¬Nn B O p->B.H0 p=bb->St1 K B O H {B.add p with kp:=(kvs.map Er).zip ds++B.kp} (.ref p) (.ow (.dct (kvs.map Dk) ds))
def St1.fr{s:Sl}(h:St1 K B O H B' v s)(f:Fr (OA O) H H'):St1 K B O H' B' v s:=by
 cases h with
 |va=>exact .va
 |ol q l n z=>exact .ol (f _ _ q λw=>absurd (.inr w) n) l n z
 |od q l n z=>exact .od (f _ _ q λw=>absurd (.inr w) n) l n z
inductive TXi(K:Ah)(ml:List Nat)(f:VX)(σ:St)(H:Hp)(Q:VK):Prop
 |mk (B:_) (O:_) (δ:_) (s:_) (δ':_) (h0:aR K ml B O H σ δ) (h1:f δ=ba (s,δ')) (h2:∀v H' B',aR K ml B' O H' σ δ'->St1 K B O H' B' v s->Fr (OA O) H H'->Q v H'):TXi K ml f σ H Q
def TX(K:Ah)(ml:List Nat)(f:VX):TE:=λσ H Q=>TXi K ml f σ H Q
noncomputable def xV(f:VF):VX:=λδ=>(f δ).map λp=>(.va p.1,p.2)
noncomputable def xO(f:VF):VX:=λδ=>(f δ).map λp=>(.ow p.1,p.2)
def bJ(h:PE X e (TV K ml pu bc bc f)):PE X e (TX K ml (xV f)):=h.imp λσ H Q a=>by
 obtain⟨B,O,δ,o,δ',S,q,k⟩:=a;unfold xV at q;obtain⟨p,h1,q⟩:=Ao.mp q;cases q;exact⟨B,O,δ,p.1,p.2,S,h1,λv H' R=>k v H' _ (R.sta.keepV (ps:=[(v,p.1)]) λz hz=>by rw[Ba.mp hz];exact R.rep) .va R.frm⟩
theorem VM{N:Ux->Prop}:∀{xs:List V}{ds:List cV},bZ K N H xs ds->∀z∈xs.zip ds,bC K N H N z.1 z.2
 |_,_,.nil,z,hz=>nomatch hz
 |_,_,.cons h t,z,hz=>by
  rcases Ak.mp hz with e|e
  ·rw[e];exact h
  ·exact VM t z e
theorem TJ{N:Ux->Prop}:∀{xs:List V}{ds:List cV},xs.length=ds.length->(∀z∈xs.zip ds,bC K N H N z.1 z.2)->bZ K N H xs ds
 |[],[],_,_=>.nil
 |x::xs,d::ds,hl,h=>.cons (h (x,d) (Ax ..)) (TJ (by simpa using hl) λz hz=>h z (Ap _ hz))
def WJ(h:PE X e (TN K ml pu f)):PE X e (TX K ml (xO f)):=h.imp λσ H Q a=>by
 obtain⟨B,O,δ,o,δ',S,q,k⟩:=a;unfold xO at q;cases h1:f δ with
 |none=>rw[h1]at q;cases q
 |some p=>
  obtain⟨d,δ1⟩:=p;rw[h1]at q;cases q;refine⟨B,O,δ,d,δ1,S,h1,λp H' R=>?_⟩;have w:=R.own;cases w with
  |lst q r=>exact k _ H' _ (R.sta.keepV (VM r)) (.ol q r.length R.nz R.h0) R.frm
  |dct q r=>exact k _ H' _ (R.sta.keepV (VM r)) (.od q (by simpa using r.length) R.nz R.h0) R.frm
def St1.bind{c:Nat->Option Ux}{s:Sl}{i:Nat}(h:St1 K B O H' B' v s)(S:aR K ml B' c H' σ δ)(a:i∉ml)(hl:i<δ.length):∃b,aR K ml B b H' (σ.set i (ba v)) (δ.set i s):=by
 cases h with
 |va=>
  refine⟨_,aR.unkeep (ps:=_) (S.setVa a (S.kep _ (Bt _ (Ba.mpr rfl))))⟩
 |ol q l n z=>
  refine⟨_,aR.setOw (aR.unkeep (B:=B.add _) S) a hl (λw=>n (.inl w)) z (.lst q (TJ l λz hz=>S.kep z (Bt _ hz)))⟩
 |od q l n z=>
  refine⟨_,aR.setOw (aR.unkeep (B:=B.add _) S) a hl (λw=>n (.inl w)) z (.dct q (TJ (by simpa using l) λz hz=>S.kep z (Bt _ hz)))⟩
noncomputable def bH(i:Nat)(x:VX):VS:=λδ=>(x δ).bind λp=>if i<p.2.length then ba (.nx (p.2.set i p.1))else bb
def bY{i:Nat}{y:Va}{x:VX}{c9:Pos}(j:X.N.Nodup)(h:PE X e (TX K ml x))(hi:X.N[i]?=ba y:=by rfl)(c:Loc X.env.scope y:=by first|exact .inl rfl|exact .inr rfl)(f:i∉ml:=by decide)(d:Hj e (ba (.Name y c9)) pos.line X.env=pure bd:=by rfl)
  (g:LO X y:=by first|exact .inl rfl|exact .inr rfl|assumption):PS X (.Assign [.Name y c9] e pos) (WL K ml (bH i x)):=(lP j hi c h d g).imp λD σ H a=>by
 obtain⟨B,O,δ,o,S,q,k⟩:=a;unfold bH at q;obtain⟨⟨s,δ1⟩,h1,q⟩:=Ac.mp q;have q:(if i<δ1.length then ba (Ou.nx (δ1.set i s))else bb)=ba o:=q;split at q
 ·rename_i hl
  cases q;refine⟨B,O,δ,s,δ1,S,h1,λv H' B' l h' n=>?_⟩;obtain⟨m,b⟩:=h'.bind l f hl;exact k _ _ _ b
 ·cases q
noncomputable def FV(i j:Nat)(x y:VX):VS:=λδ=>(x δ).bind λp=>(y p.2).bind λq=>if i<q.2.length/\j<q.2.length then ba (.nx ((q.2.set j q.1).set i p.1))else bb
def CF{i j:Nat}{y z:Va}{fx l:VX}{d py pt:Pos}{kt k2 pt2}(hc:X.calm=bc)(G:X.N.Nodup)(hi:X.N[i]?=ba y)(A:X.N[j]?=ba z)(c:i≠j)(w:X.env.scope.names.lookup y=ba .local)(u:X.env.scope.names.lookup z=ba .local)(F:PE X a (TX K ml fx))(E:PE X b (TX K ml l))(hw:Gw [.Tuple [.Name y d,.Name z py] kt pt] (.Tuple [a,b] k2 pt2) X.env=pure (ba [y,z]))(g:i∉ml:=by decide)(f:j∉ml:=by decide)(x:Gv [.Tuple [.Name y d,.Name z py] kt pt] (.Tuple [a,b] k2 pt2) pos.line X.env=pure bd:=by rfl)(C:SE X a [b]:=by rfl)(h:SE X b []:=by rfl):
  PS X (.Assign [.Tuple [.Name y d,.Name z py] kt pt] (.Tuple [a,b] k2 pt2) pos) (WL K ml (FV i j fx l)):=(iV hc G hi A c w u (bN F (bN E aD h) C) hw x).imp λD σ H e=>by
 obtain⟨B,O,δ,o,S,q,k⟩:=e;unfold FV at q;obtain⟨⟨s,δ1⟩,h1,q⟩:=Ac.mp q;cases h2:l δ1 with
 |none=>simp[h2]at q
 |some p2=>
  obtain⟨t,δ2⟩:=p2;simp only[Av,h2]at q;split at q
  ·rename_i hl
   cases q;refine⟨B,O,δ,s,δ1,S,h1,λv H1 M L p f1=>⟨M,O,δ1,t,δ2,L,h2,λr H2 R J n f2=>⟨v,r,rfl,?_⟩⟩⟩;obtain⟨Q,I⟩:=n.bind J f hl.2;obtain⟨P,m⟩:=(p.fr f2).bind I g (by rw[Ck];exact hl.1);rw[Fb _ _ (Ea c)]at m;exact k _ _ _ m
  ·cases q
abbrev VG:=cV->Ev->Option Ev
inductive TGVi(K:Ah)(ml:List Nat)(h:VG)(v:V)(σ:St)(H:Hp)(Q:St->Hp->Prop):Prop
 |mk (B:_) (O:_) (δ:_) (d:_) (δ':_) (h0:aR K ml B O H σ δ) (h1:bC K (Nn B O) H (Nn B O) v d) (h2:h d δ=ba δ') (h3:∀σ' O',aR K ml B O' H σ' δ'->(∀i∈ml,σ'[i]?=σ[i]?)->Q σ' H):TGVi K ml h v σ H Q
def CM(K:Ah)(ml:List Nat)(h:VG):TG:=λv σ H Q=>TGVi K ml h v σ H Q
def PG.imp{t u:TG}(h:PG X e t)(k:∀v σ H Q,u v σ H Q->t v σ H Q):PG X e u:=λaa s σ H v w Q I r z=>h aa s σ H v w Q I r (k v σ H Q z)
def AE.imp{t u:TGs}(h:AE X es t)(k:∀v σ H Q,u v σ H Q->t v σ H Q):AE X es u:=λaa s σ H v w Q I r z=>h aa s σ H v w Q I r (k v σ H Q z)
def PG.or{t u:TG}(h:PG X e t)(h':PG X e u):PG X e (λv σ H Q=>t v σ H Q∨u v σ H Q):=λaa s σ H v w Q I r z=>by
 rcases z with z|z
 ·exact h aa s σ H v w Q I r z
 ·exact h' aa s σ H v w Q I r z
def gN(i:Nat):VG:=λd δ=>ba (δ.set i (.va d))
def cH{i:Nat}{x:Va}(g:X.N.Nodup)(hi:X.N[i]?=ba x:=by rfl)(c:Loc X.env.scope x:=by first|exact .inl rfl|exact .inr rfl)(b:i∉ml:=by decide)(f:LO X x:=by first|exact .inl rfl|exact .inr rfl|assumption):PG X (.Name x pos) (CM K ml (gN i)):=
 (NU g hi c f).imp λv σ H Q a=>by obtain⟨B,O,δ,d,δ',S,r,q,k⟩:=a;cases q;exact k _ _ (S.setVa b r) λj e=>Bz λ(z:i=j)=>b (z▸e)
abbrev VGs:=List cV->Ev->Option Ev
inductive Yo(K:Ah)(ml:List Nat)(h:VGs)(vs:List V)(σ:St)(H:Hp)(Q:St->Hp->Prop):Prop
 |mk (B:_) (O:_) (δ:_) (ds:_) (δ':_) (h0:aR K ml B O H σ δ) (h1:bZ K (Nn B O) H vs ds) (h2:h ds δ=ba δ') (h3:∀σ' O',aR K ml B O' H σ' δ'->(∀i∈ml,σ'[i]?=σ[i]?)->Q σ' H):Yo K ml h vs σ H Q
def TGVs(K:Ah)(ml:List Nat)(h:VGs):TGs:=λvs σ H Q=>Yo K ml h vs σ H Q
def W8:VGs:=λds δ=>match ds with
 |[]=>ba δ
 |_=>bb
def a7(g:VG)(a:VGs):VGs:=λds δ=>match ds with
 |d::r=>(g d δ).bind λδ1=>a r δ1
 |[]=>bb
def YJ:AE X [] (TGVs K ml W8):=BJ.imp λvs σ H Q a=>by
 obtain⟨B,O,δ,ds,δ',S,r,q,k⟩:=a;cases r with
 |nil=>cases q;exact⟨rfl,k _ _ S λ_ _=>rfl⟩
 |cons _ _=>cases q
def bB{g:VG}{c:VGs}(h1:PG X e (CM K ml g))(h2:AE X es (TGVs K ml c))(l:(Vf (e::es) X.env).map (·.2)=Hs e X.env::(Vf es X.env).map (·.2):=by rfl):AE X (e::es) (TGVs K ml (a7 g c)):=
 (Q2 h1 h2 l).imp λvs σ H Q b => by
  obtain⟨B,O,δ,ds,δ',S,r,q,k⟩:=b;cases r with
  |nil=>cases q
  | @cons v vs d ds h t=>
   have q:((g d δ).bind λδ1=>c ds δ1)=ba δ':=q;obtain⟨δ1,h1,q⟩:=Ac.mp q;have n:=S.keepV (VM t);exact⟨v,vs,rfl,_,O,δ,d,δ1,n,h,h1,λj p f m1=>⟨B,p,δ1,ds,δ',f.unkeep,TJ t.length λz hz=>f.kep z (Bt _ hz),q,λa o m m2=>k a o m λi hi=>(m2 i hi).trans (m1 i hi)⟩⟩
def GU(n:Nat)(a:VGs):VG:=λd δ=>(XG d).bind λds=>if ds.length=n then a ds δ else bb
def WV{e:VGs}{k n:Nat}(j:X.K=K)(hc:X.calm=bc)(h:AE X es (TGVs K ml e))(i:(Vf es X.env).length=n:=by rfl)(b:(Vf es X.env).findIdx? (·.1)=bb:=by rfl):PG X (.Tuple es k pos) (CM K ml (GU n e)):=
 ((Ys (K := K) j hc h i b).or (mv (K := K) j hc h i b)).imp λv σ H Q g => by
  obtain⟨B,O,δ,d,δ',S,r,q,k⟩:=g;unfold GU at q;obtain⟨ds,h1,q⟩:=Ac.mp q;have q:(if ds.length=n then e ds δ else bb)=ba δ':=q;split at q
  ·rename_i hl
   obtain⟨a,xs,rfl,sq,f⟩:=r.seq h1;have c:TGVs K ml e xs σ H Q:=⟨B,O,δ,ds,δ',S,f,q,k⟩;rcases sq with sq|sq
   ·exact .inr ⟨a,xs,rfl,sq,f.length.trans hl,c⟩
   ·exact .inl ⟨a,xs,rfl,sq,f.length.trans hl,c⟩
  ·cases q
noncomputable def sAsg(f:VF)(g:VG):VS:=λδ=>(f δ).bind λp=>(g p.1 p.2).map Ou.nx
def D4{tg:Vc}{gg:VG}(h:PE X e (TV K ml pu bc bc f))(g:PG X tg (CM K ml gg))(c:Gv [tg] e pos.line X.env=pure bd:=by rfl)(hw:Gw [tg] e X.env=pure bb:=by rfl)
  (h1:(Vf [tg] X.env).map (·.2)=[Hs tg X.env]:=by rfl):PS X (.Assign [tg] e pos) (WL K ml (sAsg f gg)):=(DM h g c hw h1).imp λD σ H b=>by
 obtain⟨B,O,δ,o,S,q,k⟩:=b;unfold sAsg at q;obtain⟨⟨d,δ1⟩,h1,q⟩:=Ac.mp q;have q:(gg d δ1).map Ou.nx=ba o:=q;obtain⟨δ2,h2,q⟩:=Ao.mp q;cases q;exact⟨B,O,δ,d,δ1,S,h1,λv H' R=>⟨B,O,δ1,d,δ2,R.sta,R.rep,h2,λa j i _=>k a H' j i⟩⟩
def MuV(K:Ah)(r:V->List V->Hp->VK->Prop)(m:List cV->List cV->Option (List cV)):Prop:=∀(H:Hp) (N:Ux->Prop) (l:Ux) (xs vs:List V) (ds es b:List cV) (Q:VK),
 H l=ba (.lst xs)->N l->bZ K N H xs ds->bZ K N H vs es->m ds es=ba b->(∀v a,bZ K N H a b->Q v (upd H l (.lst a)))->r (.ref l) vs H Q
noncomputable def N5(δ:Ev)(i:Nat):Option (List cV):=match δ[i]? with
 |some (.ow (.lst ds))=>ba ds
 |_=>bb
def V4(i:Nat)(m:List cV->List cV->Option (List cV))(fs:N0):VS:=λδ=>(N5 δ i).bind λ_=>(fs δ).bind λp=>(N5 p.2 i).bind λds=>(m ds p.1).map λa=>.nx (p.2.set i (.ow (.lst a)))
def KJ{i:Nat}{ds:List cV}(h:N5 δ i=ba ds):δ[i]?=ba (.ow (.lst ds)):=by
 unfold N5 at h;split at h
 ·cases h;assumption
 ·cases h
def FQ{N:Ux->Prop}{l:Ux}{o:HO}{xs:List V}{ds ys:List cV}{zs:List V}(d:H l=ba (.lst zs))(e:N l)(h:bZ K N H xs ds):bZ K N (upd H l o) xs ds:=
 h.fr (P:=λb=>b=l) (λb u q n=>by
  by_cases c:b=l
  ·subst c
   rw[d]at q;cases q;exact absurd (n rfl) λz=>z
  ·rw[bV c]
   exact q) λa z=>z▸e
def Y7{i:Nat}{x:Va}{name:Va}{aj af c:Pos}{id:String}{r:V->List V->Hp->VK->Prop}{m:List cV->List cV->Option (List cV)}{fs:N0}(slot:Slot "list" name id)(g:Qu (.builtin id)=pure (.type "method_descriptor"))(I:MtR X id r)(n:MuV K r m)(G:PE X (.Name x c) (LV i))(J:PA X (e::es) (TAV K ml pu bc fs))(T:Hn (.Name x c) name X.env (eval (.Name x c) X.env)=eval (.Name x c) X.env:=by rfl)(Q:((Em af (Uz (e::es) X.env)).all (λx=> !x.1)&&(Ff af (Cw [] X.env)).all (λx=>x.1.isSome)&&decide ((e::es).length+([]:List Ia).length+(if([]:List Ia).isEmpty then 0 else 1)<30))=bc:=by rfl)(U:(aj.endLine==af.line)=bc:=by rfl)(F:SE X e es:=by rfl)(W:(Em af (Uz es X.env)).any (·.1)=bd:=by rfl)(h:Hj (.Call (.Attribute (.Name x c) name aj) (e::es) [] af) bb pos.line X.env=pure bd:=by rfl)(L:X.K=K:=by rfl):PS X (.Expr (.Call (.Attribute (.Name x c) name aj) (e::es) [] af) pos) (WL K ml (V4 i m fs)):=
 (HW (kBm (K := K) L Iu slot g I G J T Q U F W) h).imp λD σ H j => by
  obtain⟨B,O,δ,o,S,q,k⟩:=j;unfold V4 at q;obtain⟨P,M,q⟩:=Ac.mp q;have q:((fs δ).bind λp=>(N5 p.2 i).bind λds=>(m ds p.1).map λa=>Ou.nx (p.2.set i (.ow (.lst a))))=ba o:=q;obtain⟨⟨b,δ1⟩,h1,q⟩:=Ac.mp q;have q:((N5 δ1 i).bind λds=>(m ds b).map λa=>Ou.nx (δ1.set i (.ow (.lst a))))=ba o:=q;obtain⟨ds,h2,q⟩:=Ac.mp q;have q:((m ds b).map λa=>Ou.nx (δ1.set i (.ow (.lst a))))=ba o:=q;cases t:m ds b with
  |none=>rw[t]at q;cases q
  |some a=>
   rw[t]at q;cases q;obtain⟨l,f,N,w⟩:=S.ow i _ (KJ M);cases w with
   |lst s _=>
    refine⟨.ref l,N,.inl ⟨rfl,_,X8.of s⟩,B,O,δ,b,δ1,S,h1,λvs H1 R=>?_⟩;obtain⟨Y,u,_,A⟩:=R.sta.ow i _ (KJ h2);rw[f]at u;cases u;cases A with
    |lst d E=>
     refine n H1 (Nn B O) l _ vs ds b a _ d (.inr ⟨i,f⟩) E R.rep t λv y C=>?_;exact k σ _ O (R.sta.wrote f (λz=>z) (.lst b9 (FQ (ys:=[]) d (.inr ⟨i,f⟩) C)))
noncomputable def SR:List cV->List cV->Option (List cV)
 |ds,[d]=>if ds.length<16777216 then ba (ds++[d])else bb
 |_,_=>bb
def X1:MuV K BR SR:=by
 intro H N l xs vs ds es e Q hl f a b h k;cases b with
 |nil=>cases h
 | @cons v vs d es c t=>
  cases t with
  |cons _ _=>cases h
  |nil=>
   simp only[SR]at h;split at h
   ·rename_i hz
    cases h;exact⟨l,xs,v,rfl,rfl,hl,by rw[a.length,Cf];exact hz,k _ _ (a.snoc c)⟩
   ·cases h
end
section
variable{X:Cx}{K:Ah}{ml:List Nat}{e a b c:Vc}{es:List Vc}{pa ta ia pb tb ib pc tc ic pu bt bi ps bs:Bool}{fa fb fc f:VF}{B B':Bs}{O:Nat->Option Ux}{H H1 H':Hp}{σ:St}{δ δ':Ev}{v:V}{d:cV}{p:Ux}{pos:Pos}{st:Vj}{rest:List Vj}{g g':VS}
def again(a:VS):Ou->Option Ou
 |.nx δ=>a δ
 |.ct δ=>a δ
 |.bk δ=>ba (.nx δ)
 |.rt d δ=>ba (.rt d δ)
noncomputable def aM(t:VB)(g:VS):Nat->VS
 |0=>λ_=>bb
 |n+1=>λδ=>(t δ).bind λp=>if p.1=bc then(g p.2).bind (again (aM t g n))else ba (.nx p.2)
theorem UO{t:VB}:∀{n:Nat}{δ:Ev}{o:Ou},aM t g n δ=ba o->aM t g (n+1) δ=ba o
 |0,_,_,h=>by cases h
 | n + 1,δ,o,h => by
  dsimp only[aM]at h;show((t δ).bind λp=>if p.1=bc then(g p.2).bind (again (aM t g (n+1)))else ba (.nx p.2))=ba o;cases h1:t δ with
  |none=>rw[h1]at h;cases h
  |some p=>
   rw[h1]at h;obtain⟨kk,δ1⟩:=p;cases kk with
   |false=>exact h
   |true=>
    have h:(g δ1).bind (again (aM t g n))=ba o:=h;show(g δ1).bind (again (aM t g (n+1)))=ba o;cases h2:g δ1 with
    |none=>rw[h2]at h;cases h
    |some z=>
     rw[h2]at h;cases z with
     |nx δ2=>exact UO (n:=n) h
     |ct δ2=>exact UO (n:=n) h
     |bk δ2=>exact h
     |rt d δ2=>exact h
theorem SA{t:VB}{n:Nat}{o:Ou}(h:aM t g n δ=ba o):∀k,aM t g (n+k) δ=ba o
 |0=>h
 |k+1=>UO (SA h k)
def D5{t:VB}{n m:Nat}{o o':Ou}(h:aM t g n δ=ba o)(h':aM t g m δ=ba o'):o=o':=by have b:=SA h m;have a:=SA h' n;rw[Qw]at a;rw[b]at a;exact Cv a
open Classical in
noncomputable def VJ(t:VB)(g:VS):VS:=λδ=>if h:∃o n,aM t g n δ=ba o then ba (Classical.choose h)else bb
def P2{t:VB}{n:Nat}{o:Ou}(h:aM t g n δ=ba o):VJ t g δ=ba o:=by have a:∃o n,aM t g n δ=ba o:=⟨o,n,h⟩;unfold VJ;rw[dif_pos a];obtain⟨m,b⟩:=Nk a;rw[D5 b h]
def DS{t:VB}{o:Ou}(h:VJ t g δ=ba o):∃n,aM t g n δ=ba o:=by
 unfold VJ at h;split at h
 ·rename_i a
  cases h;exact Nk a
 ·cases h
def NG{body:List Vj}{t:VB}(j:Rx (Vb X.prog X.w) X.A X.env X.xe)(hc:PT X c (TB K ml pc t))(p:W7 X body (WL K ml g)):PS X (.While c body [] pos) (WL K ml (VJ t g)):=(fH j hc p).imp λD σ H h=>by
 obtain⟨B,O,δ,o,S,q,k⟩:=h;obtain⟨n,l⟩:=DS q;refine⟨λm σ H=>∃O δ,aR K ml B O H σ δ/\aM t g m δ=ba o,⟨n,O,δ,S,l⟩,?_⟩;rintro m σ H ⟨O,δ,S,b⟩;cases m with
 |zero=>cases b
 |succ m=>
  dsimp only[aM]at b;obtain⟨⟨kk,δ1⟩,h1,b⟩:=Ac.mp b;refine⟨B,O,δ,kk,δ1,S,h1,λH1 i=>?_⟩;cases kk with
  |false=>
   have b:ba (Ou.nx δ1)=ba o:=b;cases b;exact PP (k σ H1 O i.sta)
  |true=>
   have b:(g δ1).bind (again (aM t g m))=ba o:=b;obtain⟨z,h2,b⟩:=Ac.mp b;refine PQ ⟨λa H'=>∃O δ,aR K ml B O H' a δ/\aM t g m δ=ba o,λa H' w=>⟨m,Rf _,w⟩,B,O,δ1,z,i.sta,h2,?_⟩;cases z with
   |nx δ2=>exact λa H' f e=>⟨f,δ2,e,b⟩
   |ct δ2=>exact λa H' f e=>⟨f,δ2,e,b⟩
   |bk δ2=>cases b;exact λa H' f e=>k a H' f e
   |rt d δ2=>cases b;exact λv a H' f e r=>k v a H' f e r
def Walk(K:Ah)(J:It)(a:List (V×cV))(ds:List cV):Prop:=∀(N:Ux->Prop) (H:Hp),(∀p∈a,bC K N H N p.1 p.2)->
 (∀(i:Nat) (d:cV),ds[i]?=ba d->J.go i H/\∀x H',J.yld i H x H'->bF H H'/\bC K N H' N x d)/\J.stop ds.length H
abbrev VI:=Ev->Option (List cV×Ev)
inductive TIVi(K:Ah)(ml:List Nat)(pu:Bool)(f:VI)(σ:St)(H:Hp)(R:It->Hp->Prop):Prop
 |mk (B:_) (O:_) (δ:_) (ds:_) (δ':_) (h0:aR K ml B O H σ δ) (h1:f δ=ba (ds,δ')) (h2:∀J kps H',aR K ml {B with kp:=kps++B.kp} O H' σ δ'->Fr (OA O) H H'->(pu=bc->bF H H')->Walk K J kps ds->R J H'):TIVi K ml pu f σ H R
def EB(K:Ah)(ml:List Nat)(pu:Bool)(f:VI):TI:=λσ H R=>TIVi K ml pu f σ H R
def PI.imp{tg:Vc}{t u:TI}(h:PI X tg e t)(k:∀σ H R,u σ H R->t σ H R):PI X tg e u:=λaa s σ H R I w=>h aa s σ H R I (k σ H R w)
def PI.or{tg:Vc}{t u:TI}(h:PI X tg e t)(h':PI X tg e u):PI X tg e (λσ H R=>t σ H R∨u σ H R):=λaa s σ H R I z=>by
 rcases z with z|z
 ·exact h aa s σ H R I z
 ·exact h' aa s σ H R I z
def YQ(f:VF):VI:=λδ=>(f δ).bind λp=>(XG p.1).map λds=>(ds,p.2)
def fT{a:Ux}{ds:List cV}:Walk K (Itl K a) [(.ref a,.lst ds)] ds:=by
 intro N H h;have r:=h _ (Ba.mpr rfl);have b:∀xs,X8 K H a xs->bZ K N H xs ds->(∀(i:Nat) (d:cV),ds[i]?=ba d->(Itl K a).go i H/\∀x H',(Itl K a).yld i H x H'->bF H H'/\bC K N H' N x d)/\(Itl K a).stop ds.length H:=λxs sq r=>by
  refine⟨λi d e=>?_,xs,sq,by rw[r.length];exact Am _⟩;obtain⟨x,c,f⟩:=r.get e;refine⟨⟨xs,x,sq,c⟩,λy H' g=>?_⟩;obtain⟨k,j⟩:=g;subst k;have:=j xs sq
  rw[c]at this;cases this;exact⟨bF.refl _,f⟩
 cases r.onL with
 |lst q n r=>exact b _ (X8.of q) r
 |fzl q r=>exact b _ q.sq r
def nN{a:Ux}{ds:List cV}:Walk K (Itt K a) [(.ref a,.tup ds)] ds:=by
 intro N H h;have r:=h _ (Ba.mpr rfl);cases r.onT with
 |tup sq r=>
  refine⟨λi d e=>?_,_,sq,by rw[r.length];exact Am _⟩;obtain⟨x,b,c⟩:=r.get e;refine⟨⟨_,x,sq,b⟩,λy H' f=>?_⟩;obtain⟨j,g⟩:=f;subst j;have:=g _ sq
  rw[b]at this;cases this;exact⟨bF.refl _,c⟩
def Z2{tg:Vc}(i:X.K=K)(h:PE X e (TV K ml pu bc bc f)):PI X tg e (EB K ml pu (YQ f)):=((Yy (K:=K) i h).or (Zz (K:=K) i h)).imp λσ H R c=>by
 obtain⟨B,O,δ,ds,δ',S,q,k⟩:=c;unfold YQ at q;obtain⟨⟨x,δ1⟩,h1,q⟩:=Ac.mp q;cases x with
 |lst g=>
  cases q;refine .inl ⟨B,O,δ,_,δ1,S,h1,λv H1 b=>?_⟩;obtain⟨a,xs,rfl,sq,r⟩:=b.rep.seq rfl;refine⟨a,rfl,?_,k _ [(.ref a,.lst ds)] H1 (b.sta.keepV λp d=>by rw[Ba.mp d];exact b.rep) b.frm b.pur fT⟩;have r:=b.rep;cases r.onL with
  |lst q _ _=>exact⟨_,X8.of q⟩
  |fzl q _=>exact⟨_,q.sq⟩
 |tup g=>
  cases q;refine .inr ⟨B,O,δ,_,δ1,S,h1,λv H1 b=>?_⟩;obtain⟨a,xs,rfl,sq,r⟩:=b.rep.seq rfl;refine⟨a,rfl,?_,k _ [(.ref a,.tup ds)] H1 (b.sta.keepV λp d=>by rw[Ba.mp d];exact b.rep) b.frm b.pur nN⟩;have r:=b.rep;cases r.onT with
  |tup q _=>exact⟨_,q⟩
 |_=>cases q
def Y4(lo:Int)(n:Nat):List cV:=(Au n).map λk:Nat=>.int (lo+k)
noncomputable def HG(f:VF):VI:=λδ=>(f δ).bind λp=>match p.1 with
 |.int j=>if -4611686018427387904<=j/\j<4611686018427387904 then ba (Y4 0 j.toNat,p.2)else bb
 |_=>bb
noncomputable def iR2(f g:VF):VI:=λδ=>(f δ).bind λp=>(g p.2).bind λq=>match p.1,q.1 with
 |.int i,.int j=>if(-4611686018427387904<=i/\i<4611686018427387904)/\ -4611686018427387904<=j/\j<4611686018427387904 then ba (Y4 i (j-i).toNat,q.2)else bb
 |_,_=>bb
def iZ{lo:Int}{n i:Nat}{d:cV}(h:(Y4 lo n)[i]?=ba d):i<n/\d=.int (lo+i):=by
 unfold Y4 at h;rw[Cg]at h;obtain⟨k,h1,h⟩:=Ao.mp h;cases h;have:=Ai.mp h1
 obtain⟨hl,e⟩:=this;rw[Hq]at hl;rw[Pc]at e;subst e;exact⟨hl,rfl⟩
def GJ{lo:Int}{n:Nat}:Walk K (Itr lo n) [] (Y4 lo n):=by intro N H _;refine⟨λi d e=>?_,by simp[Itr,Y4]⟩;obtain⟨hl,rfl⟩:=iZ e;refine⟨hl,λx H' a=>?_⟩;obtain⟨rfl,rfl⟩:=a;exact⟨bF.refl _,.int _⟩
def ZY{tg:Vc}{p':Pos}(l:Gl X "range")(i:X.mg "range"=bb)(h:PE X a (TV K ml pa ta ia fa))(g:Uz [a] X.env=[(bd,eval a X.env)]:=by rfl)(d:SE X a []:=by rfl):
  PI X tg (.Call (.Name "range" p') [a] [] pos) (EB K ml pa (HG fa)):=(lI l i (bN h aD d) g).imp λσ H R e=>by
 obtain⟨B,O,δ,ds,δ',S,q,k⟩:=e;unfold HG at q;obtain⟨⟨x,δ1⟩,h1,q⟩:=Ac.mp q;cases x with
 |int j=>
  have q:(if -4611686018427387904<=j/\j<4611686018427387904 then ba (Y4 0 j.toNat,δ1)else bb)=ba (ds,δ'):=q;split at q
  ·rename_i f
   cases q;have b:(2:Int) ^ 62=4611686018427387904:=by decide
   refine⟨B,O,δ,_,_,S,h1,λv H1 c=>⟨j,?_,by rw[b];exact f.1,by rw[b];exact f.2,k _ [] H1 (c.sta.keepV λ_ z=>nomatch z) c.frm c.pur GJ⟩⟩;rw[c.rep.onI]
  ·cases q
 |_=>cases q
def VT{tg:Vc}{p':Pos}(t:Gl X "range")(s:X.mg "range"=bb)(h:PE X a (TV K ml pa ta ia fa))(h':PE X b (TV K ml pb tb ib fb))(r:Uz [a,b] X.env=[(bd,eval a X.env),(bd,eval b X.env)]:=by rfl)(f:Uz [b] X.env=[(bd,eval b X.env)]:=by rfl)(u:SE X a [b]:=by rfl)(l:SE X b []:=by rfl):
  PI X tg (.Call (.Name "range" p') [a,b] [] pos) (EB K ml (pa&&pb) (iR2 fa fb)):=(kg t s (bN h (bN h' aD l) u) r f).imp λσ H R g=>by
 obtain⟨B,O,δ,ds,δ',S,q,k⟩:=g;unfold iR2 at q;obtain⟨⟨x,δ1⟩,h1,q⟩:=Ac.mp q;cases h2:fb δ1 with
 |none=>simp[h2]at q
 |some p2=>
  obtain⟨y,δ2⟩:=p2;simp only[Av,h2]at q;cases x with
  |int i=>
   cases y with
   |int j=>
    have q:(if(-4611686018427387904<=i/\i<4611686018427387904)/\ -4611686018427387904<=j/\j<4611686018427387904 then ba (Y4 i (j-i).toNat,δ2)else bb)=ba (ds,δ'):=q;split at q
    ·rename_i c
     cases q;have e:(2:Int) ^ 62=4611686018427387904:=by decide
     refine⟨B,O,δ,_,_,S,h1,λv H1 d=>⟨B,O,δ1,_,_,d.sta,h2,λw H2 R2=>⟨i,j,?_,by rw[e];exact⟨c.1.1,c.1.2,c.2.1,c.2.2⟩,k _ [] H2 (R2.sta.keepV λ_ z=>nomatch z) (d.frm.trans R2.frm) (λz=>by obtain⟨n,m⟩:=(Af _ _).mp z;exact(d.pur n).trans (R2.pur m)) GJ⟩⟩⟩
     have p:=d.rep;have o:=R2.rep;cases p.onI;cases o.onI;rfl
    ·cases q
   |_=>cases q
  |_=>cases q
noncomputable def W4(gg:VG)(s:VS):List cV->VS
 |[]=>λδ=>ba (.nx δ)
 |d::r=>λδ=>(gg d δ).bind λδ1=>(s δ1).bind (again (W4 gg s r))
def VH(fi:VI)(gg:VG)(s:VS):VS:=λδ=>(fi δ).bind λp=>W4 gg s p.1 p.2
def YS{tg iter:Vc}{body:List Vj}{fi:VI}{gg:VG}(s:Rx (Vb X.prog X.w) X.A X.env X.xe)(hc:X.calm=bc)(hi:PI X tg iter (EB K ml pu fi))(L:PG X tg (CM K ml gg))(M:W7 X body (WL K ml g))
  (I:∀x,Vh iter X.env x=pure x:=by intro _;rfl):PS X (.For tg iter body [] pos) (WL K ml (VH fi gg g)):=(mH s hc hi L M I).imp λD σ H n=>by
 obtain⟨B,O,δ,o,S,q,k⟩:=n;unfold VH at q;obtain⟨⟨ds,δ1⟩,h1,q⟩:=Ac.mp q;have q:W4 gg g ds δ1=ba o:=q;refine⟨B,O,δ,ds,δ1,S,h1,λJ l H1 Q _ _ y=>?_⟩;refine⟨λi m σ H=>m=ds.length-i/\i<=ds.length/\∃O δ,aR K ml {B with kp:=l++B.kp} O H σ δ/\W4 gg g (ds.drop i) δ=ba o,⟨ds.length,rfl,Df _,O,δ1,Q,q⟩,?_⟩;rintro i m σ H ⟨rfl,hi,O,δ,S,b⟩;have w:=y (Nn B O) H λp s=>S.kep p (Bt _ s);by_cases f:i<ds.length
 ·obtain ⟨go,u⟩ := w.1 i ds[i] (by simp [f])
  rw[Dn f]at b;refine .inr ⟨go,λa H'=>∃O δ,aR K ml {B with kp:=l++B.kp} O H' a δ/\W4 gg g (ds.drop (i+1)) δ=ba o,λa H' C=>⟨ds.length-(i+1),by lia,rfl,f,C⟩,λx H' G=>?_⟩;obtain⟨E,F⟩:=u x H' G;have b:((gg ds[i] δ).bind λδ1=>(g δ1).bind (again (W4 gg g (ds.drop (i+1)))))=ba o:=b;obtain⟨δ2,h2,b⟩:=Ac.mp b;have b:(g δ2).bind (again (W4 gg g (ds.drop (i+1))))=ba o:=b;refine⟨_,O,δ,ds[i],δ2,S.same E,F,h2,λt R P _=>?_⟩;obtain⟨z,N,b⟩:=Ac.mp b;refine⟨_,R,δ2,z,P,N,?_⟩;cases z with
  |nx c=>exact λa H' j h=>⟨j,c,h,b⟩
  |ct c=>exact λa H' j h=>⟨j,c,h,b⟩
  |bk c=>cases b;exact λa H' j h=>k a H' j h.unkeep
  |rt d c=>cases b;exact λv a H' j h r=>k v a H' j h.unkeep r
 ·have e : i = ds.length := by lia
  subst e;rw[Fw]at b;cases b;exact .inl ⟨w.2,k σ H O S.unkeep⟩
end
section
variable{X:Cx}{K:Ah}{ml:List Nat}{e a b c:Vc}{es:List Vc}{pa ta ia pb tb ib pc tc ic pu bt bi ps bs:Bool}{fa fb fc f:VF}{B B':Bs}{O:Nat->Option Ux}{H H1 H':Hp}{σ:St}{δ δ':Ev}{v:V}{d:cV}{p:Ux}{pos:Pos}{st:Vj}{rest:List Vj}{g g':VS}
def aR.call{P:Ux->Prop}(S:aR K ml B O H σ δ)(hl:δ'.length=δ.length)(h:∀i:Nat,(δ'[i]?=δ[i]? /\∀a,O i=ba a->¬P a)∨∃a d',O i=ba a/\δ'[i]?=ba (Sl.ow d')/\NY K (Nn B O) H' a d')
  (f:Fr P H H') (j:∀a,P a->OA O a):aR K ml B O H' σ δ' where
 len:=by rw[hl,S.len]
 va:=λi d e=>by
  rcases h i with⟨g,_⟩|⟨a,d',_,g,_⟩
  ·rw[g]at e
   obtain⟨v,c,r⟩:=S.va i d e;exact⟨v,c,r.fr f (λa z=>.inr (j a z)) λa z=>.inr (j a z)⟩
  ·rw[g]at e
   cases e
 ow:=λi d e=>by
  rcases h i with⟨g,n⟩|⟨a,d',c,g,w⟩
  ·rw[g]at e
   obtain⟨a,c,k,w⟩:=S.ow i d e;exact⟨a,c,k,w.fr f (λa z=>.inr (j a z)) (n a c)⟩
  ·rw[g]at e
   cases e;obtain⟨l,q0⟩:=S.dom i a c;obtain⟨t,k,s,_⟩:=S.ow i l q0;rw[c]at k;cases k;exact⟨a,c,s,w⟩
 dom:=λi a e=>by
  rcases h i with⟨g,n⟩|⟨a,d',c,g,w⟩
  ·obtain⟨l,q0⟩:=S.dom i a e
   exact⟨l,g.trans q0⟩
  ·exact⟨d',g⟩
 inj:=S.inj
 old:=S.old
 zin:=λa h'=>by
  obtain⟨o,q⟩:=S.zin a h';exact⟨o,f a o q λz=>by obtain⟨i,e⟩:=j a z;exact absurd h' (S.old i a e).1⟩
 frm:=λb o q n=>by
  have h1:=S.frm b o q n;refine f b o h1 λz=>?_;obtain⟨i,e⟩:=j b z;rcases(S.old i b e).2 with w|w
  ·exact n w
  ·rw[q]at w;cases w
 par:=S.par
 pin:=λa h'=>by
  obtain⟨o,q⟩:=S.pin a h';by_cases z:P a
  ·obtain⟨i,e⟩:=j a z
   rcases h i with⟨_,n⟩|⟨t,d',c,g,w⟩
   ·exact absurd z (n a e)
   ·rw[e]at c
    cases c;obtain⟨o,q,_⟩:=w.soft;exact⟨o,q⟩
  ·exact⟨o,f a o q λy=>absurd y z⟩
 kep:=λp m=>(S.kep p m).fr f (λa z=>.inr (j a z)) λa z=>.inr (j a z)
abbrev bM:=List cV->Option (cV×List cV)
def LB(ml:List Nat)(vs:List V):Ux->Prop:=λa=>∃i∈ml,vs[i]?=ba (.ref a)
def Zp(Z:Ux->Prop)(ml:List Nat)(vs:List V):Ux->Prop:=λa=>Z a∨LB ml vs a
structure Vs(K:Ah)(ml:List Nat)(Z:Ux->Prop)(H:Hp)(vs:List V)(ds:List cV):Prop where
 len:vs.length=ds.length
 mem:∀i∈ml,i<ds.length
 va:∀(i:Nat) (d:cV),i∉ml->ds[i]?=ba d->∃v,vs[i]?=ba v/\bC K (Zp Z ml vs) H (Zp Z ml vs) v d
 ow:∀(i:Nat) (d:cV),i∈ml->ds[i]?=ba d->∃a,vs[i]?=ba (.ref a)/\NY K (Zp Z ml vs) H a d/\¬Z a
 inj:∀(i j:Nat) (a:Ux),i∈ml->j∈ml->vs[i]?=ba (.ref a)->vs[j]?=ba (.ref a)->i=j
 zin:(∀a,Z a->∃o,H a=ba o)/\CL K H
inductive spVi(K:Ah)(ml:List Nat)(n:Nat)(F:bM)(vs:List V)(H:Hp)(Q:VK):Prop
 |mk (Z:Ux->Prop) (ds:List cV) (r:cV) (os:List cV) (h0:ds.length=n) (h1:Vs K ml Z H vs ds) (h2:F ds=ba (r,os)) (h3:∀v H',Fr (LB ml vs) H H'->(∀(k i:Nat) (a:Ux) (o:cV),ml[k]?=ba i->vs[i]?=ba (.ref a)->os[k]?=ba o->NY K (Zp Z ml vs) H' a o)->bC K (Zp Z ml vs) H' (Zp Z ml vs) v r->Q v H'):spVi K ml n F vs H Q
def spV(K:Ah)(ml:List Nat)(n:Nat)(F:bM):Sp:=λvs H Q _=>spVi K ml n F vs H Q
def bA(ml:List Nat)(n:Nat)(ds:List cV):Ev:=ds.mapIdx (λi d=>if i∈ml then Sl.ow d else Sl.va d)++As (n-ds.length) Sl.no
noncomputable def UV(ml:List Nat)(δ:Ev):Option (List cV):=ml.mapM λ(i:Nat)=>match(δ[i]? :Option Sl)with
 |some (Sl.ow d)=>ba d
 |_=>bb
def a9(n:Nat)(ml:List Nat)(g:VS):bM:=λds=>(g (bA ml n ds)).bind λo=>match o with
 |.rt d δ=>(UV ml δ).map λos=>(d,os)
 |.nx δ=>(UV ml δ).map λos=>(.non,os)
 |_=>bb
theorem FG:∀{ml:List Nat}{δ:Ev}{os:List cV},UV ml δ=ba os->∀(k i:Nat) (o:cV),ml[k]?=ba i->os[k]?=ba o->δ[i]?=ba (.ow o)
 |[],_,_,h,k,i,o,a,b=>by simp at a
 | j :: ml,δ,os,h,k,i,o,a,b => by
  unfold UV at h;rw[Sw]at h;split at h
  ·rename_i d e
   cases h2:(ml.mapM λ(i:Nat)=>match(δ[i]? :Option Sl)with
    |some (Sl.ow d)=>ba d
    |_=>bb:Option (List cV))with
   |none=>rw[h2]at h;cases h
   |some c=>
    rw[h2]at h;cases h;cases k with
    |zero=>
     cases a;cases b;exact e
    |succ k=>exact FG (ml:=ml) h2 k i o (by simpa using a) (by simpa using b)
  ·cases h
def P4{N:List Va}{Z:Ux->Prop}{vs:List V}{ds:List cV}(A:Vs K ml Z H vs ds)(B:ds.length<=N.length):∃g:Nat->Option Ux,(∀i a,g i=ba a↔i∈ml/\vs[i]?=ba (.ref a))/\aR K ml ⟨Z,LB ml vs,H,g,[]⟩ g H (start N vs) (bA ml N.length ds):=by
 classical
 let g:Nat->Option Ux:=λi=>if i∈ml then(match vs[i]? with
  |some (.ref a)=>ba a
  |_=>bb)else bb
 have c:∀i a,g i=ba a↔i∈ml/\vs[i]?=ba (.ref a):=λi a=>by
  show(if i∈ml then(match vs[i]? with
   |some (.ref a)=>ba a
   |_=>bb)else bb)=ba a↔_
  by_cases hi:i∈ml
  ·rw[if_pos hi]
   constructor
   ·intro h
    split at h
    ·rename_i b x
     cases h;exact⟨hi,x⟩
    ·cases h
   ·rintro ⟨_,h⟩
    rw[h]
  ·rw[if_neg hi]
   exact⟨(λh=>nomatch h),λh=>absurd h.1 hi⟩
 have m:∀a,Nn ⟨Z,LB ml vs,H,g,[]⟩ g a->Zp Z ml vs a:=λa h=>by
  rcases h with h|⟨i,h⟩
  ·exact .inl h
  ·exact .inr ⟨i,(c i a).mp h⟩
 have t:∀(i:Nat) (s:Sl),(bA ml N.length ds)[i]?=ba s->(∃d,ds[i]?=ba d/\s=if i∈ml then .ow d else .va d)∨s=.no:=λi s h=>by
  unfold bA at h;by_cases hi:i<ds.length
  ·rw [Ar (by simpa using hi),Nx]at h
   cases q:ds[i]? with
   |none=>rw[q]at h;cases h
   |some d=>rw[q]at h;cases h;exact .inl ⟨d,rfl,rfl⟩
  ·rw [Cd (by simpa using hi),Dz]at h
   split at h
   ·cases h;exact .inr rfl
   ·cases h
 have k:∀(i:Nat) (v:V),vs[i]?=ba v->(start N vs)[i]?=ba (ba v):=λi v h=>by unfold start;have hi:i<vs.length:=(Ai.mp h).1;rw[Ar (by simpa using hi),Cg,h];rfl
 refine⟨g,c,?_,λi d q=>?_,λi d q=>?_,λi a q=>?_,λi j a q1 q2=>?_,λi a q=>?_,A.zin.1,Fr.refl _ _,⟨⟨λi a q=>((c i a).mp q).1,A.zin.2⟩,λi _=>rfl⟩,λa q=>?_,λp u=>nomatch u⟩
 ·unfold start bA
  have:=A.len
  simp;lia
 ·rcases t i _ q with⟨e,h1,h2⟩|h
  ·by_cases hi:i∈ml
   ·rw[if_pos hi]at h2;cases h2
   ·rw[if_neg hi]at h2
    cases h2;obtain⟨v,f,r⟩:=A.va i d hi h1;exact⟨v,k i v f,r.mono m m⟩
  ·cases h
 ·rcases t i _ q with⟨e,h1,h2⟩|h
  ·by_cases hi:i∈ml
   ·rw[if_pos hi]at h2
    cases h2;obtain⟨a,f,w,_⟩:=A.ow i d hi h1;exact⟨a,(c i a).mpr ⟨hi,f⟩,k i _ f,w.mono m⟩
   ·rw[if_neg hi]at h2;cases h2
  ·cases h
 ·obtain⟨hi,f⟩:=(c i a).mp q
  have hl:=A.mem i hi;refine⟨ds[i],?_⟩;unfold bA;rw[Ar (by simpa using hl),Nx];simp[hl,hi]
 ·exact A.inj i j a ((c i a).mp q1).1 ((c j a).mp q2).1 ((c i a).mp q1).2 ((c j a).mp q2).2
 ·obtain⟨hi,f⟩:=(c i a).mp q
  refine⟨λz=>?_,.inl ⟨i,hi,f⟩⟩;obtain⟨y,l,_,n⟩:=A.ow i (ds[i]'(A.mem i hi)) hi (by simp[A.mem i hi]);rw[f]at l;cases l;exact n z
 ·obtain⟨i,hi,f⟩:=q
  obtain⟨y,l,w,n⟩:=A.ow i (ds[i]'(A.mem i hi)) hi (by simp[A.mem i hi]);rw[f]at l;cases l;obtain⟨o,q,_⟩:=w.soft;exact⟨o,q⟩
def Wj{N ps:List Va}{vs:List V}{Q:VK}{E:XK}(u:ps.length<=N.length)(h:spV K ml ps.length (a9 N.length ml g) vs H Q E):WL K ml g {nx:=λ_ H'=>Q .non H',rt:=Q} (start N vs) H:=by
 obtain⟨Z,ds,r,os,C,AV,c,k⟩:=h;obtain⟨q,n,J⟩:=P4 (N:=N) AV (by rw[C];exact u);unfold a9 at c;obtain⟨o,h1,c⟩:=Ac.mp c;refine⟨_,q,_,o,J,h1,?_⟩;have s:∀(δ':Ev) (v:V) (f:St) (H':Hp) (p:Nat->Option Ux),UV ml δ'=ba os->aR K ml ⟨Z,LB ml vs,H,q,[]⟩ p H' f δ'->bC K (rz ⟨Z,LB ml vs,H,q,[]⟩) H' (rz ⟨Z,LB ml vs,H,q,[]⟩) v r->Q v H':=λδ' v f H' p B l m=>by
  have hz:∀a,Zp Z ml vs a->rz ⟨Z,LB ml vs,H,q,[]⟩ a:=λa h=>by
   rcases h with h|⟨i,hi,e⟩
   ·exact .inl h
   ·exact .inr ⟨i,(n i a).mpr ⟨hi,e⟩⟩
  refine k v H' l.frm (λkk i a o A I G=>?_) (m.mono hz hz);have D:=FG B kk i o A G;obtain⟨L,z,_,w⟩:=l.ow i o D;have hi:i∈ml:=Ew A;have:=(l.par.2 i hi).trans ((n i a).mpr ⟨hi,I⟩)
  rw[this]at z;cases z;refine w.mono λb x=>?_;rcases x with x|⟨j,y,F⟩
  ·exact .inl x
  ·exact .inr ⟨j,(l.par.2 j y).trans ((n j b).mpr ⟨y,F⟩)⟩
 cases o with
 |rt d δ'=>
  have c:(UV ml δ').map (λos=>(d,os))=ba (r,os):=c;cases h2:UV ml δ' with
  |none=>rw[h2]at c;cases c
  |some t=>
   rw[h2]at c;cases c;exact λv f H' p l m=>s δ' v f H' p h2 l m
 |nx δ'=>
  have c:(UV ml δ').map (λos=>(cV.non,os))=ba (r,os):=c;cases h2:UV ml δ' with
  |none=>rw[h2]at c;cases c
  |some t=>
   rw[h2]at c;cases c;exact λf H' p l=>s δ' .non f H' p h2 l .non
 |bk δ'=>cases c
 |ct δ'=>cases c
def SO.okV{P:Aw}{w:Ve}{mg:Va->Option Uw}{base:Vg}{x qual:Va}{st:Vj}{f:Ux}{fd:Ci}{N ps:List Va}{k:Nat}(F:SO K x qual st f fd)(S:aS N ps (cL st))(b:ps.length<=N.length)(e:∀(a:Uw) (A:Bw) (outer:List Env) (s:Ae) (H:Hp) (E:XK),ZZ k (A.deeper (envOfC qual (cL st) s.heap.objs.size f a))->W7 (UT CX0 P w K mg base N qual (cL st) f a A outer s H E).nox (aY st) (WL K ml g)):YO P w K mg base CX0 (k+1) f fd ps (spV K ml ps.length (a9 N.length ml g)):=by refine F.ok S (λvs H Q E h=>?_) (λa A outer s H vs Q E c h=>⟨_,e a A outer s H E c,Wj b h⟩);obtain⟨Z,ds,r,os,d,AV,_⟩:=h;rw[AV.len,d]
inductive AV where
 |d (d:cV)|o (j:Nat)
inductive U6(K:Ah)(N:Ux->Prop)(H:Hp)(σ:St):List V->List AV->Prop
 |nil:U6 K N H σ [] []
 |d {v:V}{vs:List V}{d:cV}{as:List AV}:bC K N H N v d->U6 K N H σ vs as->U6 K N H σ (v::vs) (.d d::as)
 |o {v:V}{vs:List V}{j:Nat}{as:List AV}:σ[j]?=ba (ba v)->U6 K N H σ vs as->U6 K N H σ (v::vs) (.o j::as)
abbrev JB:=Ev->Option (List AV×Ev)
structure ResG(K:Ah)(ml:List Nat)(B:Bs)(O:Nat->Option Ux)(H:Hp)(σ:St)(pu:Bool)(H':Hp)(δ':Ev)(vs:List V)(as:List AV):Prop where
 sta:aR K ml B O H' σ δ'
 frm:Fr (OA O) H H'
 pur:pu=bc->bF H H'
 rep:U6 K (Nn B O) H' σ vs as
inductive TAGi(K:Ah)(ml:List Nat)(pu:Bool)(f:JB)(σ:St)(H:Hp)(Q:List V->Hp->Prop):Prop
 |mk (B:_) (O:_) (δ:_) (as:_) (δ':_) (h0:aR K ml B O H σ δ) (h1:f δ=ba (as,δ')) (h2:∀vs H',ResG K ml B O H σ pu H' δ' vs as->Q vs H'):TAGi K ml pu f σ H Q
def TAG(K:Ah)(ml:List Nat)(pu:Bool)(f:JB):TA:=λσ H Q=>TAGi K ml pu f σ H Q
def cE:JB:=λδ=>ba ([],δ)
noncomputable def aE(f:VF)(fs:JB):JB:=λδ=>(f δ).bind λp=>(fs p.2).map λq=>(.d p.1::q.1,q.2)
noncomputable def slot(δ:Ev)(j:Nat):Option cV:=match δ[j]? with
 |some (.va d)=>ba d
 |some (.ow d)=>ba d
 |_=>bb
def aO(j:Nat)(fs:JB):JB:=λδ=>(slot δ j).bind λ_=>(fs δ).map λq=>(.o j::q.1,q.2)
def cQ:PA X [] (TAG K ml bc cE):=aD.imp λσ H Q a=>by obtain⟨B,O,δ,d,δ',S,q,k⟩:=a;cases q;exact k [] H ⟨S,Fr.refl _ _,λ_=>bF.refl _,.nil⟩
def cR{fs:JB}(i:PE X a (TV K ml pa bc bc fa))(h:PA X es (TAG K ml ps fs))(g:SE X a es:=by rfl):PA X (a::es) (TAG K ml (pa&&ps) (aE fa fs)):=(bN i h g).imp λσ H Q c=>by obtain⟨B,O,δ,as,δ2,S,q,k⟩:=c;unfold aE at q;obtain⟨⟨x,δ1⟩,h1,q⟩:=Ac.mp q;have q:((fs δ1).map λq=>(AV.d x::q.1,q.2))=ba (as,δ2):=q;obtain⟨p2,h2,q⟩:=Ao.mp q;cases q;refine⟨B,O,δ,x,δ1,S,h1,λj H1 b=>⟨B,O,δ1,_,_,b.sta,h2,λvs H2 R2=>k _ H2 ⟨R2.sta,b.frm.trans R2.frm,λz=>?_,.d (b.rep.fr R2.frm (λa z=>.inr z) λa z=>.inr z) R2.rep⟩⟩⟩;obtain⟨f,e⟩:=(Af _ _).mp z;exact(b.pur f).trans (R2.pur e)
def K3{j:Nat}{d:cV}(h:slot δ j=ba d):δ[j]?=ba (.va d)∨δ[j]?=ba (.ow d):=by
 unfold slot at h;split at h
 ·cases h;exact .inl (by assumption)
 ·cases h;exact .inr (by assumption)
 ·cases h
def aR.slot(S:aR K ml B O H σ δ){j:Nat}{d:cV}(h:slot δ j=ba d):∃v,σ[j]?=ba (ba v):=by
 rcases K3 h with h|h
 ·obtain⟨v,e,_⟩:=S.va j d h
  exact⟨v,e⟩
 ·obtain⟨a,_,e,_⟩:=S.ow j d h
  exact⟨_,e⟩
def aW{fs:JB}{j:Nat}(g:PE X a (LV j))(f:PA X es (TAG K ml ps fs))(c:SE X a es:=by rfl):PA X (a::es) (TAG K ml ps (aO j fs)):=(bN g f c).imp λσ H Q b=>by obtain⟨B,O,δ,as,δ2,S,q,k⟩:=b;unfold aO at q;obtain⟨d,h1,q⟩:=Ac.mp q;have q:((fs δ).map λq=>(AV.o j::q.1,q.2))=ba (as,δ2):=q;obtain⟨p2,h2,q⟩:=Ao.mp q;cases q;obtain⟨v,e⟩:=S.slot h1;exact⟨v,e,B,O,δ,_,_,S,h2,λvs H2 R2=>k _ H2 ⟨R2.sta,R2.frm,R2.pur,.o e R2.rep⟩⟩
theorem U6.length:∀{N:Ux->Prop}{vs:List V}{as:List AV},U6 K N H σ vs as->vs.length=as.length
 |_,_,_,.nil=>rfl
 |_,_,_,.d _ t=>congrArg (· +1) (U6.length t)
 |_,_,_,.o _ t=>congrArg (· +1) (U6.length t)
theorem U6.getD:∀{N:Ux->Prop}{vs:List V}{as:List AV}{i:Nat}{d:cV},U6 K N H σ vs as->as[i]?=ba (.d d)->∃v,vs[i]?=ba v/\bC K N H N v d
 |_,_,_,_,_,.nil,e=>by simp at e
 |_,_,_,0,_,.d h _,e=>by simp at e;subst e;exact⟨_,rfl,h⟩
 |_,_,_,0,_,.o h _,e=>by simp at e
 |_,_,_,i+1,_,.d _ t,e=>by obtain⟨u,h1,h2⟩:=U6.getD (i:=i) t (by simpa using e);exact⟨u,by simpa using h1,h2⟩
 |_,_,_,i+1,_,.o _ t,e=>by obtain⟨u,h1,h2⟩:=U6.getD (i:=i) t (by simpa using e);exact⟨u,by simpa using h1,h2⟩
theorem U6.getO:∀{N:Ux->Prop}{vs:List V}{as:List AV}{i j:Nat},U6 K N H σ vs as->as[i]?=ba (.o j)->∃v,vs[i]?=ba v/\σ[j]?=ba (ba v)
 |_,_,_,_,_,.nil,e=>by simp at e
 |_,_,_,0,_,.d h _,e=>by simp at e
 |_,_,_,0,_,.o h _,e=>by simp at e;subst e;exact⟨_,rfl,h⟩
 |_,_,_,i+1,_,.d _ t,e=>by obtain⟨u,h1,h2⟩:=U6.getO (i:=i) t (by simpa using e);exact⟨u,by simpa using h1,h2⟩
 |_,_,_,i+1,_,.o _ t,e=>by obtain⟨u,h1,h2⟩:=U6.getO (i:=i) t (by simpa using e);exact⟨u,by simpa using h1,h2⟩
def argD(δ:Ev):AV->Option cV
 |.d d=>ba d
 |.o j=>slot δ j
noncomputable def WD(δ:Ev):List AV->Option (List cV)
 |[]=>ba []
 |a::as=>(argD δ a).bind λd=>(WD δ as).map λds=>d::ds
theorem JC:∀{as:List AV}{ds:List cV},WD δ as=ba ds->as.length=ds.length/\∀(i:Nat) (d:cV),ds[i]?=ba d->∃a,as[i]?=ba a/\argD δ a=ba d
 |[],ds,h=>by cases h;exact⟨rfl,λi d e=>by simp at e⟩
 | a :: as,ds,h => by
  unfold WD at h;obtain⟨d,h1,h⟩:=Ac.mp h;cases h2:WD δ as with
  |none=>simp[h2]at h
  |some k=>
   simp only[Av,h2]at h;cases h;obtain⟨l,g⟩:=JC h2;refine⟨by simp[l],λi e c=>?_⟩;cases i with
   |zero=>cases c;exact⟨a,rfl,h1⟩
   |succ i=>
    obtain⟨b,j,f⟩:=g i e (by simpa using c);exact⟨b,by simpa using j,f⟩
noncomputable def UU:List AV->List Nat
 |[]=>[]
 |.d _::as=>UU as
 |.o j::as=>j::UU as
theorem PR:∀{as:List AV}{i j:Nat},as[i]?=ba (.o j)->j∈UU as
 |[],_,_,e=>by simp at e
 |.d _::as,0,j,e=>by simp at e
 |.o k::as,0,j,e=>by simp at e;subst e;exact Ax
 |.d _::as,i+1,j,e=>PR (as:=as) (i:=i) (by simpa using e)
 |.o k::as,i+1,j,e=>Ap _ (PR (as:=as) (i:=i) (by simpa using e))
theorem AX:∀{as:List AV}{j:Nat},j∈UU as->∃i:Nat,as[i]?=ba (AV.o j)
 |[],_,h=>nomatch h
 |.d _::as,j,h=>by obtain⟨i,e⟩:=AX (as:=as) h;exact⟨i+1,by simpa using e⟩
 | .o k :: as,j,h => by
  rcases Ak.mp h with e|e
  ·exact⟨0,by rw[e];rfl⟩
  ·obtain⟨i,e⟩:=AX (as:=as) e
   exact⟨i+1,by simpa using e⟩
theorem HI:∀{as:List AV}{i k j:Nat},(UU as).Nodup->as[i]?=ba (.o j)->as[k]?=ba (.o j)->i=k
 |[],_,_,_,_,e,_=>by simp at e
 |.d _::as,0,_,j,_,e,_=>by simp at e
 |.d _::as,_+1,0,j,_,_,e=>by simp at e
 |.d _::as,i+1,k+1,j,n,b,a=>congrArg (· +1) (HI (as:=as) n (by simpa using b) (by simpa using a))
 |.o x::as,0,0,j,_,_,_=>rfl
 |.o x::as,0,k+1,j,n,b,a=>by
  simp at b;subst b;have h:as[k]?=ba (.o x):=by simpa using a
  exact absurd (PR h) (Di.mp n).1
 |.o x::as,i+1,0,j,n,b,a=>by
  simp at a;subst a;have h:as[i]?=ba (.o x):=by simpa using b
  exact absurd (PR h) (Di.mp n).1
 |.o x::as,i+1,k+1,j,n,b,a=>congrArg (· +1) (HI (as:=as) (Di.mp n).2 (by simpa using b) (by simpa using a))
noncomputable def A5(δ:Ev)(as:List AV)(i:Nat):Bool:=match as[i]? with
 |some (.o j)=>match δ[j]? with
  |some (.ow _)=>bc
  |_=>bd
 |_=>bd
noncomputable def WP(mF:List Nat):List AV->Nat->Bool
 |[],_=>bc
 |.d _::as,i=>WP mF as (i+1)
 |.o _::as,i=>decide (i∈mF)&&WP mF as (i+1)
theorem SX{mF:List Nat}:∀{as:List AV}{k i j:Nat},WP mF as k=bc->as[i]?=ba (.o j)->k+i∈mF
 |[],_,_,_,_,e=>by simp at e
 |.d _::as,k,0,j,h,e=>by simp at e
 |.o _::as,k,0,j,h,e=>by simp only[WP,Af,decide_eq_true_eq]at h;exact h.1
 |.d _::as,k,i+1,j,h,e=>by
  have:=SX (as:=as) (k:=k+1) (i:=i) (j:=j) h (by simpa using e)
  rwa[show k+(i+1)=k+1+i by lia]
 |.o _::as,k,i+1,j,h,e=>by
  simp only[WP,Af]at h;have:=SX (as:=as) (k:=k+1) (i:=i) (j:=j) h.2 (by simpa using e)
  rwa[show k+(i+1)=k+1+i by lia]
def UD:cV->Bool
 |.lst ds=>UB ds
 |.dct _ ds=>UB ds
 |_=>bd
def NY.kids{N N':Ux->Prop}{a:Ux}(w:NY K N H a d)(h:UD d=bc):NY K N' H a d:=by
 cases w with
 |lst q r=>exact .lst q (r.hard h)
 |dct q r=>exact .dct q (r.hard h)
noncomputable def WM(as:List AV):List Nat->List cV->Ev->Ev
 |i::is,o::os,δ=>match as[i]? with
  |some (.o j)=>WM as is os (δ.set j (.ow o))
  |_=>WM as is os δ
 |_,_,δ=>δ
theorem Q4{as:List AV}:∀{is:List Nat}{os:List cV}{δ:Ev},(WM as is os δ).length=δ.length
 |[],_,_=>rfl
 |_::_,[],_=>rfl
 |i::is,o::os,δ=>by
  unfold WM;split
  ·rw[Q4,Ck]
  ·rw[Q4]
theorem M8{as:List AV}:∀{is:List Nat}{os:List cV}{δ:Ev}(j:Nat),is.length=os.length->j<δ.length->(∃(k i:Nat) (o:cV),is[k]?=ba i/\os[k]?=ba o/\as[i]?=ba (AV.o j)/\(WM as is os δ)[j]?=ba (Sl.ow o))∨((∀i∈is,as[i]? ≠ba (AV.o j))/\(WM as is os δ)[j]?=δ[j]?)
 |[],[],δ,j,_,_=>.inr ⟨(λi h=>nomatch h),rfl⟩
 | i :: is,o :: os,δ,j,hl,d => by
  unfold WM;split
  ·rename_i g l
   rcases M8 (is:=is) (os:=os) (δ:=δ.set g (.ow o)) j (by simpa using hl) (by rw[Ck];exact d)with⟨k,a,o',h1,h2,f,e⟩|⟨h1,h2⟩
   ·exact .inl ⟨k+1,a,o',by simpa using h1,by simpa using h2,f,e⟩
   ·by_cases b:j=g
    ·subst b
     rw[Dq d]at h2;exact .inl ⟨0,i,o,rfl,rfl,l,h2⟩
    ·rw[Bz (Ea b)]at h2
     refine .inr ⟨λa c=>?_,h2⟩;rcases Ak.mp c with z|z
     ·rw[z,l]
      intro w;cases w;exact b rfl
     ·exact h1 a z
  ·rename_i m
   rcases M8 (is:=is) (os:=os) (δ:=δ) j (by simpa using hl) d with⟨k,a,o',h1,h2,f,e⟩|⟨h1,h2⟩
   ·exact .inl ⟨k+1,a,o',by simpa using h1,by simpa using h2,f,e⟩
   ·refine .inr ⟨λa c => ?_,h2⟩
    rcases Ak.mp c with z|z
    ·rw[z]
     exact λw=>m j w
    ·exact h1 a z
def U7(mF:List Nat)(as:List AV)(δ:Ev):Bool:=mF.all (A5 δ as)&&decide (UU as).Nodup
def VY(mF:List Nat)(as:List AV)(r:cV)(os:List cV):Bool:=(WP mF as 0 || r.hard)&&(WP mF as 0 || os.all UD)&&decide (mF.length=os.length)
def cK(n:Nat)(mF:List Nat)(F:bM)(fs:JB):VF:=λδ=>(fs δ).bind λp=>(WD p.2 p.1).bind λds=>if ds.length=n/\U7 mF p.1 p.2=bc then(F ds).bind λq=>if VY mF p.1 q.1 q.2=bc then ba (q.1,WM p.1 mF q.2 p.2)else bb else bb
def IN{n:Nat}{mF:List Nat}{F:bM}{fs:JB}{Q:VK}(h:TV K ml (ps && mF.isEmpty) bc bc (cK n mF F fs) σ H Q):B6 (spV K mF n F) [] E0 (TAG K ml ps fs) σ H Q:=by
 obtain⟨B,O,δ,d,δ2,S,q,k⟩:=h;unfold cK at q;obtain⟨⟨as,δ1⟩,h1,q⟩:=Ac.mp q;have q:((WD δ1 as).bind λds=>if ds.length=n/\U7 mF as δ1=bc then(F ds).bind λq=>if VY mF as q.1 q.2=bc then ba (q.1,WM as mF q.2 δ1)else bb else bb)=ba (d,δ2):=q;obtain⟨ds,h2,q⟩:=Ac.mp q;have q:(if ds.length=n/\U7 mF as δ1=bc then(F ds).bind λq=>if VY mF as q.1 q.2=bc then ba (q.1,WM as mF q.2 δ1)else bb else bb)=ba (d,δ2):=q;split at q
 ·rename_i hc
  obtain⟨⟨r,os⟩,h3,q⟩:=Ac.mp q;have q:(if VY mF as r os=bc then ba (r,WM as mF os δ1)else bb)=ba (d,δ2):=q;split at q
  ·rename_i T
   cases q;obtain⟨hn,hc⟩:=hc;simp only[U7,Af,decide_eq_true_eq,Fy]at hc;simp only[VY,Af,decide_eq_true_eq]at T;obtain⟨Y,hnd⟩:=hc;obtain⟨⟨ip,j8⟩,ag⟩:=T;refine⟨B,O,δ,as,δ1,S,h1,λvs H1 R=>?_⟩;show spV K mF n F (vs++[]) H1 Q E0;rw[Ep];obtain⟨U,V⟩:=JC h2;have G:∀i∈mF,∃j a x,as[i]?=ba (.o j)/\δ1[j]?=ba (.ow x)/\O j=ba a/\vs[i]?=ba (.ref a)/\NY K (Nn B O) H1 a x:=λi hi=>by
    have:=Y i hi
    unfold A5 at this;split at this
    ·rename_i j ej
     split at this
     ·rename_i x ex
      obtain⟨a,c,g,w⟩:=R.sta.ow j x ex;obtain⟨v,l,t⟩:=R.rep.getO ej;rw[g]at t;cases t;exact⟨j,a,x,ej,ex,c,l,w⟩
     ·cases this
    ·cases this
   have hP:∀a,LB mF vs a->∃i j,i∈mF/\as[i]?=ba (.o j)/\O j=ba a:=λa q0=>by obtain⟨i,hi,e⟩:=q0;obtain⟨j,a',x,c,_,g,l,_⟩:=G i hi;rw[e]at l;cases l;exact⟨i,j,hi,c,g⟩
   have L:∀a,LB mF vs a->OA O a:=λa h=>by obtain⟨i,j,_,_,e⟩:=hP a h;exact⟨j,e⟩
   have s:∀a,Zp (λa=>Nn B O a/\∀j∈UU as,O j≠ba a) mF vs a->Nn B O a:=λa h=>by
    rcases h with h|h
    ·exact h.1
    ·exact .inr (L a h)
   refine⟨λa=>Nn B O a/\∀j∈UU as,O j≠ba a,ds,_,os,hn,⟨by rw[<-U,R.rep.length],λi hi=>?_,λi x hi e=>?_,λi x hi e=>?_,λi j a hi W c g=>?_,⟨λa h=>R.sta.nin h.1,R.sta.tbs⟩⟩,h3,λv H2 f2 w2 r2=>?_⟩
   ·obtain⟨j,a,x,c,_⟩:=G i hi
    rw[<-U];exact(Ai.mp c).1
   ·obtain⟨a,c,g⟩:=V i x e
    cases a with
    |d y=>
     cases g;obtain⟨v,l,r⟩:=R.rep.getD c;exact⟨v,l,r.mono s s⟩
    |o j=>
     obtain⟨v,l,t⟩:=R.rep.getO c;refine⟨v,l,?_⟩;rcases K3 g with C|C
     ·obtain⟨v',A,r⟩:=R.sta.va j x C
      rw[t]at A;cases A;exact r.mono s s
     ·obtain⟨a,J,A,w⟩:=R.sta.ow j x C
      rw[t]at A;cases A;refine(w.mono s).rep λz=>?_;rcases z with z|z
      ·exact z.2 j (PR c) J
      ·obtain⟨P,m,f,I,M⟩:=hP a z
       have:j=m:=R.sta.inj j m a J M
       subst this;have:=HI hnd c I
       subst this;exact hi f
   ·obtain⟨a,c,g⟩:=V i x e
    obtain⟨j,b,y,l,t,C,A,w⟩:=G i hi;rw[l]at c;cases c;have J:slot δ1 j=ba y:=by unfold slot;rw[t]
    have g:slot δ1 j=ba x:=g;rw[J]at g;cases g;exact⟨b,A,w.mono s,λz=>z.2 j (PR l) C⟩
   ·obtain⟨j1,b1,_,l,_,t,C,_⟩:=G i hi
    obtain⟨j2,b2,_,A,_,J,I,_⟩:=G j W;rw[c]at C;cases C;rw[g]at I;cases I;have:j1=j2:=R.sta.inj j1 j2 a t J
    subst this;exact HI hnd l A
   ·have S2:aR K ml B O H2 σ (WM as mF os δ1):=by
     refine R.sta.call Q4 (λj=>?_) f2 L;by_cases W:j<δ1.length
     ·rcases M8 (as:=as) (is:=mF) (os:=os) (δ:=δ1) j ag W with⟨kk,i,o,c,g,l,t⟩|⟨c,g⟩
      ·obtain⟨m,a,x,C,_,A,J,_⟩:=G i (Ew c)
       rw[l]at C;cases C;have w:=w2 kk i a o c J g;refine .inr ⟨a,o,A,t,?_⟩;rcases(Ir _ _).mp j8 with z|z
       ·refine w.mono λb T => ?_
        by_cases u:∃m∈UU as,O m=ba b
        ·obtain⟨m,p,I⟩:=u
         obtain⟨P,M⟩:=AX p;have f:=SX z M;rw[Jv]at f;obtain⟨X,a'',_,E,_,D,N,_⟩:=G P f;rw[M]at E;cases E;rw[I]at D;cases D;exact .inr ⟨P,f,N⟩
        ·exact .inl ⟨T,λm p e=>u ⟨m,p,e⟩⟩
       ·exact w.kids (Fy.mp z o (Ew g))
      ·refine .inl ⟨g,λa ea Z => ?_⟩
       obtain⟨i,m,hi,l,t⟩:=hP a Z;have:j=m:=R.sta.inj j m a ea t
       subst this;exact c i hi l
     ·refine .inl ⟨?_,λa ea => ?_⟩
      ·rw[Dv (by rw[Q4];lia),Dv (by lia)]
      ·obtain⟨x,ex⟩:=R.sta.dom j a ea
       exact absurd (Ai.mp ex).1 W
    refine k v H2 ⟨S2,R.frm.trans (f2.mono L),λz=>?_,?_⟩
    ·obtain⟨z1,z2⟩:=(Af _ _).mp z
     refine(R.pur z1).trans λb o e=>f2 b o e λw=>?_;obtain⟨i,hi,_⟩:=w;rw[Rg.mp z2]at hi;cases hi
    ·rcases(Ir _ _).mp ip with z|z
     ·have hN : ∀ a,Nn B O a -> Zp (λa => Nn B O a /\ ∀ j ∈ UU as,O j ≠ ba a) mF vs a := λb T => by
       by_cases u:∃m∈UU as,O m=ba b
       ·obtain⟨m,p,I⟩:=u
        obtain⟨P,M⟩:=AX p;have f:=SX z M;rw[Jv]at f;obtain⟨X,a'',_,E,_,D,N,_⟩:=G P f;rw[M]at E;cases E;rw[I]at D;cases D;exact .inr ⟨P,f,N⟩
       ·exact .inl ⟨T,λm p e=>u ⟨m,p,e⟩⟩
      exact r2.mono hN hN
     ·exact r2.hard z
  ·cases q
 ·cases q
def kW{x:Va}{kk j n:Nat}{qs:List Va}{mF:List Nat}{F:bM}{ff:Ux}{p':Pos}{fs:JB}(k:X.K=K)(D:Def X.prog X.w K X.mg X.base x kk qs (spV K mF n F) ff)(c:ZZ j X.A)(d:kk<=j)(f:Gl X x)(i:PA X (e::es) (TAG K ml ps fs))(b:ND x:=by decide)(g:SE X e es:=by rfl)(a:(Em pos (Uz es X.env)).any (·.1)=bd:=by rfl):PE X (.Call (.Name x p') (e::es) [] pos) (TV K ml (ps&&mF.isEmpty) bc bc (cK n mF F fs)):=by subst k;exact(FI D c d f i b g a).imp λ_ _ _ h=>IN h
end
section
variable{X:Cx}{K:Ah}{ml:List Nat}{e a b c:Vc}{es:List Vc}{pi pt pe pu bt bi ps bs:Bool}{f:VF}{B B':Bs}{O:Nat->Option Ux}{H H0 H1 H':Hp}{σ:St}{δ δ':Ev}{v:V}{d:cV}{p:Ux}{pos:Pos}{ix:List Nat}{nl:Nat}
def aQ(ix:List Nat)(δ:Ev):Ev:=ix.map λi=>(δ[i]?).getD .no
def KH(nl:Nat):Ev:=As nl Sl.no
noncomputable def ZB(n nl:Nat)(gg:VG)(tb:VB)(fe:VF):List cV->List cV->Ev->Option (List cV×Ev)
 |[],acc,δ=>ba (acc,δ)
 |d::r,acc,δ=>(gg d (δ++KH nl)).bind λδ1=>(tb δ1).bind λp=>if p.1=bc then(fe p.2).bind λq=>if acc.length<16777216 then ZB n nl gg tb fe r (acc++[q.1]) (q.2.take n)else bb else ZB n nl gg tb fe r acc (p.2.take n)
noncomputable def ZM:List Nat->Ev->Ev->Ev
 |i::is,s::ss,δ=>match s with
  |.ow d=>ZM is ss (δ.set i (.ow d))
  |_=>ZM is ss δ
 |_,_,δ=>δ
def aZ(ix:List Nat)(nl:Nat)(fi:VI)(gg:VG)(tb:VB)(fe:VF):VF:=λδ=>(fi δ).bind λp=>(ZB ix.length nl gg tb fe p.1 [] (aQ ix p.2)).map λq=>(.lst q.1,ZM ix q.2 p.2)
def YK:VB:=λδ=>ba (bc,δ)
theorem O8:∀{ix:List Nat}{ss δ:Ev},(ZM ix ss δ).length=δ.length
 |[],_,_=>rfl
 |_::_,[],_=>rfl
 |i::is,s::ss,δ=>by
  cases s<;>simp only[ZM]<;>rw[O8]<;>try rw[Ck]
theorem SY:∀{ix:List Nat}{ss δ:Ev}(i:Nat),i<δ.length->ix.length=ss.length->(∃(j:Nat) (d:cV),ix[j]?=ba i/\ss[j]?=ba (Sl.ow d)/\(ZM ix ss δ)[i]?=ba (Sl.ow d))∨((∀(j:Nat) (d:cV),ix[j]?=ba i->ss[j]? ≠ba (Sl.ow d))/\(ZM ix ss δ)[i]?=δ[i]?)
 |[],ss,δ,i,hi,hl=>.inr ⟨(λj d h=>by simp at h),rfl⟩
 |k::is,[],δ,i,hi,hl=>by cases hl
 | k :: is,s :: ss,δ,i,hi,hl => by
  have a:is.length=ss.length:=by simpa using hl
  cases s with
  |ow d=>
   simp only[ZM];rcases SY (ix:=is) (ss:=ss) (δ:=δ.set k (.ow d)) i (by rw[Ck];exact hi) a with⟨j,d',h1,h2,b⟩|⟨h1,h2⟩
   ·exact .inl ⟨j+1,d',by simpa using h1,by simpa using h2,b⟩
   ·by_cases c:i=k
    ·subst c
     rw[Dq hi]at h2;exact .inl ⟨0,d,rfl,rfl,h2⟩
    ·rw[Bz (Ea c)]at h2
     refine .inr ⟨λj d' e=>?_,h2⟩;cases j with
     |zero=>cases e;exact absurd rfl c
     |succ j=>simpa using h1 j d' (by simpa using e)
  |va d=>
   simp only[ZM];rcases SY (ix:=is) (ss:=ss) (δ:=δ) i hi a with⟨j,d',h1,h2,b⟩|⟨h1,h2⟩
   ·exact .inl ⟨j+1,d',by simpa using h1,by simpa using h2,b⟩
   ·refine .inr ⟨λj d' e => ?_,h2⟩
    cases j with
    |zero=>simp
    |succ j=>simpa using h1 j d' (by simpa using e)
  |no=>
   simp only[ZM];rcases SY (ix:=is) (ss:=ss) (δ:=δ) i hi a with⟨j,d',h1,h2,b⟩|⟨h1,h2⟩
   ·exact .inl ⟨j+1,d',by simpa using h1,by simpa using h2,b⟩
   ·refine .inr ⟨λj d' e => ?_,h2⟩
    cases j with
    |zero=>simp
    |succ j=>simpa using h1 j d' (by simpa using e)
def Oc(ix:List Nat)(O:Nat->Option Ux):Nat->Option Ux:=λj=>(ix[j]?).bind O
def Bc(ix:List Nat)(B:Bs)(O:Nat->Option Ux)(H0:Hp)(D:Ux)(kp:List (V×cV)):Bs:=
 ⟨λa=>(B.Z a∨a=D)∨∃i,O i=ba a/\i∉ix,OA (Oc ix O),H0,Oc ix O,kp⟩
def KB{D:Ux}{kp:List (V×cV)}:∀a,Nn (Bc ix B O H0 D kp) (Oc ix O) a->Nn B O a∨a=D:=λa h=>by
 rcases h with((h|h)|⟨i,h,_⟩)|⟨j,h⟩
 ·exact .inl (.inl h)
 ·exact .inr h
 ·exact .inl (.inr ⟨i,h⟩)
 ·unfold Oc at h
  cases q:ix[j]? with
  |none=>rw[q]at h;cases h
  |some i=>rw[q]at h;exact .inl (.inr ⟨i,h⟩)
def DC{D:Ux}{kp:List (V×cV)}:∀a,Nn (B.add D) O a->Nn (Bc ix B O H0 D kp) (Oc ix O) a:=λa h=>by
 rcases h with h|⟨i,h⟩
 ·exact .inl (.inl h)
 ·by_cases hi:i∈ix
  ·obtain⟨j,b⟩:=Nl.mp hi
   exact .inr ⟨j,by unfold Oc;rw[b];exact h⟩
  ·exact .inl (.inr ⟨i,h,hi⟩)
def aR.withKp{kp:List (V×cV)}(S:aR K ml B O H σ δ)(h:∀p∈kp,bC K (Nn B O) H (Nn B O) p.1 p.2):aR K ml {B with kp:=kp} O H σ δ:=
 ⟨S.len,S.va,S.ow,S.dom,S.inj,S.old,S.zin,S.frm,S.par,S.pin,h⟩
def aR.writeZ{D:Ux}{o:HO}{acc:List V}(S:aR K ml B O H σ δ)(k:B.Z D)(hl:H D=ba (.lst acc))(m:B.H0 D=bb):aR K ml B O (upd H D o) σ δ:=by
 have j:Fr (λb=>b=D) H (upd H D o):=λb u q n=>by
  by_cases c:b=D
  ·subst c
   rw[hl]at q;cases q;exact absurd (n rfl) λz=>z
  ·rw[bV c]
   exact q
 have g:∀b,b=D->Nn B O b:=λb z=>.inl (z▸k);have f:∀b,(∃u,H b=ba u)->∃u,upd H D o b=ba u:=λb q0=>by
  obtain⟨u,q⟩:=q0;by_cases c:b=D
  ·exact⟨o,by rw[c];exact b9⟩
  ·exact⟨u,by rw[bV c];exact q⟩
 refine⟨S.len,λi d q=>?_,λi d q=>?_,S.dom,S.inj,S.old,λb h=>f b (S.zin b h),λb u q n=>?_,S.par,λb h=>f b (S.pin b h),λp l=>(S.kep p l).fr j g g⟩
 ·obtain⟨v,e,r⟩:=S.va i d q
  exact⟨v,e,r.fr j g g⟩
 ·obtain⟨a,e,s,w⟩:=S.ow i d q
  exact⟨a,e,s,w.fr j g λz=>(S.old i a e).1 (z▸k)⟩
 ·have c : b ≠ D := λz => by rw [z,m]at q;cases q
  rw[bV c];exact S.frm b u q n
def JK{j:Nat}{s:Sl}(h:(aQ ix δ++KH nl)[j]?=ba s):(∃i,ix[j]?=ba i/\s=(δ[i]?).getD .no)∨s=.no:=by
 unfold aQ KH at h;by_cases a:j<ix.length
 ·rw [Ar (by simpa using a),Cg]at h
  cases q:ix[j]? with
  |none=>rw[q]at h;cases h
  |some i=>rw[q]at h;cases h;exact .inl ⟨i,rfl,rfl⟩
 ·rw [Cd (by simpa using a),Dz]at h
  split at h
  ·cases h;exact .inr rfl
  ·cases h
def EH{i j:Nat}{v:V}(hi:ix[j]?=ba i)(h:σ[i]?=ba (ba v)):(Y6 ix σ++As nl bb)[j]?=ba (ba v):=by have a:j<ix.length:=(Ai.mp hi).1;unfold Y6;rw[Ar (by simpa using a),Cg,hi];show ba ((σ[i]?).join)=_;rw[h];rfl
def aR.inner{D:Ux}(S:aR K ml B O H0 σ δ)(b:H0 D=bb)(hnd:ix.Nodup){l:List (V×cV)}(t:∀p∈l,bC K (Nn B O) H0 (Nn B O) p.1 p.2):
  aR K (Au ix.length) (Bc ix B O H0 D l) (Oc ix O) (upd H0 D (.lst [])) (Y6 ix σ++As nl bb) (aQ ix δ++KH nl) where
 len:=by simp[Y6,aQ,KH]
 va := λj d e => by
  rcases JK e with⟨i,hi,q⟩|q
  ·have q:δ[i]? =ba (.va d):=by
    cases w:δ[i]? with
    |none=>rw[w]at q;cases q
    |some s=>rw[w]at q;rw[show s=.va d from q.symm]
   obtain⟨v,c,r⟩:=S.va i d q;exact⟨v,EH hi c,(r.away b _ _ KB KB).same (cM b)⟩
  ·cases q
 ow := λj d e => by
  rcases JK e with⟨i,hi,q⟩|q
  ·have q:δ[i]? =ba (.ow d):=by
    cases w:δ[i]? with
    |none=>rw[w]at q;cases q
    |some s=>rw[w]at q;rw[show s=.ow d from q.symm]
   obtain⟨a,c,f,w⟩:=S.ow i d q;refine⟨a,by unfold Oc;rw[hi];exact c,EH hi f,?_⟩;cases w with
   |lst u r=>exact .lst (cM b _ _ u) ((r.away b _ _ KB).same (cM b))
   |dct u r=>exact .dct (cM b _ _ u) ((r.away b _ _ KB).same (cM b))
  ·cases q
 dom:=λj a e=>by unfold Oc at e;obtain⟨i,hi,e⟩:=Ac.mp e;obtain⟨d,q⟩:=S.dom i a e;refine⟨d,?_⟩;have y:j<ix.length:=(Ai.mp hi).1;unfold aQ;rw[Ar (by simpa using y),Cg,hi];show ba ((δ[i]?).getD .no)=_;rw[q];rfl
 inj:=λj k a c f=>by
  unfold Oc at c f;cases hi:ix[j]? with
  |none=>rw[hi]at c;cases c
  |some i=>
   cases t:ix[k]? with
   |none=>rw[t]at f;cases f
   |some m=>
    rw[hi]at c;rw[t]at f;have:i=m:=S.inj i m a c f
    subst this;obtain⟨C,q1⟩:=Ai.mp hi;obtain⟨A,q2⟩:=Ai.mp t;exact(Ra hnd).mp (q1.trans q2.symm)
 old:=λj a e=>by
  have g:=e;unfold Oc at g;cases hi:ix[j]? with
  |none=>rw[hi]at g;cases g
  |some i=>
   rw[hi]at g;refine⟨λz=>?_,.inl ⟨j,e⟩⟩;rcases z with(z|z)|⟨m,z,n⟩
   ·exact(S.old i a g).1 z
   ·obtain⟨o,q⟩:=S.nin (.inr ⟨i,g⟩)
    rw[z,b]at q;cases q
   ·have:i=m:=S.inj i m a g z
    subst this;exact n (Ew hi)
 zin:=λa h=>by
  rcases h with(h|h)|⟨i,h,_⟩
  ·obtain⟨o,q⟩:=S.zin a h
   exact⟨o,cM b _ _ q⟩
  ·exact⟨_,by rw[h];exact b9⟩
  ·obtain⟨o,q⟩:=S.nin (.inr ⟨i,h⟩)
   exact⟨o,cM b _ _ q⟩
 frm:=(cM b).fr
 par:=⟨⟨λj a e=>by
  have e:(ix[j]?).bind O=ba a:=e;cases hi:ix[j]? with
  |none=>rw[hi]at e;cases e
  |some i=>exact Dm.mpr (Ai.mp hi).1,S.tbs⟩,λj _=>rfl⟩
 pin:=λa q0=>by obtain⟨j,e⟩:=q0;unfold Oc at e;obtain⟨i,hi,e⟩:=Ac.mp e;obtain⟨o,q⟩:=S.nin (.inr ⟨i,e⟩);exact⟨o,cM b _ _ q⟩
 kep:=λp x=>((t p x).away b _ _ KB KB).same (cM b)
def aR.turn{l:Nat->Option Ux}{f:St}{n:Nat}{m:St}(S:aR K (Au n) B l H f δ)(C:∀j,n<=j->B.mu j=bb)(x:m.length=n)(o:f.take n=m)(D:n<=δ.length):aR K (Au n) B B.mu H (m++As nl bb) (δ.take n++KH nl):=by
 have z:∀j,j<n->l j=B.mu j:=λj b=>S.par.2 j (Dm.mpr b);have c:∀j a,B.mu j=ba a->l j=ba a:=λj a e=>by rw[z j (Dm.mp (S.par.1.1 j a e))];exact e
 have g:∀a,Nn B B.mu a->Nn B l a:=λa h=>by
  rcases h with h|⟨j,h⟩
  ·exact .inl h
  ·exact .inr ⟨j,c j a h⟩
 have y:∀(j:Nat) (s:Sl),(δ.take n++KH nl)[j]?=ba s->(j<n/\δ[j]?=ba s)∨s=.no:=λj s h=>by
  have hl:(δ.take n).length=n:=by rw[Cn];lia
  by_cases b:j<n
  ·rw [Ar (by rw [hl];exact b),Cz b]at h
   exact .inl ⟨b,h⟩
  ·unfold KH at h
   rw[Cd (by rw[hl];lia),Dz]at h;split at h
   ·cases h;exact .inr rfl
   ·cases h
 have u:∀(j:Nat) (v:V),j<n->f[j]?=ba (ba v)->(m++As nl bb)[j]?=ba (ba v):=λj v b e=>by rw[Ar (by rw[x];exact b),<-o,Cz b];exact e
 refine⟨?_,λj d e=>?_,λj d e=>?_,λj a e=>?_,λj k a i t=>S.inj j k a (c j a i) (c k a t),λj a e=>S.old j a (c j a e),S.zin,S.frm,⟨S.par.1,λj _=>rfl⟩,S.pin,λp A=>(S.kep p A).mono g g⟩
 ·simp[x,KH,Cn]
  lia
 ·rcases y j _ e with⟨b,e⟩|e
  ·obtain⟨v,i,r⟩:=S.va j d e
   exact⟨v,u j v b i,r.mono g g⟩
  ·cases e
 ·rcases y j _ e with⟨b,e⟩|e
  ·obtain⟨a,i,t,w⟩:=S.ow j d e
   exact⟨a,(z j b)▸i,u j _ b t,w.mono g⟩
  ·cases e
 ·have b:=Dm.mp (S.par.1.1 j a e)
  obtain⟨d,q⟩:=S.dom j a (c j a e);refine⟨d,?_⟩;rw[Ar (by rw[Cn];lia),Cz b];exact q
def XT(ix:List Nat)(σ:St):(Y6 ix σ).length=ix.length:=by simp[Y6]
def K5{a:St}(hl:ix.length<=a.length)(h:∀i∈Au ix.length,a[i]?=(Y6 ix σ++As nl bb)[i]?):a.take ix.length=Y6 ix σ:=by
 refine Lz λj=>?_;by_cases b:j<ix.length
 ·rw[Cz b,h j (Dm.mpr b),Ar (by rw[XT];exact b)]
 ·rw[Dv (by rw[Cn];lia),Dv (by rw[XT];lia)]
def AG{a:St}(m3:∀i∈Au ix.length,a[i]?=(Y6 ix σ++As nl bb)[i]?):ix.length<=a.length:=by
 by_cases hz:ix.length=0
 ·lia
 ·have b : ix.length-1 < ix.length := by lia
  have:=m3 (ix.length-1) (Dm.mpr b)
  have c:(Y6 ix σ++As nl bb)[ix.length-1]? ≠bb:=by rw[Ar (by rw[XT];exact b)];simp[Y6,b]
  rw[<-this]at c;have d:ix.length-1<a.length:=Nat.lt_of_not_le λz=>c (List.getElem?_eq_none_iff.mpr z);lia
def kQ(K:Ah)(J:It)(a:List (V×cV))(ds:List cV)(H0:Hp)(b:Bool):Prop:=∀(N:Ux->Prop) (H:Hp),(∀p∈a,bC K N H N p.1 p.2)->(b=bc->bF H0 H)->
 (∀(i:Nat) (d:cV),ds[i]?=ba d->J.go i H/\∀x H',J.yld i H x H'->bF H H'/\bC K N H' N x d)/\J.stop ds.length H
inductive TIVq(K:Ah)(ml:List Nat)(pu b:Bool)(f:VI)(σ:St)(H:Hp)(R:It->Hp->Prop):Prop
 |mk (B:_) (O:_) (δ:_) (ds:_) (δ':_) (h0:aR K ml B O H σ δ) (h1:f δ=ba (ds,δ')) (h2:∀J kps H',aR K ml {B with kp:=kps++B.kp} O H' σ δ'->Fr (OA O) H H'->(pu=bc->bF H H')->kQ K J kps ds H' b->R J H'):TIVq K ml pu b f σ H R
def EJ{B:Bs}{O:Nat->Option Ux}{H H0 H1:Hp}{σ:St}{δ1 c:Ev}{f:List (V×cV)}{D:Ux}{acc:List V}{res:List cV}{pi pr:Bool}{r:St}(l:aR K ml {B with kp:=f++B.kp} O H0 σ δ1)(s:H0 D=bb)(N:Fr (OA O) H H0)(I:pi=bc->bF H H0)(q:aR K (Au ix.length) (Bc ix B O H0 D (f++acc.zip res)) (Oc ix O) H1 r (c++KH nl))(S:acc.length=res.length)(g:c.length=ix.length)(k:H1 D=ba (.lst acc))(R:pr=bc->bF H0 H1):ResN K ml B O H σ (pi&&pr) H1 (ZM ix c δ1) D (.lst res):=by
 have E:Fr (OA (Oc ix O)) H0 H1:=q.frm;have h:∀a,OA (Oc ix O) a->OA O a:=λa q0=>by
  obtain⟨j,e⟩:=q0;unfold Oc at e;cases hi:ix[j]? with
  |none=>rw[hi]at e;cases e
  |some i=>rw[hi]at e;exact⟨i,e⟩
 have SL:=l.unkeep.laid (o:=.lst acc) s;have M:Fr (OA (Oc ix O)) (upd H0 D (.lst acc)) H1:=λb o e n=>by
  by_cases A:b=D
  ·subst A
   rw[b9]at e;cases e;exact k
  ·rw[bV A]at e
   exact E b o e n
 refine⟨SL.call (O8) (λi=>?_) M h,N.trans (E.mono h),λz=>?_,.lst k (TJ S λp J=>(q.kep p (At _ J)).mono DC DC),l.unkeep.new s,l.fresh s⟩
 ·by_cases C:i<δ1.length
  ·rcases SY (ix:=ix) (ss:=c) (δ:=δ1) i C g.symm with⟨j,x,v,m,Q⟩|⟨v,m⟩
   ·have P:(c++KH nl)[j]? =ba (.ow x):=by rw[Ar (Ai.mp m).1];exact m
    obtain⟨a,u,_,w⟩:=q.ow j x P;refine .inr ⟨a,x,?_,Q,w.mono DC⟩;unfold Oc at u;rw[v]at u;exact u
   ·refine .inl ⟨m,λa t ⟨j,d⟩ => ?_⟩
    obtain⟨x,ex⟩:=q.dom j a d;unfold Oc at d;cases hi:ix[j]? with
    |none=>rw[hi]at d;cases d
    |some y=>
     rw[hi]at d;have:i=y:=l.inj i y a t d
     subst this;have L:j<c.length:=by rw[g];exact(Ai.mp hi).1
     rw[Ar L]at ex;exact v j x hi ex
  ·refine .inl ⟨?_,λa t => ?_⟩
   ·rw[Dv (by rw[O8];lia),Dv (by lia)]
   ·obtain⟨x,ex⟩:=l.dom i a t
    exact absurd (Ai.mp ex).1 C
 ·obtain⟨G,F⟩:=(Af _ _).mp z
  exact(I G).trans (R F)
def F7{fi:VI}{gg:VG}{tb:VB}{fe:VF}(hnd:ix.Nodup){Q:VK}(h:TN K ml (pi&&pt&&pe) (aZ ix nl fi gg tb fe) σ H Q):Wn ix nl (TIVq K ml pi (pt&&pe) fi) (CM K (Au ix.length) gg) (TB K (Au ix.length) pt tb) (TV K (Au ix.length) pe bc bc fe) σ H Q:=by
 obtain⟨B,O,δ,d,δ2,S,q,k⟩:=h;unfold aZ at q;obtain⟨⟨ds,δ1⟩,h1,q⟩:=Ac.mp q;have q:((ZB ix.length nl gg tb fe ds [] (aQ ix δ1)).map λq=>(cV.lst q.1,ZM ix q.2 δ1))=ba (d,δ2):=q;obtain⟨⟨res,E⟩,h2,q⟩:=Ao.mp q;cases q;refine⟨B,O,δ,ds,δ1,S,h1,λJ f H0 T f0 p0 wk D C=>?_⟩;have hDO:∀j,Oc ix O j≠ba D:=λj e=>by unfold Oc at e;obtain⟨i,hi,e⟩:=Ac.mp e;obtain⟨o,q⟩:=T.nin (.inr ⟨i,e⟩);rw[C]at q;cases q
 have dn:∀kp j,ix.length<=j->(Bc ix B O H0 D kp).mu j=bb:=λkp j Y=>by show(ix[j]?).bind O=bb;rw[Dv Y];rfl
 refine⟨λi m H1=>m=ds.length-i/\i<=ds.length/\∃(acc:List V) (g:List cV) (c:Ev),c.length=ix.length/\acc.length=g.length∧
   aR K (Au ix.length) (Bc ix B O H0 D (f++acc.zip g)) (Oc ix O) H1 (Y6 ix σ++As nl bb) (c++KH nl)/\H1 D=ba (.lst acc)/\((pt&&pe)=bc->bF H0 H1)∧
   ZB ix.length nl gg tb fe (ds.drop i) g c=ba (res,E),
  ds.length,⟨rfl,Df _,[],[],aQ ix δ1,by simp[aQ],rfl,by rw[Qg,Ep];exact T.unkeep.inner C hnd λp A=>T.kep p (Bt _ A),b9,λ_=>cM C,h2⟩,?_⟩
 rintro i m H1 ⟨rfl,hi,acc,g,c,X,N,S1,L,R,hc⟩;have w:=wk (Nn (Bc ix B O H0 D (f++acc.zip g)) (Oc ix O)) H1 (λp A=>S1.kep p (Bt _ A)) R;by_cases u:i<ds.length
 ·obtain ⟨go,yl⟩ := w.1 i ds[i] (by simp [u])
  rw[Dn u]at hc;simp only[ZB]at hc;obtain⟨F,g1,hc⟩:=Ac.mp hc;obtain⟨⟨kk,n⟩,g2,hc⟩:=Ac.mp hc;refine .inr ⟨go,λH'=>∃(Z:List V) (g:List cV) (c:Ev),c.length=ix.length/\Z.length=g.length∧
   aR K (Au ix.length) (Bc ix B O H0 D (f++Z.zip g)) (Oc ix O) H' (Y6 ix σ++As nl bb) (c++KH nl)/\H' D=ba (.lst Z)/\((pt&&pe)=bc->bF H0 H')∧
   ZB ix.length nl gg tb fe (ds.drop (i+1)) g c=ba (res,E),λH' w'=>⟨ds.length-(i+1),by lia,rfl,u,w'⟩,λx H2 hy=>?_⟩
  obtain⟨P,rx⟩:=yl x H2 hy;refine⟨_,_,_,ds[i],F,S1.same P,rx,g1,λσ3 O3 S3 m3=>?_⟩;have t:=AG m3;have l:=K5 t m3;refine⟨l,_,_,F,kk,n,S3,g2,λH4 y=>?_⟩;have I:H4 D=ba (.lst acc):=y.frm _ _ (P _ _ L) λz=>by
   obtain⟨j,e⟩:=z;have:=(y.sta.old j D e).1
   exact absurd (.inl (.inr rfl)) this
  have W:ix.length<=n.length:=by rw[<-y.sta.len];exact t
  cases kk with
  |false=>
   rw[if_neg Cr]at hc;refine PP ⟨acc,g,n.take ix.length,by rw[Cn];lia,N,y.sta.turn (dn _) (XT ix σ) l W,I,λz=>?_,hc⟩;exact((R z).trans P).trans (y.pur ((Af _ _).mp z).1)
  |true=>
   rw[if_pos rfl]at hc;obtain⟨⟨M,s⟩,g3,hc⟩:=Ac.mp hc;split at hc
   ·rename_i hz
    refine PQ ⟨_,_,n,M,s,y.sta,g3,λv H5 r=>?_⟩;have G:H5 D=ba (.lst acc):=r.frm _ _ I λz=>by
     obtain⟨j,e⟩:=z;have:=(r.sta.old j D e).1
     exact absurd (.inl (.inr rfl)) this
    have U:ix.length<=s.length:=by rw[<-r.sta.len];exact t
    have S6:=r.sta.turn (nl:=nl) (dn _) (XT ix σ) l U;have hv:bC K (Nn (Bc ix B O H0 D (f++acc.zip g)) (Oc ix O)) H5 (Nn (Bc ix B O H0 D (f++acc.zip g)) (Oc ix O)) v M:=by
     have hN:∀a,Nn (Bc ix B O H0 D (f++acc.zip g)) (Oc ix O) a->av (Bc ix B O H0 D (f++acc.zip g)) O3 bc a:=λa h=>by
      rcases h with h|⟨j,h⟩
      ·exact .inl h
      ·refine .inr ⟨j,?_⟩
       have Y:j∈Au ix.length:=r.sta.par.1.1 j a h;rw[r.sta.par.2 j Y];exact h
     exact r.rep.mono hN hN
    have S7:=S6.withKp (kp:=f++(acc++[v]).zip (g++[M])) λp A=>by
     rw[Se N,<-Ay]at A;rcases Dh.mp A with z|z
     ·exact S6.kep p z
     ·rw[Ba.mp (show p∈[(v,M)] from z)]
      exact hv
    refine⟨acc,G,by rw[N,Cf];exact hz,l,acc++[v],g++[M],s.take ix.length,by rw[Cn];lia,by simp[N],?_,b9,λz=>?_,hc⟩
    ·exact S7.writeZ (.inl (.inr rfl)) G C
    ·intro b o e
     have hb:b≠D:=λz=>by rw[z,C]at e;cases e
     rw[bV hb];obtain⟨z1,z2⟩:=(Af _ _).mp z;exact(((R z).trans P).trans ((y.pur z1).trans (r.pur z2))) b o e
   ·cases hc
 ·have e : i = ds.length := by lia
  subst e;rw[Fw]at hc;cases hc;refine .inl ⟨w.2,k D H1 ?_⟩;rw[Bool.and_assoc];exact EJ T C f0 p0 S1 N X L R
def B9{fi:VI}{gg:VG}{tb:VB}{fe:VF}(hnd:ix.Nodup){Q:VK}(h:TN K ml (pi&&pt&&pe) (aZ ix nl fi gg tb fe) σ H Q):Wn ix nl (EB K ml pi fi) (CM K (Au ix.length) gg) (TB K (Au ix.length) pt tb) (TV K (Au ix.length) pe bc bc fe) σ H Q:=
 let ⟨B,O,δ,ds,δ',S,e,k⟩:=F7 hnd h
 ⟨B,O,δ,ds,δ',S,e,λJ a H' b f p w=>k J a H' b f p λN H1 z _=>w N H1 z⟩
def ng{Q:Bool->Hp->Prop}(h:TB K ml bc YK σ H Q):tYes σ H Q:=by obtain⟨B,O,δ,k,δ',S,q,w⟩:=h;cases q;exact w H (ResB.refl S)
def WU{Y:Cx}{t:VB}(h:PT Y c (TB K ml pt t)):PTs Y [c] (TB K ml pt t):=mO h
def Z1{Y:Cx}:PTs Y [] (TB K ml bc YK):=λaa s σ H Q I hw=>lc aa s σ H Q I (ng hw)
def Vz{Q:VK}{o:Bool}(h:TX K ml (if o then xO f else xV f) σ H Q):TN K ml pu f σ H Q:=by
 obtain⟨B,O,δ,s,δ',S,q,k⟩:=h;have e:∃d,f δ=ba (d,δ')/\s=if o then .ow d else .va d:=by
  cases o with
  |true=>
   have q:(f δ).map (λp=>(Sl.ow p.1,p.2))=ba (s,δ'):=q;cases h1:f δ with
   |none=>rw[h1]at q;cases q
   |some p=>rw[h1]at q;cases q;exact⟨p.1,rfl,rfl⟩
  |false=>
   have q:(f δ).map (λp=>(Sl.va p.1,p.2))=ba (s,δ'):=q;cases h1:f δ with
   |none=>rw[h1]at q;cases q
   |some p=>rw[h1]at q;cases q;exact⟨p.1,rfl,rfl⟩
 obtain⟨d,h1,a⟩:=e;refine⟨B,O,δ,d,δ',S,h1,λp H' R=>?_⟩;cases o with
 |true=>
  cases a;have w:=R.own;cases w with
  |lst q1 r=>exact k _ H' _ (R.sta.keepV (VM r)) (.ol q1 r.length R.nz R.h0) R.frm
  |dct q1 r=>exact k _ H' _ (R.sta.keepV (VM r)) (.od q1 (by simpa using r.length) R.nz R.h0) R.frm
 |false=>
  cases a;exact k _ H' _ (R.sta.unadd.keepV (ps:=[(.ref p,d)]) λz hz=>by rw[Ba.mp hz];exact(R.own.mono R0).rep R.nz) .va R.frm
def DX{i:Nat}{x:VX}{te:TE}(a:∀σ H Q,TX K ml x σ H Q->te σ H Q)(c:i∉ml){D:NX}(h:WL K ml (bH i x) D σ H):tAsg te (AN i) D σ H:=by
 obtain⟨B,O,δ,o,S,q,k⟩:=h;unfold bH at q;obtain⟨⟨s,δ1⟩,h1,q⟩:=Ac.mp q;have q:(if i<δ1.length then ba (Ou.nx (δ1.set i s))else bb)=ba o:=q;split at q
 ·rename_i hl
  cases q;refine a _ _ _ ⟨B,O,δ,s,δ1,S,h1,λv H' B' d h' f=>?_⟩;obtain⟨e,b⟩:=h'.bind d c hl;exact k _ _ _ b
 ·cases q
end
abbrev aA(P:Aw)(w:Ve)(K:Ah)(mg:Va->Option Uw)(base:Vg)(x:Va)(k:Nat)(ps:List Va)(mF:List Nat)(F:bM)(f:Ux):Prop:=Def P w K mg base x k ps (spV K mF ps.length F) f
section
variable{X:Cx}{K:Ah}{ml:List Nat}{e a b c:Vc}{es:List Vc}{pa ta ia pb tb ib pc tc ic pu bt bi ps bs:Bool}{fa fb fc f:VF}{B B':Bs}{O:Nat->Option Ux}{H H0 H1 H':Hp}{σ:St}{δ δ':Ev}{v:V}{d:cV}{p:Ux}{pos:Pos}
def bO{x:Va}(a:Gl X x)(h:∃u v,X.mg x=ba u/\bE v u/\∀N H M,bC K N H M v d)(b:ND x:=by decide):PE X (.Name x pos) (TV K ml bc bc bc (fC d)):=by obtain⟨u,v,h1,h2,c⟩:=h;exact ve_c (mU a h1 h2 b) c
def Zj(K:Ah):R2:=λx y H Q=>∃a b xs ys,x=.ref a/\y=.ref b/\WN K H a xs/\WN K H b ys/\xs.length+ys.length<=sizeLine∧
 (xs=[]->Q (.ref b) H)/\(xs≠[]->ys=[]->Q (.ref a) H)/\(xs≠[]->ys≠[]->∀p,H p=bb->Q (.ref p) (upd H p (.tup (xs++ys))))
def lh:WZ X (Fz .Add) (Zj X.K):=by
 intro aa s σ H x y v u Q I B A h;obtain⟨a,b,xs,ys,rfl,rfl,E,D,hz,q0,q1,q2⟩:=h;cases B;cases A;obtain⟨k,g,m,_⟩:=I.tuple E;obtain⟨G,f,p2,_⟩:=I.tuple D;by_cases i:xs=[]
 ·subst i
  have F:k=[]:=g.nil_iff.mpr rfl;subst F;obtain⟨⟨cls,dd,data,t⟩,p,hc,n,r⟩:=id m;obtain⟨⟨L,l,data2,j⟩,c,e,C,d⟩:=id p2;simp only at hc r e d;subst hc r e d;exact Ng ⟨_,p,rfl⟩ ⟨_,c,rfl⟩ Ms Pa Jd Im (Ie _ _)
   (tuple_addW0 a b _ G.toArray n C dd l t j (by simp)) ⟨p,c,⟨.ref b,H,I,rfl,q0 rfl⟩⟩
 ·refine HT.zHG m p2 (λz => i (g.nil_iff.mp z)) (λz => ⟨.ref a,H,I,rfl,q1 i (f.nil_iff.mp z)⟩) (λz => ?_) (by rw [<- g.length,<- f.length];exact hz)
  refine⟨.ref s.heap.objs.size,_,I.laid (t':=s.toks) (o:=.tup (xs++ys)) (λb J q=>Ad _ q) (Am _) ?_,rfl,q2 i (λw=>z (f.nil_iff.mpr w)) _ (I.hok.fresh (Am _))⟩;exact⟨by rw[Cs];exact hz,_,g.append f,Ko _ _⟩
def Zh(K:Ah):R2:=λx y H Q=>∃l b xs zs,x=.ref l/\y=.ref b/\X8 K H l xs/\X8 K H b zs/\xs.length+zs.length<=sizeLine/\∀p,H p=bb->Q (.ref p) (upd H p (.lst (xs++zs)))
def oK:WZ X (Fz .Add) (Zh X.K):=by
 intro aa s σ H x y v u Q I w t h;obtain⟨l,b,xs,zs,rfl,rfl,B,C,hz,q⟩:=h;cases w;cases t;obtain⟨a,r,z,_⟩:=I.list B;obtain⟨j,k,p2,_⟩:=I.list C;obtain⟨⟨cls,dd,data,p⟩,n,m,hc,_,o⟩:=id z;obtain⟨⟨E,i,data2,f⟩,A,c,e,_,d⟩:=id p2;simp only at hc o e d;subst hc o e d;have D:a.toArray++j.toArray=(a++j).toArray:=by simp
 have hl:=r.length;have g:=k.length;refine Ng ⟨_,m,rfl⟩ ⟨_,c,rfl⟩ noFill_list_add seq_list_add PySem.F.slot_list_add PySem.F.entry_list_add (PySem.F.args_list_add_2 _ _) (list_addW l b a.toArray j.toArray n A dd i p f (by rw[Aq,Aq,<-hl,<-g];exact hz)) ⟨m,c,?_⟩;rw[D];exact⟨.ref _,_,I.lnew (t':=s.toks) (r.append k) (by rw[Cs];lia),rfl,q _ I.fresh⟩
def Xc(K:Ah):R2:=λx y H Q=>((DN (λi j=>.int (i+j)) x y H Q∨Zj K x y H Q)∨Zh K x y H Q)∨∃i j,x=.str i/\y=.str j/\i.length+j.length<=sizeLine/\Q (.str (i++j)) H
def ZN(h:X.K=K:=by rfl):WZ X (Fz .Add) (Xc K):=by subst h;exact((zKN.or lh).or oK).or DF
noncomputable def aC:cV->cV->Option cV
 |.int i,.int j=>ba (.int (i+j))
 |.tup ds,.tup es=>if ds.length+es.length<=16777216 then ba (.tup (ds++es))else bb
 |.lst ds,.lst es=>if ds.length+es.length<=16777216 then ba (.lst (ds++es))else bb
 |.str x,.str y=>if x.length+y.length<=16777216 then ba (.str (x++y))else bb
 |_,_=>bb
def bC.tupE{N M:Ux->Prop}{ds:List cV}(h:bC K N H M v (.tup ds)):∃a xs,v=.ref a/\WN K H a xs/\bZ K N H xs ds:=by
 cases h.onT with
 |tup q r=>exact⟨_,_,rfl,q,r⟩
def bC.lstE{N M:Ux->Prop}{ds:List cV}(h:bC K N H M v (.lst ds)):∃a xs,v=.ref a/\X8 K H a xs/\bZ K N H xs ds:=by
 cases h.onL with
 |lst q n r=>exact⟨_,_,rfl,X8.of q,r⟩
 |fzl q r=>exact⟨_,_,rfl,q.sq,r⟩
def aN:OpC K (Xc K) aC:=by
 intro H N M M' x y d e c Q n m h k;cases d with
 |int i=>
  cases e with
  |int j=>
   cases h;cases n.onI;cases m.onI;exact .inl (.inl (.inl ⟨_,_,rfl,rfl,k _ _ (bF.refl _) λ_ _=>.int _⟩))
  |_=>cases h
 |str i=>
  cases e with
  |str j=>
   simp only[aC]at h;split at h
   ·cases h
    cases n.onS;cases m.onS;exact .inr ⟨_,_,rfl,rfl,by rw[Cf];assumption,k _ _ (bF.refl _) λ_ _=>.str _⟩
   ·cases h
  |_=>cases h
 |tup ds=>
  cases e with
  |tup es=>
   simp only[aC]at h;split at h
   ·rename_i hz
    cases h;obtain⟨a,xs,rfl,q1,g⟩:=n.tupE;obtain⟨b,ys,rfl,q2,f⟩:=m.tupE;refine .inl (.inl (.inr ⟨a,b,xs,ys,rfl,rfl,q1,q2,by rw[g.length,f.length,Cf];exact hz,λz=>?_,λt s=>?_,λt s p l=>?_⟩))
    ·subst z
     have:ds=[]:=Gy.mp g.length.symm
     subst this;exact k _ _ (bF.refl _) λM r=>.tup q2 f
    ·subst s
     have:es=[]:=Gy.mp f.length.symm
     subst this;rw[Ep]at k;exact k _ _ (bF.refl _) λM r=>.tup q1 g
    ·exact k _ _ (cM l) λM r=>.tup (WN.of b9) ((g.append f).same (cM l))
   ·cases h
  |_=>cases h
 |lst ds=>
  cases e with
  |lst es=>
   simp only[aC]at h;split at h
   ·rename_i hz
    cases h;obtain⟨a,xs,rfl,q1,g⟩:=n.lstE;obtain⟨b,ys,rfl,q2,f⟩:=m.lstE;exact .inl (.inr ⟨a,b,xs,ys,rfl,rfl,q1,q2,by rw[g.length,f.length,Cf];exact hz,λp l=>k _ _ (cM l) λM r=>.lst b9 (λz=>by obtain⟨o,q⟩:=r _ z;rw[l]at q;cases q) ((g.append f).same (cM l))⟩)
   ·cases h
  |_=>cases h
 |_=>cases h
def Yl:Ah->R2:=λ_=>rI CMul λi j=>.int (i*j)
def MU(h:X.K=K:=by rfl):WZ X (Fz .Mult) (Yl K):=pj
abbrev PY:=oMul
def QL:OpC K (Yl K) PY:=by intro H N M M' x y d e c Q b a h k;exact eS H N N M M' x y d e c Q b a h λv f=>k v H (bF.refl _) λM _=>f _ _ _
noncomputable def VQ:cV->Option aK
 |.int i=>ba (.inl i)
 |.str x=>ba (.inr x)
 |_=>bb
def bC.key{N M:Ux->Prop}{k:aK}(h:bC K N H M v d)(e:VQ d=ba k):v=kV k:=by
 cases h<;>first
  |(cases e;rfl)
  |cases e
noncomputable def aV(ks:List aK)(ds:List cV)(k:aK):Option cV:=match ks,ds with
 |k'::ks,d::ds=>if k'=k then ba d else aV ks ds k
 |_,_=>bb
theorem QY{N:Ux->Prop}{k:aK}:∀{kvs:List (aK×V)}{ds:List cV},bZ K N H (kvs.map Er) ds->(∃v d,SS kvs k=ba v/\aV (kvs.map Dk) ds k=ba d/\bC K N H N v d)∨(SS kvs k=bb/\aV (kvs.map Dk) ds k=bb)
 |[],_,.nil=>.inr ⟨rfl,rfl⟩
 | (k',v) :: kvs,_,.cons h t => by
  by_cases a:k'=k
  ·refine .inl ⟨v,_,RB (p:=(k',v)) a,?_,h⟩
   simp[aV,a]
  ·rcases QY (k:=k) t with⟨b,d',h1,h2,c⟩|⟨h1,h2⟩
   ·exact .inl ⟨b,d',(UN (p:=(k',v)) a).trans h1,by simpa[aV,a]using h2,c⟩
   ·exact .inr ⟨(UN (p:=(k',v)) a).trans h1,by simpa[aV,a]using h2⟩
def kz(f:X.A.units+1<cLine):IxR X (λx y H Q=>∃a v,x=.ref a/\OW H a y (ba v)/\Q v H):=by intro value b aa s σ H x y v u Q I e d h i;obtain⟨a,w,rfl,g,q⟩:=h;cases e;exact Tp (EL I g) PySem.F.slot_dict_getitem.lookup (iQ f I g d λk s3 j c=>⟨w,H,j,c,q⟩) i
def rIxA(K:Ah):R2:=λx y H Q=>(rIx K x y H Q∨∃a v,x=.ref a/\OW H a y (ba v)/\Q v H)∨∃a k D v,x=.ref a/\y=.str k/\KTab K a D/\Gd k D=ba v/\Q v H
def kIxA(a:X.A.units+1<cLine)(h:X.K=K:=by rfl):IxR X (rIxA K):=by subst h;exact(zLB.or (kz a)).or kB
def bT:cV->cV->Option cV
 |.tup ds,.int i=>SQ ds i
 |.lst ds,.int i=>SQ ds i
 |.dct ks ds,e=>(VQ e).bind (aV ks ds)
 |.str z,.int i=>if z.length<=16777216 then(SQ z.cps.toList i).map λc=>.str ⟨#[c]⟩else bb
 |_,_=>bb
theorem PB{N:Ux->Prop}{k:Va}:∀{D:List (Va×V)}{ds:List cV},bZ K N H (D.map Er) ds->(∃v d,Gd k D=ba v/\aV (D.map λp=>.inr p.1) ds (.inr k)=ba d/\bC K N H N v d)∨(Gd k D=bb/\aV (D.map λp=>.inr p.1) ds (.inr k)=bb)
 |[],_,.nil=>.inr ⟨rfl,rfl⟩
 | (k',v) :: D,_,.cons h t => by
  by_cases a:k'=k
  ·subst a
   exact .inl ⟨v,_,by simp[Gd],by simp[aV],h⟩
  ·have b : ¬ k = k' := λz => a z.symm
   rcases PB (k:=k) t with⟨c,d',h1,h2,e⟩|⟨h1,h2⟩
   ·exact .inl ⟨c,d',by simpa[Gd,a,b]using h1,by simpa[aV,a]using h2,e⟩
   ·exact .inr ⟨by simpa[Gd,a,b]using h1,by simpa[aV,a]using h2⟩
theorem E5{i:Int}:∀{D:List (Va×V)}{ds:List cV},aV (D.map λp=>.inr p.1) ds (.inl i)=bb
 |[],_=>by simp[aV]
 |_::_,[]=>by simp[aV]
 |p::D,d::ds=>by simpa[aV]using E5 (D:=D) (ds:=ds)
def gU:OpI K (rIxA K) bT:=by
 intro H N N' M M' x y d e c Q g f h k;have seq:∀ds i,XG d=ba ds->e=.int i->SQ ds i=ba c->rIxA K x y H Q:=λds i h1 h2 b=>by
  subst h2;cases f.onI;obtain⟨a,xs,rfl,sq,r⟩:=g.seq h1;obtain⟨v,m,l⟩:=gJ r b;rcases sq with sq|sq
  ·exact .inl (.inl (.inl ⟨a,xs,i,v,rfl,rfl,sq,m,k v l⟩))
  ·exact .inl (.inl (.inr (.inl ⟨a,xs,i,v,rfl,rfl,sq,m,k v l⟩)))
 cases d with
 |tup ds=>
  cases e with
  |int i=>exact seq ds i rfl rfl h
  |_=>cases h
 |lst ds=>
  cases e with
  |int i=>exact seq ds i rfl rfl h
  |_=>cases h
 |str z=>
  cases e with
  |int i=>
   simp only[bT]at h;split at h
   ·obtain⟨ch,hc,h⟩:=Ao.mp h
    cases h;cases g.onS;cases f.onI;exact .inl (.inl (.inr (.inr ⟨z,i,ch,rfl,rfl,by rw[Cf];assumption,hc,k _ (.str _)⟩)))
   ·cases h
  |_=>cases h
 |dct ks ds=>
  simp only[bT]at h;obtain⟨kk,o,h⟩:=Ac.mp h;have h:aV ks ds kk=ba c:=h;have p:=f.key o;subst p;cases g.onD with
  |dct q n r j=>
   subst j;rcases QY (k:=kk) r with⟨v,d',h1,h2,b⟩|⟨h1,h2⟩
   ·rw[h]at h2
    cases h2;exact .inl (.inr ⟨_,v,rfl,h1▸OW.k q,k v b⟩)
   ·rw[h]at h2;cases h2
  |ktb T r j=>
   subst j;cases kk with
   |inl i=>rw[E5]at h;cases h
   |inr x=>
    rcases PB (k:=x) r with⟨v,d',h1,h2,b⟩|⟨h1,h2⟩
    ·rw[h]at h2
     cases h2;exact .inr ⟨_,x,_,v,rfl,rfl,T,h1,k v b⟩
    ·rw[h]at h2;cases h2
 |_=>cases h
noncomputable def XB(δ:Ev)(i:Nat):Option (List aK×List cV):=match δ[i]? with
 |some (.ow (.dct ks ds))=>ba (ks,ds)
 |_=>bb
def TF{i:Nat}{ks:List aK}{ds:List cV}(h:XB δ i=ba (ks,ds)):δ[i]?=ba (.ow (.dct ks ds)):=by
 unfold XB at h;split at h
 ·cases h;assumption
 ·cases h
def HC(i:Nat)(fk fx:VF):VF:=λδ=>(XB δ i).bind λ_=>(fk δ).bind λp=>(fx p.2).bind λq=>(VQ p.1).bind λk=>(XB q.2 i).map λz=>((aV z.1 z.2 k).getD q.1,q.2)
def k4{i:Nat}{fk fx:VF}{aj af:Pos}(N:X.A.units+1<cLine)(h:PE X a (LV i))(P:PE X b (TV K ml pa ta ia fk))(M:PE X c (TV K ml pb bc bc fx))(m:M2 X a "get" aj b c af):
  PE X (.Call (.Attribute a "get" aj) [b,c] [] af) (TV K ml (pa&&pb) bc bc (HC i fk fx)):=(gK N h P M m).imp λσ H Q g=>by
 obtain⟨B,O,δ,d,E,S,q,k⟩:=g;unfold HC at q;cases p:XB δ i with
 |none=>rw[p]at q;cases q
 |some J=>
  obtain⟨f,x⟩:=J;rw[p]at q;cases h1:fk δ with
  |none=>simp[h1]at q
  |some L=>
   obtain⟨y,δ1⟩:=L;simp only[Av,h1]at q;cases h2:fx δ1 with
   |none=>simp[h2]at q
   |some p2=>
    obtain⟨z,δ2⟩:=p2;simp only[Av,h2]at q;cases n:VQ y with
    |none=>simp[n]at q
    |some kk=>
     simp only[Av,n]at q;cases j:XB δ2 i with
     |none=>simp[j]at q
     |some F=>
      obtain⟨ks,ds⟩:=F;simp only[j]at q;cases q;obtain⟨l,W,U,w⟩:=S.ow i _ (TF p);refine⟨.ref l,U,l,rfl,?_,B,O,δ,y,δ1,S,h1,λZ H1 e=>⟨B,O,δ1,z,_,e.sta,h2,λY H2 R2=>?_⟩⟩
      ·generalize hw:cV.dct f x=dd at w
       cases w with
       |lst _ _=>cases hw
       |dct q _=>exact .inl ⟨_,.inl q⟩
      ·have T:=e.rep.key n
       subst T;obtain⟨l',D,_,C⟩:=R2.sta.ow i _ (TF j);rw[W]at D;cases D;have u:∀o,bC K (Nn B O) H2 (Nn B O) (o:V) ((aV ks ds kk).getD z)->Q o H2:=λo h=>k o H2 ⟨R2.sta,e.frm.trans R2.frm,λz=>by obtain⟨I,G⟩:=(Af _ _).mp z;exact(e.pur I).trans (R2.pur G),h⟩
       generalize hw:cV.dct ks ds=dd at C;cases C with
       |lst _ _=>cases hw
       |dct q r=>
        cases hw;refine⟨_,OW.k q,u _ ?_⟩;rcases QY (k:=kk) r with⟨v,d',t,s,R⟩|⟨t,s⟩
        ·rw[t,s];exact R
        ·rw[t,s];exact R2.rep
noncomputable def YG:List aK->List cV->aK->cV->List aK×List cV
 |k'::ks,d::ds,k,v=>if k'=k then(k'::ks,v::ds)else let r:=YG ks ds k v;(k'::r.1,d::r.2)
 |_,_,k,v=>([k],[v])
def FT(i:Nat)(fk a:VF):VS:=λδ=>(a δ).bind λp=>(XB p.2 i).bind λ_=>(fk p.2).bind λq=>(VQ q.1).bind λk=>(XB q.2 i).bind λz=>if z.1.length<16777216/\z.1.Nodup then ba (.nx (q.2.set i (.ow (let r:=YG z.1 z.2 k p.1;.dct r.1 r.2))))else bb
theorem KP{N:Ux->Prop}{k:aK}{v:V}(h:bC K N H N v d):∀{kvs:List (aK×V)}{ds:List cV},(kvs.map Dk).Nodup->bZ K N H (kvs.map Er) ds->(XD kvs k v).map Dk=(YG (kvs.map Dk) ds k d).1/\bZ K N H ((XD kvs k v).map Er) (YG (kvs.map Dk) ds k d).2
 |[],_,_,.nil=>⟨rfl,.cons h .nil⟩
 | (k',u) :: kvs,_,b,.cons g t => by
  obtain⟨f,c⟩:=Di.mp b;by_cases a:k'=k
  ·subst a
   have e:XD ((k',u)::kvs) k' v=(k',v)::kvs:=by
    unfold XD;rw[if_pos (by simp)];simp only[Bg,if_true];congr 1;refine(Ks λp i=>?_).trans (List.map_id _);have:p.1≠k':=λz=>f (Dw.mpr ⟨p,i,z⟩)
    simp[this]
   rw[e];exact⟨by simp[YG],by simpa[YG]using bZ.cons h t⟩
  ·obtain⟨h1,h2⟩:=KP (k:=k) h c t
   have e:XD ((k',u)::kvs) k v=(k',u)::XD kvs k v:=by
    unfold XD;simp only[Ho,a,decide_false,Tr];split
    ·simp[a]
    ·rfl
   rw[e];exact⟨by simpa[YG,a]using h1,by simpa[YG,a]using bZ.cons g h2⟩
def IC{N:Ux->Prop}{l:Ux}{o:HO}{xs:List V}{ds:List cV}{kvs:List (aK×V)}(d:H l=ba (.dK kvs))(e:N l)(h:bZ K N H xs ds):bZ K N (upd H l o) xs ds:=
 h.fr (P:=λb=>b=l) (λb u q n=>by
  by_cases c:b=l
  ·subst c
   rw[d]at q;cases q;exact absurd (n rfl) λz=>z
  ·rw[bV c]
   exact q) λa z=>z▸e
def CD{i:Nat}{fk t:VF}{c9:Pos}(G:X.A.units+1<cLine)(J:PE X a (LV i))(L:PE X b (TV K ml pa ta ia fk))(F:PE X c (TV K ml pb bc bc t))(I:Hj c (ba (.Subscript a b c9)) pos.line X.env=pure bd):
  PS X (.Assign [.Subscript a b c9] c pos) (WL K ml (FT i fk t)):=(oq G J L F I).imp λD σ H e=>by
 obtain⟨B,O,δ,o,S,q,k⟩:=e;unfold FT at q;obtain⟨⟨z,δ1⟩,h1,q⟩:=Ac.mp q;have q:((XB δ1 i).bind λ_=>(fk δ1).bind λq=>(VQ q.1).bind λk=>(XB q.2 i).bind λd=>if d.1.length<16777216/\d.1.Nodup then ba (Ou.nx (q.2.set i (.ow (let r:=YG d.1 d.2 k z;.dct r.1 r.2))))else bb)=ba o:=q;cases h:XB δ1 i with
 |none=>rw[h]at q;cases q
 |some x=>
 obtain⟨E,R⟩:=x;rw[h]at q;cases h2:fk δ1 with
 |none=>simp[h2]at q
 |some p2=>
  obtain⟨y,δ2⟩:=p2;simp only[Av,h2]at q;cases g:VQ y with
  |none=>simp[g]at q
  |some kk=>
   simp only[Av,g]at q;cases f:XB δ2 i with
   |none=>simp[f]at q
   |some v=>
    obtain⟨ks,ds⟩:=v;simp only[f,Av]at q;split at q
    ·rename_i hz
     cases q;refine⟨B,O,δ,z,δ1,S,h1,λp H1 m=>?_⟩;obtain⟨l,j,Q,_⟩:=m.sta.ow i _ (TF h);refine⟨.ref l,Q,B,O,δ1,y,δ2,m.sta,h2,λT H2 R2=>?_⟩;have P:=R2.rep.key g;subst P;obtain⟨U,u,_,n⟩:=R2.sta.ow i _ (TF f);rw[j]at u;cases u;generalize hw:cV.dct ks ds=dd at n;cases n with
     |lst _ _=>cases hw
     |dct s r=>
      cases hw;have C:=m.rep.fr R2.frm (λa z=>.inr z) λa z=>.inr z;obtain⟨N,M⟩:=KP (k:=kk) C hz.2 r;refine⟨l,_,rfl,DPut.k s (by rw[Cf];simpa using hz.1),k σ _ O (R2.sta.wrote j (λz=>z) ?_)⟩;have w:NY K (Nn B O) (upd H2 l (.dK (XD _ kk p))) l (.dct ((XD _ kk p).map Dk) _):=.dct b9 (IC s (.inr ⟨i,j⟩) M);rw[N]at w;exact w
    ·cases q
end
section
variable{X:Cx}{K:Ah}{ml:List Nat}{e a b c:Vc}{es:List Vc}{pa ta ia pb tb ib pc tc ic pu bt bi ps bs:Bool}{fa fb fc f:VF}{B B':Bs}{O:Nat->Option Ux}{H H0 H1 H':Hp}{σ:St}{δ δ':Ev}{v:V}{d:cV}{p:Ux}{pos:Pos}
def l8(i j k:Nat)(ta:TA):TS:=λD σ H=>ta σ H λvs H1=>∃v w u,vs=[v,w,u]/\D.nx (((σ.set i (ba v)).set j (ba w)).set k (ba u)) H1
def iN{i j k:Nat}{x y z:Va}{a b c:Vc}{ta:TA}{r py n pt:Pos}{kt k2 pt2}(hc:X.calm=bc)(G:X.N.Nodup)(hi:X.N[i]?=ba x)(U:X.N[j]?=ba y)(T:X.N[k]?=ba z)(F:i≠j)(E:i≠k)(C:j≠k)(K:X.env.scope.names.lookup x=ba .local)(J:X.env.scope.names.lookup y=ba .local)(hz:X.env.scope.names.lookup z=ba .local)(V:PA X [a,b,c] ta)(hw:Gw [.Tuple [.Name x r,.Name y py,.Name z n] kt pt] (.Tuple [a,b,c] k2 pt2) X.env=pure (ba [x,y,z]))(S:Gv [.Tuple [.Name x r,.Name y py,.Name z n] kt pt] (.Tuple [a,b,c] k2 pt2) pos.line X.env=pure bd:=by rfl):PS X (.Assign [.Tuple [.Name x r,.Name y py,.Name z n] kt pt] (.Tuple [a,b,c] k2 pt2) pos) (l8 i j k ta):=by
 intro aa s σ H D I h;rw[exec_Assign_arm];refine Aa (Fm ?_);rw[S];refine Aa (Ag ?_);rw[if_neg (by decide)];refine Aa (Tuple_ (ZH (V _ aa s σ H _ I h) λM s1 ⟨vs,H1,I1,Q,q1⟩=>?_));obtain⟨v,w,u,W,q1⟩:=q1;subst W;obtain⟨g,f,d,rfl,O,l,P⟩:∃g f d,M=[g,f,d]/\bE v g/\bE w f/\bE u d:=by
  cases Q with
  |cons p q=>
   cases q with
   |cons p' R=>
    cases R with
    |cons t m=>
     cases m;exact⟨_,_,_,rfl,p,p',t⟩
 refine Cc ?_ (by show 3<=sizeLine;decide);have I2:cF X aa σ H1 {s1 with heap:=s1.heap.push {cls:=.type "tuple",data:=.seq [g,f,d].toArray}}:=I1.kept (t':=s1.toks) λb o e=>Ad _ e;rw[hw];refine Aa (Ag ?_);show Uy (Vb X.prog X.w) X.A (do rule "assign.swapped-stores";let items<-Kn (.ref s1.heap.objs.size) 3 bb;Vn [λv=>Jr X.env z v,λv=>Jr X.env y v,λv=>Jr X.env x v] items.reverse;pure Flow.next) _ _ _;refine Aa (Hc (Aa (Py (items:= #[g,f,d]) (I.ok.hd hc) (Ko s1.heap _) λh' B=>?_)));have I3:=I2.kept (h':=h') (t':=s1.toks) λb o e=>B b o (Bb (An e)) e;show Uy _ _ (Vn [λv=>Jr X.env z v,λv=>Jr X.env y v,λv=>Jr X.env x v] [d,f,g]>>=λ_=>pure Flow.next) _ _ _;refine Aa (Eo (Js (YU I3 G T (.inl hz) P (λs2 Z=>?_) (.inr hz))));refine Eo (Js (YU Z G U (.inl J) l (λs3 Y=>?_) (.inr J)));refine Eo (Js (YU Y G hi (.inl K) O (λs4 L=>Ji (Ag ?_)) (.inr K)));rw[Fb _ _ (Ea F),Fb _ _ (Ea E),Fb _ _ (Ea C)]at L;exact⟨_,H1,L,q1⟩
noncomputable def NB(i j k:Nat)(x y z:VX):VS:=λδ=>(x δ).bind λp=>(y p.2).bind λq=>(z q.2).bind λr=>if i<r.2.length/\j<r.2.length/\k<r.2.length then ba (.nx (((r.2.set k r.1).set j q.1).set i p.1))else bb
def KZ{i j k:Nat}{x y z:VX}{o:Ou}(h:NB i j k x y z δ=ba o):∃s1 δ1 c δ2 s3 a,x δ=ba (s1,δ1)/\y δ1=ba (c,δ2)/\z δ2=ba (s3,a)/\(i<a.length/\j<a.length/\k<a.length)/\o=.nx (((a.set k s3).set j c).set i s1):=by
 unfold NB at h;cases h1:x δ with
 |none=>rw[h1]at h;cases h
 |some p=>
  rw[h1]at h;cases h2:y p.2 with
  |none=>simp[h2]at h
  |some q=>
   simp only[Av,h2]at h;cases b:z q.2 with
   |none=>simp[b]at h
   |some r=>
    simp only[Av,b]at h;split at h
    ·cases h
     exact⟨p.1,p.2,q.1,q.2,r.1,r.2,rfl,h2,b,by assumption,rfl⟩
    ·cases h
def eE{i j k:Nat}{x y z:Va}{fx A w:VX}{l py h pt:Pos}{kt k2 pt2}(hc:X.calm=bc)(Y:X.N.Nodup)(hi:X.N[i]?=ba x)(T:X.N[j]?=ba y)(R:X.N[k]?=ba z)(f:i≠j)(e:i≠k)(d:j≠k)(P:X.env.scope.names.lookup x=ba .local)(M:X.env.scope.names.lookup y=ba .local)(hz:X.env.scope.names.lookup z=ba .local)(W:PE X a (TX K ml fx))(V:PE X b (TX K ml A))(u:PE X c (TX K ml w))(hw:Gw [.Tuple [.Name x l,.Name y py,.Name z h] kt pt] (.Tuple [a,b,c] k2 pt2) X.env=pure (ba [x,y,z]))(r:i∉ml:=by decide)(p:j∉ml:=by decide)(n:k∉ml:=by decide)(Q:Gv [.Tuple [.Name x l,.Name y py,.Name z h] kt pt] (.Tuple [a,b,c] k2 pt2) pos.line X.env=pure bd:=by rfl)(U:SE X a [b,c]:=by rfl)(t:SE X b [c]:=by rfl)(s:SE X c []:=by rfl):
  PS X (.Assign [.Tuple [.Name x l,.Name y py,.Name z h] kt pt] (.Tuple [a,b,c] k2 pt2) pos) (WL K ml (NB i j k fx A w)):=(iN hc Y hi T R f e d P M hz (bN W (bN V (bN u aD s) t) U) hw Q).imp λD σ H m=>by
 obtain⟨B,O,δ,o,S,q,k⟩:=m;obtain⟨s1,δ1,L,δ2,s3,g,h1,h2,Z,hl,rfl⟩:=KZ q;refine⟨B,O,δ,s1,δ1,S,h1,λv H1 B1 S1 G f1=>⟨B1,O,δ1,L,δ2,S1,h2,λJ H2 B2 S2 F f2=>⟨B2,O,δ2,s3,g,S2,Z,λI H3 B3 S3 E f3=>⟨v,J,I,rfl,?_⟩⟩⟩⟩;obtain⟨O4,S4⟩:=E.bind S3 n hl.2.2;obtain⟨O5,S5⟩:=(F.fr f3).bind S4 p (by rw[Ck];exact hl.2.1);obtain⟨O6,C⟩:=((G.fr f2).fr f3).bind S5 r (by rw[Ck,Ck];exact hl.1);rw[Fb _ _ (Ea f),Fb _ _ (Ea e),Fb _ _ (Ea d)]at C;exact k _ _ _ C
def mZ{i j k:Nat}{x y z:Va}{fx Q P:VX}{e py d pt:Pos}{kt k2 pt2}(hK:X.K=K)(hc:X.calm=bc)(C:X.N.Nodup)(hi:X.N[i]?=ba x)(hj:X.N[j]?=ba y)(hk:X.N[k]?=ba z)(t:i≠j)(s:i≠k)(r:j≠k)(hx:Loc X.env.scope x)(Z:Loc X.env.scope y)(hz:Loc X.env.scope z)(ha:PE X a (TX K ml fx))(hb:PE X b (TX K ml Q))(A:PE X c (TX K ml P))(n:i∉ml:=by decide)(m:j∉ml:=by decide)(l:k∉ml:=by decide)(hs:Gv [.Tuple [.Name x e,.Name y py,.Name z d] kt pt] (.Tuple [a,b,c] k2 pt2) pos.line X.env=pure bd:=by rfl)(hw:Gw [.Tuple [.Name x e,.Name y py,.Name z d] kt pt] (.Tuple [a,b,c] k2 pt2) X.env=pure bb:=by rfl)(hn:(Vf [.Name x e,.Name y py,.Name z d] X.env).length=3:=by rfl)(g:(Vf [.Name x e,.Name y py,.Name z d] X.env).findIdx? (·.1)=bb:=by rfl)(g1:(Vf [.Name x e,.Name y py,.Name z d] X.env).map (·.2)=Hs (.Name x e) X.env::(Vf [.Name y py,.Name z d] X.env).map (·.2):=by rfl)(g2:(Vf [.Name y py,.Name z d] X.env).map (·.2)=Hs (.Name y py) X.env::(Vf [.Name z d] X.env).map (·.2):=by rfl)(g3:(Vf [.Name z d] X.env).map (·.2)=Hs (.Name z d) X.env::(Vf [] X.env).map (·.2):=by rfl)(G:LO X x:=by first|exact .inl rfl|exact .inr rfl|assumption)(F:LO X y:=by first|exact .inl rfl|exact .inr rfl|assumption)(E:LO X z:=by first|exact .inl rfl|exact .inr rfl|assumption)(h1:(Vf [.Tuple [.Name x e,.Name y py,.Name z d] kt pt] X.env).map (·.2)=[Hs (.Tuple [.Name x e,.Name y py,.Name z d] kt pt) X.env]:=by rfl)(he:SE X a [b,c]:=by rfl)(w:SE X b [c]:=by rfl)(u:SE X c []:=by rfl):PS X (.Assign [.Tuple [.Name x e,.Name y py,.Name z d] kt pt] (.Tuple [a,b,c] k2 pt2) pos) (WL K ml (NB i j k fx Q P)):=
 (DM (dG (bN ha (bN hb (bN A aD u) w) he)) (Ys (K:=K) hK hc (Q2 (NU C hi hx G) (Q2 (NU C hj Z F) (Q2 (NU C hk hz E) BJ g3) g2) g1) hn g) hs hw h1).imp λD σ H h=>by obtain⟨B,O,δ,o,S,q,k⟩:=h;obtain⟨s1,δ1,Y,δ2,s3,f,h1,h2,h3,hl,rfl⟩:=KZ q;refine⟨B,O,δ,s1,δ1,S,h1,λv H1 B1 S1 W f1=>⟨B1,O,δ1,Y,δ2,S1,h2,λL H2 B2 S2 V f2=>⟨B2,O,δ2,s3,f,S2,h3,λJ T B3 S3 U f3=>⟨(by show 3<=sizeLine;decide),λp M=>⟨p,_,rfl,WN.of b9,rfl,v,_,rfl,L,_,rfl,J,_,rfl,rfl,?_⟩⟩⟩⟩⟩;have I:Fr (OA O) T (upd T p (.tup [v,L,J])):=(cM M).fr;obtain⟨O4,S4⟩:=(U.fr I).bind (S3.same (cM M)) l hl.2.2;obtain⟨O5,S5⟩:=((V.fr f3).fr I).bind S4 m (by rw[Ck];exact hl.2.1);obtain⟨O6,R⟩:=(((W.fr f2).fr f3).fr I).bind S5 n (by rw[Ck,Ck];exact hl.1);rw[Fb _ _ (Ea t),Fb _ _ (Ea s),Fb _ _ (Ea r)]at R;exact k _ _ _ R
end
section
variable{prog:Aw}{w:Ve}{A:Bw}{E:Uw->Ae->Prop}{s:Ae}
def SJ{it t:Ux}{i:Nat}{items:Array Uw}{x:Uw}{Q:Uw->Ae->Prop}(a:s.heap.IsTupleIter it t i)(e:s.heap.IsTuple t items)(d:items[i]?=ba x)(f:∀h',h'.IsTupleIter it t (i+1)->Fn it s.heap h'->Q x {s with heap:=h'}):Uy (Vb prog w) A (Ca (.ref it)) Q E s:=by obtain⟨l,c,j,b⟩:=id a;obtain⟨k,g,_,m,h⟩:=e;unfold Ca;refine Aa (De (name:=Bf "__next__") a.typeIs Fu (Dj Fu a.typeIs Kt ?_ (Kb _)));show Uy _ _ (field (Br it) 0>>=_) _ _ s;refine Aa (Du c b (x:=.ref t) rfl ?_);show Uy _ _ (if(Br t== .none)=bc then _ else _) _ _ s;rw[if_neg (show¬(Br t==Value.none)=bc from Cr)];show Uy _ _ (field (Br it) 1>>=_) _ _ s;refine Aa (Du c b (x:=.int i 0) rfl ?_);show Uy _ _ (Pd (Br t)>>=_) _ _ s;refine Aa (Ee g h ?_);simp only[d,Jj];refine Aa (wpAny_setField c b (by simp) (Ag ⟨x,rfl,Ag (f _ ⟨_,Heap.get?_update_self _ c (Obj.isFreed_of_fields (Pe b _)),(Obj.cls_mapFields ..).trans j,?_⟩ (Gz ..))⟩));rw[Pe b];simp[rawInt]
def QZ{it t:Ux}{i:Nat}{items:Array Uw}{Q:Uw->Ae->Prop}(f:A.handled=bb)(b:s.heap.IsTupleIter it t i)(h:s.heap.IsTuple t items)(g:items[i]?=bb)(j:∀h' e,Jl it s.heap h'->(∃o,h'.get? e=ba o/\o.cls=.type "StopIteration")->E (.ref e) {s with heap:=h'}):Uy (Vb prog w) A (Ca (.ref it)) Q E s:=by
 obtain⟨p,c,r,d⟩:=id b;obtain⟨n,k,_,q,l⟩:=h;unfold Ca;refine Aa (De (name:=Bf "__next__") b.typeIs Fu (Dj Fu b.typeIs Kt ?_ (Kb _)));show Uy _ _ (field (Br it) 0>>=_) _ _ s;refine Aa (Du c d (x:=.ref t) rfl ?_);show Uy _ _ (if(Br t== .none)=bc then _ else _) _ _ s;rw[if_neg (show¬(Br t==Value.none)=bc from Cr)];show Uy _ _ (field (Br it) 1>>=_) _ _ s;refine Aa (Du c d (x:=.int i 0) rfl ?_);show Uy _ _ (Pd (Br t)>>=_) _ _ s;refine Aa (Ee k l ?_);simp only[g,Jj];refine Aa (Hc (Aa (wpAny_setField c d (by simp) ?_)));show Uy _ _ (newExc (Lw "StopIteration") []>>=_) _ _ _;refine Aa ?_;unfold newExc newTuple;refine Aa (Cc ?_ (by size_fits));refine Aa (m:=Ls _ _) (Es (a:=Value.none) (by first|rfl|(unfold Ls;rfl)) (Cc ?_ (by size_fits)));unfold raiseNew;refine Aa (wpAny_handled ?_);first|rw[f]|rw[show A.in1.handled=bb from f]
 refine Aa (Ag (wpAny_throw (j _ _ (((Gz ..).extBut.push _).push _) ⟨_,Aj _ rfl,rfl⟩)))
end
def lD{prog:Aw}{w:Ve}{A:Bw}(g:A.handled=bb)(it t:Ux)(d:t≠it)(items:Array Uw):
  Draws prog w A it [it,t] items.size (λi v=>items[i]?=ba v) (λi h=>h.IsTupleIter it t i/\h.IsTuple t items) where
 live:=λ_ _ st=>let ⟨o,c,_⟩:=st.1;⟨o,c⟩
 frame:=λ_ _ _ st f=>⟨st.1.at λo e=>f it (by simp) o e,by obtain⟨o,c,r⟩:=st.2;exact⟨o,f t (by simp) o c,r⟩⟩
 item:=λi s Q E hi st j=>SJ st.1 st.2 (x:=items[i]) (by simp[hi]) λh' a b=>j _ h' s.toks (by simp[hi]) ⟨a,st.2.extBut b.extBut d⟩ b
 done:=λs Q E st k=>QZ g st.1 st.2 (by simp) k
section
variable{X:Cx}{aa:List (Ux×Vi)}{σ:St}{H:Hp}{s:Ae}{h':Vg}
def cF.turnedL{t':Nat}{fp:List Ux}(I:cF X aa σ H s)(k:∀b o,b∉fp->s.heap.get? b=ba o->h'.get? b=ba o)(there:∀b∈fp,∃o,h'.get? b=ba o)(d:∀b∈fp,WK X aa H b):cF X aa σ H {s with heap:=h',toks:=t'}:=by
 have a:∀b u,H b=ba u->b∉fp:=λb u e z=>by rw[(d b z).1]at e;cases e
 have i:X.env.locals∉fp:=λz=>(d _ z).2.1 rfl;refine I.step (g':=s.gens) (d':=s.drawn) (ch:=fp) (λb h=>?_) (λb o _ _ hc e _=>k b o hc e) (λb o _ _ hc e _=>⟨o.slots,k b o hc e⟩) (λ_ _ _ _ n=>n)
  (λb o hc e=>⟨o,k b o hc e⟩) (λ_ _ e=>e) (λ_ _ _ e=>e) (λb ps e=>⟨#[],by rw[e];simp⟩) (λm g=>?_) (λb u e=>?_) I.bare
 ·obtain⟨_,f1,f2,f3,l,j⟩:=d b h
  exact⟨f3,f1,l,j⟩
 ·obtain⟨o,es,ep,f,r⟩:=g
  exact⟨o,es,ep,k _ o i f,r⟩
 ·refine (I.hok b u e).stay (λc v hc q => k c v ?_ q) (λ_ q => q) λ_ _ _ q => q
  rcases hc with z|z
  ·rw[z];exact a b u e
  ·exact a c _ z
end
section
variable{X:Cx}{aa:List (Ux×Vi)}{σ:St}{H:Hp}{s:Ae}{h':Vg}
def cF.turnedL'{t':Nat}{fp:List Ux}(I:cF X aa σ H s)(k:∀b o,b∉fp->s.heap.get? b=ba o->h'.get? b=ba o)(d:∀b∈fp,WK X aa H b):cF X aa σ H {s with heap:=h',toks:=t'}:=by
 have a:∀b u,H b=ba u->b∉fp:=λb u e z=>by rw[(d b z).1]at e;cases e
 have i:X.env.locals∉fp:=λz=>(d _ z).2.1 rfl;refine I.step (g':=s.gens) (d':=s.drawn) (ch:=fp) (λb h=>?_) (λb o _ _ hc e _=>k b o hc e) (λb o _ _ hc e _=>⟨o.slots,k b o hc e⟩) (λ_ _ _ _ n=>n)
  (λb o hc e=>⟨o,k b o hc e⟩) (λ_ _ e=>e) (λ_ _ _ e=>e) (λb ps e=>⟨#[],by rw[e];simp⟩) (λm g=>?_) (λb u e=>?_) I.bare
 ·obtain⟨_,f1,f2,f3,l,j⟩:=d b h
  exact⟨f3,f1,l,j⟩
 ·obtain⟨o,es,ep,f,r⟩:=g
  exact⟨o,es,ep,k _ o i f,r⟩
 ·refine (I.hok b u e).stay (λc v hc q => k c v ?_ q) (λ_ q => q) λ_ _ _ q => q
  rcases hc with z|z
  ·rw[z];exact a b u e
  ·exact a c _ z
end
def JA(K:Ah)(tup:Bool)(H:Hp)(a:Ux)(xs:List V):Prop:=if tup=bc then WN K H a xs else X8 K H a xs
def QE(tup:Bool)(h:Vg)(a:Ux)(items:Array Uw):Prop:=if tup=bc then h.IsTuple a items else h.IsList a items
def US(tup:Bool)(h:Vg)(it a:Ux)(i:Nat):Prop:=if tup=bc then h.IsTupleIter it a i else h.IsListIter it a i
def Ym{prog:Aw}{w:Ve}{A:Bw}(b:A.handled=bb)(tup:Bool)(it t:Ux)(a:t≠it)(items:Array Uw):Draws prog w A it [it,t] items.size (λi v=>items[i]?=ba v) (λi h=>US tup h it t i/\QE tup h t items):=by
 cases tup with
 |true=>exact lD b it t a items
 |false=>exact Draws.list b it t a items
def QE.lt{tup:Bool}{h:Vg}{a:Ux}{items:Array Uw}(s:QE tup h a items):a<h.objs.size:=by
 cases tup with
 |true=>obtain⟨o,e,_⟩:=s;exact An e
 |false=>obtain⟨o,e,_⟩:=s;exact An e
def cF.srcA{X:Cx}{aa:List (Ux×Vi)}{σ:St}{H:Hp}{s:Ae}{a:Ux}{xs:List V}{tup:Bool}(I:cF X aa σ H s)(h:JA X.K tup H a xs):∃b:List Uw,bL xs b/\QE tup s.heap a b.toArray/\xs.length<=sizeLine:=by
 cases tup with
 |true=>
  obtain⟨b,r,p,z⟩:=I.tuple h;exact⟨b,r,p,z⟩
 |false=>
  obtain⟨b,r,p,z⟩:=I.list h;exact⟨b,r,p.isList,z⟩
def cF.sq_inj{X:Cx}{aa:List (Ux×Vi)}{σ:St}{H:Hp}{s:Ae}{a:Ux}{xs ys:List V}{tup:Bool}(I:cF X aa σ H s)(h:JA X.K tup H a xs)(h':JA X.K tup H a ys):xs=ys:=by
 cases tup with
 |true=>exact I.tuple_inj h h'
 |false=>exact I.list_inj h h'
def US.at{tup:Bool}{h h':Vg}{it a:Ux}{i:Nat}(st:US tup h it a i)(k:∀o,h.get? it=ba o->h'.get? it=ba o):US tup h' it a i:=by
 cases tup with
 |true=>exact Heap.IsTupleIter.at st k
 |false=>exact Heap.IsListIter.at st k
def US.obj{tup:Bool}{h:Vg}{it a:Ux}{i:Nat}(st:US tup h it a i):∃o,h.get? it=ba o/\∀v,o.data≠ .cell v:=by
 cases tup with
 |true=>
  obtain⟨o,e,c,d⟩:=st;exact⟨o,e,λv z=>by rw[d]at z;cases z⟩
 |false=>
  obtain⟨o,e,c,d⟩:=st;exact⟨o,e,λv z=>by rw[d]at z;cases z⟩
def Ite(K:Ah)(tup:Bool)(a:Ux):It:=
 ⟨λi H=>∃xs x,JA K tup H a xs/\xs[i]?=ba x,λi H v H'=>∃p x,(∀xs,JA K tup H a xs->xs[i]?=ba x)/\H p=bb/\H'=upd H p (.tup [.int i,x])/\v=.ref p,λi H=>∃xs,JA K tup H a xs/\xs.length=i⟩
def jL{P:Aw}{w:Ve}{K:Ah}{es:List Vc}{k:Nat}{pos:Pos}(tup:Bool)(a e it:Ux)(j:e≠it)(Q:a≠e)(D:a≠it):
  GY P w K (.Tuple es k pos) (Ite K tup a) [e,it] e (λi h=>(∃f,IsEnum h e it i f)/\US tup h it a i) where
 mem:=by simp
 obj:=λi h st b c=>by
  obtain⟨⟨f,l⟩,hi⟩:=st;rcases Ak.mp c with z|z
  ·subst z
   exact⟨_,l,λv z=>by cases z⟩
  ·have:=Ba.mp z
   subst this;exact hi.obj
 keep:=λi h h' st kk=>by obtain⟨⟨f,l⟩,hi⟩:=st;exact⟨⟨f,kk e (by simp) _ l⟩,hi.at λo q=>kk it (by simp) o q⟩
 item:=by
  intro X R hw S hc i aa s σ H E I y st O;subst R hw S;obtain⟨⟨f,l⟩,hi⟩:=st;obtain⟨xs,x,J,t⟩:=O;obtain⟨g,G,m,hz⟩:=I.srcA J;have M:i<g.toArray.size:=by
   have:=(Ai.mp t).1
   have:=G.length
   simp only[Aq];lia
  have N:X.A.in1.handled=bb:=I.ok.hd hc;refine wpAny_pyNext_enum_itemD (Ym N tup it a D g.toArray) l ⟨hi,m⟩ M j (by simp[j,Ea Q]) λu h1 tk n ho r Z hsz hk=>⟨_,rfl,?_⟩;refine wpAny_letOwnedTupleGo_enum (s:={s with heap:=h1,toks:=tk+1}) ho λh2 B d=>?_;have d:Fn e h1 h2:=d;obtain⟨p,L,W⟩:=G.get t;have n:g.toArray[i]?=ba u:=n;rw[List.getElem?_toArray,L]at n;have n:=Cv n;subst n;have kk:∀b o,b∉[e,it]->s.heap.get? b=ba o->h2.get? b=ba o:=λb o c q=>by have F:b≠e:=λz=>c (by simp[z]);have T:b≠it:=λz=>c (by simp[z]);exact(d.2 b F).trans (hk b o F T q)
  have d6:h2.get? s.heap.objs.size=ba {cls:=.type "tuple",data:=.seq #[.int i tk,p]}:=(d.2 _ (Ic (An l))).trans Z;have bz:H s.heap.objs.size=bb:=I.hok.fresh (Am _);have U:∀b∈[e,it],b<s.heap.objs.size:=λb c=>by
   rcases Ak.mp c with z|z
   ·rw[z];exact An l
   ·rw[Ba.mp z]
    obtain⟨o,q,_⟩:=hi.obj;exact An q
  have I0:cF X aa σ (upd H s.heap.objs.size (.tup [.int i,x])) {s with heap:=s.heap.push {cls:=.type "tuple",data:=.seq #[.int i tk,p]},toks:=tk}:=
   I.laid (λb o q=>Ad _ q) (Am _) ⟨by show 2<=sizeLine;decide,[.int i tk,p],.cons ⟨tk,rfl⟩ (.cons W .nil),Ko _ _⟩
  have I1:cF X aa σ (upd H s.heap.objs.size (.tup [.int i,x])) {s with heap:=h2,toks:=tk+1}:=by
   refine cF.turnedL (s:={s with heap:=s.heap.push {cls:=.type "tuple",data:=.seq #[.int i tk,p]},toks:=tk}) (h':=h2) (t':=tk+1) (fp:=[e,it]) I0 (λb o c q=>?_) (λb c=>?_) λb c=>⟨by rw[bV (Bb (U b c))];exact(y b c).1,(y b c).2⟩
   ·by_cases C:b=s.heap.objs.size
    ·subst C
     have q:(s.heap.push {cls:=.type "tuple",data:=.seq #[.int i tk,p]}).get? s.heap.objs.size=ba o:=q;rw[Aj _ rfl]at q;cases q;exact d6
    ·exact kk b o c ((Jm _ _ _ C).symm.trans q)
   ·rcases Ak.mp c with z|z
    ·rw[z];exact⟨_,B⟩
    ·rw[Ba.mp z]
     obtain⟨o,q,_⟩:=r.1.obj;exact⟨o,(d.2 it (Ea j)).trans q⟩
  refine⟨.ref s.heap.objs.size,upd H s.heap.objs.size (.tup [.int i,x]),?_,rfl,⟨_,x,λys Y=>by rw[I.sq_inj Y J];exact t,bz,rfl,rfl⟩,⟨⟨_,by simpa using B⟩,r.1.at λo q=>(d.2 it (Ea j)).trans q⟩,λb c=>?_⟩
  ·exact I1
  ·rw[bV (Bb (U b c))]
   exact(y b c).1
 done:=by
  intro X R hw S hc i aa s σ H E I y st O;subst R hw S;obtain⟨⟨f,l⟩,hi⟩:=st;obtain⟨xs,J,t⟩:=O;obtain⟨g,G,m,hz⟩:=I.srcA J;have N:X.A.in1.handled=bb:=I.ok.hd hc;have hn:g.toArray.size=i:=by rw[Aq,<-G.length];exact t
  refine wpAny_pyNext_enum_endD (Ym N tup it a D g.toArray) l ⟨by rw[hn];exact hi,m⟩ λh1 V=>⟨rfl,?_⟩;obtain⟨f0,f1,f2,f3,f4,f5⟩:=y it (by simp);exact I.turned (t':=s.toks) (λb o c q=>V b o c q) f0 f1 f3 f4 f5
 self:=λ_ i _ _ _ st h=>Qh st.1.choose_spec h
def ny(a:Ux)(items:Array Uw)(n:Nat)(dd:Option Ux)(f:Array (Option Uw)):Meets (Fi.«enumerate.__new__» ⟨[.type "enumerate",.ref a],[]⟩) (λ_ R s=>s.heap.get? a=ba {cls:=.type "tuple",dict:=dd,data:=.seq items n,slots:=f}∧R (.ok (.ret (.ref (s.heap.push {cls:=.type "tuple_iterator",data:=.fields #[.ref a,.int 0 0]}).objs.size))) {s with heap:=(s.heap.push {cls:=.type "tuple_iterator",data:=.fields #[.ref a,.int 0 0]}).push {cls:=.type "enumerate",data:=.fields #[.none,.bool bd,.ref s.heap.objs.size,rawInt 0,.none,.none]}}):=by
 refine .of_wp λprog w A R s h=>?_;obtain⟨i,g,d,tk,os⟩:=s;obtain⟨b,h⟩:=h;have j:=sub_enumerate;have e:Heap.IsTuple (Sf ⟨i,g,d,tk,os⟩) a items:=⟨_,b,rfl,n,rfl⟩;wp_walk using Db b
 refine wpAny_stack_any λst=>Ag ?_;split
 ·rename_i c _ _ _ _ _
  cases (c==Lw "enumerate")<;>(wp_walk using Db b,Ik e;exact⟨_,rfl,h⟩)
 ·wp_walk using Db b,Ik e
  exact⟨_,rfl,h⟩
def CT{prog:Aw}{w:Ve}{A:Bw}{E:Uw->Ae->Prop}{s:Ae}{a:Ux}{items:Array Uw}{tup:Bool}{Q:Uw->Ae->Prop}(e:QE tup s.heap a items)(h:∀h',IsEnum h' (s.heap.objs.size+1) s.heap.objs.size 0 .none->US tup h' s.heap.objs.size a 0->(∀b o,s.heap.get? b=ba o->h'.get? b=ba o)->Q (.ref (s.heap.objs.size+1)) {s with heap:=h'}):Uy (Vb prog w) A (call (.type "enumerate") [.ref a]) Q E s:=by
 cases tup with
 |false=>exact call_enumerate_list e λh' l k _ a4=>h h' l k a4
 |true=>
  obtain⟨⟨j,dd,i,f⟩,g,hc,n,d⟩:=e;replace hc:j=.type "tuple":=hc
  replace d:i=.seq items n:=d
  subst hc d;have hz:(s.heap.push {cls:=.type "tuple_iterator",data:=.fields #[.ref a,.int 0 0]}).objs.size=s.heap.objs.size+1:=Ef ..;refine callType_new F.called_enumerate (by decide) (F.typeCall_enumerate_1 _) (F.newCall_enumerate_1 _) (λobj=>Ny obj _) F.entry_enumerate_new (ny a items n dd f) ⟨g,?_⟩;show _/\_;rw[hz];have c:=Aj (s.heap.push {cls:=.type "tuple_iterator",data:=.fields #[.ref a,.int 0 0]}) (o:={cls:=.type "enumerate",data:=.fields #[.none,.bool bd,.ref s.heap.objs.size,rawInt 0,.none,.none]}) rfl;rw[hz]at c;exact⟨⟨_,c,rfl⟩,h _ c ⟨_,Ad _ (Aj _ rfl),rfl,rfl⟩ λb o x=>Ad _ (Ad _ x)⟩
def G0:Bi "enumerate"=ba (.type "enumerate"):=by decide+kernel
def jN:Bi "zip"=ba (.type "zip"):=by decide+kernel
section
variable{X:Cx}{K:Ah}{ml:List Nat}{l:Vc}{pu:Bool}{f:VF}{p pos cq:Pos}{es:List Vc}{tk:Nat}{δ:Ev}
def iEnu(K:Ah)(tl:TE):TI:=λσ H R=>tl σ H λx H1=>∃a tup,x=.ref a/\(∃xs,JA K tup H1 a xs)/\R (Ite K tup a) H1
def oW{tl:TE}(t:Gl X "enumerate")(r:X.mg "enumerate"=bb)(hl:PE X l tl)(k:SE X l []:=by rfl):PI X (.Tuple es tk cq) (.Call (.Name "enumerate" p) [l] [] pos) (iEnu X.K tl):=by
 intro aa s σ H R I h;refine Ds (WR I t r G0 ?_ (by decide) (by decide));refine Cj (ZH (bN hl aD k pos aa s σ H (λvs H1=>match vs with
  |[x]=>∃a tup,x=.ref a/\(∃xs,JA X.K tup H1 a xs)/\R (Ite X.K tup a) H1
  |_=>False) I h) λy s1 ⟨vs,H1,f,g,q1⟩=>?_) k (by rfl)
 match vs,g,q1 with
 |[x],g,q1=>
  obtain⟨a,tup,rfl,⟨xs,o⟩,v⟩:=q1;obtain⟨u,rfl,m⟩:=U0 g;cases m;obtain⟨n,A,c,_⟩:=f.srcA o;refine CT c λh' d i kp=>?_;have w:cF X aa σ H1 {s1 with heap:=h'}:=f.kept (t':=s1.toks) kp;have q:∀b,s1.heap.objs.size<=b->H1 b=bb:=λb j=>f.hok.fresh j;refine Qh d ⟨s1.heap.objs.size+1,[s1.heap.objs.size+1,s1.heap.objs.size],_,Ite X.K tup a,H1,rfl,w,jL tup a (s1.heap.objs.size+1) s1.heap.objs.size (Rh _) (λz=>?_) (λz=>?_),⟨⟨_,d⟩,i⟩,λb j=>?_,v⟩
  ·have:=c.lt
   rw[z]at this;exact absurd this (Nat.not_lt_of_le (Jn _))
  ·have:=c.lt
   rw[z]at this;exact absurd this (Cq _)
  ·have e:s1.heap.objs.size<=b:=by
    rcases Ak.mp j with z|z
    ·rw[z];exact Jn _
    ·rw[Ba.mp z];exact Am _
   exact f.fpOk e (q b e)
def nj(h:X.K=K){tl:TE}(b:Gl X "enumerate")(a:X.mg "enumerate"=bb)(hl:PE X l tl)(c:SE X l []:=by rfl):PI X (.Tuple es tk cq) (.Call (.Name "enumerate" p) [l] [] pos) (iEnu K tl):=by subst h;exact oW b a hl c
noncomputable def YB:Nat->List cV->List cV
 |_,[]=>[]
 |i,d::ds=>.tup [.int i,d]::YB (i+1) ds
def MR(f:VF):VI:=λδ=>(f δ).bind λp=>(XG p.1).map λds=>(YB 0 ds,p.2)
theorem MG:∀{ds:List cV}{n i:Nat}{d:cV},(YB n ds)[i]?=ba d->∃x,ds[i]?=ba x/\d=.tup [.int (n+i:Nat),x]
 |[],_,_,_,h=>by simp[YB]at h
 |x::ds,n,0,d,h=>by simp[YB]at h;exact⟨x,rfl,h.symm⟩
 |x::ds,n,i+1,d,h=>by
  have h:(YB (n+1) ds)[i]?=ba d:=by simpa[YB]using h
  obtain⟨y,h1,h2⟩:=MG h;exact⟨y,by simpa using h1,by rw[h2,show n+1+i=n+(i+1) by lia]⟩
theorem MH:∀(ds:List cV) (n:Nat),(YB n ds).length=ds.length
 |[],_=>rfl
 |_::ds,n=>congrArg (· +1) (MH ds (n+1))
def LA{a:Ux}{tup:Bool}{ds:List cV}:Walk K (Ite K tup a) [(.ref a,if tup=bc then .tup ds else .lst ds)] (YB 0 ds):=by
 intro N H h;have r:=h _ (Ba.mpr rfl);have b:∀xs,JA K tup H a xs->bZ K N H xs ds->(∀(i:Nat) (d:cV),(YB 0 ds)[i]?=ba d->(Ite K tup a).go i H/\∀x H',(Ite K tup a).yld i H x H'->bF H H'/\bC K N H' N x d)/\(Ite K tup a).stop (YB 0 ds).length H:=λxs sq r=>by
  refine⟨λi d e=>?_,xs,sq,by rw[r.length,MH]⟩;obtain⟨z,l,rfl⟩:=MG e;obtain⟨x,f,g⟩:=r.get l;refine⟨⟨xs,x,sq,f⟩,λy H' j=>?_⟩;obtain⟨p,m,k,c,rfl,rfl⟩:=j;have:=k xs sq
  rw[f]at this;cases this;refine⟨cM c,.tup (WN.of b9) (.cons ?_ (.cons (g.same (cM c)) .nil))⟩;rw[Jv];exact .int _
 cases tup with
 |true=>
  have r:bC K N H N (.ref a) (.tup ds):=r;cases r.onT with
  |tup sq r=>exact b _ sq r
 |false=>
  have r:bC K N H N (.ref a) (.lst ds):=r;cases r.onL with
  |lst q n r=>exact b _ (X8.of q) r
  |fzl q r=>exact b _ q.sq r
def IQ(m:X.K=K)(i:Gl X "enumerate")(g:X.mg "enumerate"=bb)(h:PE X l (TV K ml pu bc bc f))(j:SE X l []:=by rfl):
  PI X (.Tuple es tk cq) (.Call (.Name "enumerate" p) [l] [] pos) (EB K ml pu (MR f)):=(nj (K:=K) m i g h j).imp λσ H R d=>by
 obtain⟨B,O,δ,ds,δ',S,q,k⟩:=d;unfold MR at q;obtain⟨⟨x,δ1⟩,h1,q⟩:=Ac.mp q;refine⟨B,O,δ,x,δ1,S,h1,λv H1 b=>?_⟩;cases x with
 |lst c=>
  cases q;obtain⟨a,xs,rfl,sq,r⟩:=b.rep.lstE;exact⟨a,bd,rfl,⟨xs,sq⟩,k _ [(.ref a,.lst c)] H1 (b.sta.keepV λp e=>by rw[Ba.mp e];exact b.rep) b.frm b.pur (LA (tup:=bd))⟩
 |tup c=>
  cases q;obtain⟨a,xs,rfl,sq,r⟩:=b.rep.tupE;exact⟨a,bc,rfl,⟨xs,sq⟩,k _ [(.ref a,.tup c)] H1 (b.sta.keepV λp e=>by rw[Ba.mp e];exact b.rep) b.frm b.pur (LA (tup:=bc))⟩
 |_=>cases q
end
section
variable{prog:Aw}{w:Ve}{A:Bw}{E:Uw->Ae->Prop}{s:Ae}
def US.ext{tup:Bool}{h h':Vg}{it a b:Ux}{i:Nat}(x:US tup h it a i)(d:Jl b h h')(c:it≠b):US tup h' it a i:=x.at λo e=>d _ _ c e
def QE.ext{tup:Bool}{h h':Vg}{a b:Ux}{xs:Array Uw}(x:QE tup h a xs)(d:Jl b h h')(c:a≠b):QE tup h' a xs:=by
 cases tup with
 |true=>obtain⟨o,e,r⟩:=x;exact⟨o,d _ _ c e,r⟩
 |false=>obtain⟨o,e,r⟩:=x;exact⟨o,d _ _ c e,r⟩
def RZ{tup:Bool}{it a:Ux}{i:Nat}{xs:Array Uw}{x:Uw}{Q:Uw->Ae->Prop}(hi:US tup s.heap it a i)(c:QE tup s.heap a xs)(b:xs[i]?=ba x)(d:∀h',US tup h' it a (i+1)->Fn it s.heap h'->Q x {s with heap:=h'}):Uy (Vb prog w) A (Ca (.ref it)) Q E s:=by
 cases tup with
 |true=>exact SJ hi c b d
 |false=>exact wpAny_nextOf_list_item hi c b d
def KA{tup:Bool}{it a:Ux}{i:Nat}{xs:Array Uw}{Q:Uw->Ae->Prop}(d:A.handled=bb)(hi:US tup s.heap it a i)(c:QE tup s.heap a xs)(b:xs[i]?=bb)(f:∀h' e,Jl it s.heap h'->(∃o,h'.get? e=ba o/\o.cls=.type "StopIteration")->E (.ref e) {s with heap:=h'}):Uy (Vb prog w) A (Ca (.ref it)) Q E s:=by
 cases tup with
 |true=>exact QZ d hi c b f
 |false=>exact wpAny_nextOf_list_end d hi c b f
structure ZSt(t1 t2:Bool)(h:Vg)(z p q i1 i2 a b:Ux)(k:Nat)(f0:Uw):Prop where
 zip:IsZip h z p q f0
 its:IsPair h p (.ref i1) (.ref i2)
 res:∃u v,IsPair h q u v
 one:US t1 h i1 a k
 two:US t2 h i2 b k
def lW{J I:Bool}{z p q h f a b:Ux}{k:Nat}{xs ys:Array Uw}{x y:Uw}{Q:Uw->Ae->Prop}(D:Nv z p q h f a b)(S:ZSt J I s.heap z p q h f a b k .none)(s1:QE J s.heap a xs)(s2:QE I s.heap b ys)(hx:xs[k]?=ba x)(hy:ys[k]?=ba y)(hQ:∀h',ZSt J I h' z p q h f a b (k+1) (rawInt s.heap.objs.size)->IsPair h' s.heap.objs.size x y->h'.objs.size=s.heap.objs.size+1->(∀c o,c≠z->c≠q->c≠h->c≠f->s.heap.get? c=ba o->h'.get? c=ba o)->Q (.ref s.heap.objs.size) {s with heap:=h'}):Uy (Vb prog w) A (Fi.«zip.__next__» ⟨[.ref z],[]⟩) (λP s'=>∃v,P=.done (.ret v)/\Q v s') E s:=by
 obtain⟨C,Z,⟨u,v,gr⟩,g1,g2⟩:=S;show Uy _ _ (field (Br z) 2>>=_) _ _ _;refine Aa (Du C rfl (x:=.bool bd) rfl ?_);show Uy _ _ (field (Br z) 3>>=_) _ _ _;refine Aa (Du C rfl (x:=.ref p) rfl (Aa (Ee Z rfl ?_)));show Uy _ _ (Eh (Br z)>>=_) _ _ _;refine Aa ?_
 (unfold Eh)
 refine Aa (Du C rfl (x:=.none) rfl (Ag ?_));simp only[if_true];refine Aa (Hc (Aa (Du C rfl (x:=.ref q) rfl (Aa (Et C (by simp) λha N j=>Aa ?_)))));have N:IsZip ha z p q .ellipsis:=N;simp only[Sg,Ri,Og,Kr];refine Aa (Aa (Ml ?_));show Uy _ _ (Ca (Br h)>>=_) _ _ _;refine Aa (RZ (g1.ext j.extBut D.i1z) (s1.ext j.extBut D.l1z) hx λhb n1 m=>Ag ?_);have X:IsPair hb q u v:=m.extBut _ _ D.TOi1 (j.extBut _ _ D.TOz gr);refine Aa (Ee X rfl (Aa (Jz X λhc O l=>Aa (Jo (Ag ?_)))));have O:IsPair hc q x v:=O;refine Aa (Aa (Ml ?_));show Uy _ _ (Ca (Br f)>>=_) _ _ _;refine Aa (RZ (((g2.ext j.extBut D.i2z).ext m.extBut D.i12.symm).ext l.extBut D.TOi2.symm) (((s2.ext j.extBut D.l2z).ext m.extBut D.l2i1).ext l.extBut D.l2TO) hy λhd n2 G=>Ag ?_);have W:IsPair hd q x v:=G.extBut _ _ D.TOi2 O;refine Aa (Ee W rfl (Aa (Jz W λd K F=>Aa (Jo (Ag (Ag ?_))))));have K:IsPair d q x y:=K;refine Aa (Ee K rfl (Aa (wpAny_newTuple ?_)));have e:d.objs.size=s.heap.objs.size:=by rw[F.1,G.1,l.1,m.1,j.1]
 have V:IsZip d z p q .ellipsis:=F.extBut _ _ D.TOz.symm (G.extBut _ _ D.i2z.symm (l.extBut _ _ D.TOz.symm (m.extBut _ _ D.i1z.symm N)));have Y:∀c o,c≠z->c≠q->c≠h->c≠f->s.heap.get? c=ba o->d.get? c=ba o:=λc o i L T R g=>F.extBut _ _ L (G.extBut _ _ R (l.extBut _ _ L (m.extBut _ _ T (j.extBut _ _ i g))));have e1:US J d h a (k+1):=((n1.ext l.extBut D.TOi1.symm).ext G.extBut D.i12).ext F.extBut D.TOi1.symm;have e2:US I d f b (k+1):=n2.ext F.extBut D.TOi2.symm;have ie:IsPair d p (.ref h) (.ref f):=Y _ _ D.TIz D.TITO D.TIi1 D.TIi2 Z;have n:z<d.objs.size:=An V;show Uy _ _ (Hw (Br z) (.ref d.objs.size)>>=_) _ _ _;refine Aa ?_
 (unfold Hw)
 have zf:IsZip (d.push {cls:=.type "tuple",data:=.seq #[x,y]}) z p q .ellipsis:=Ad _ V;refine Aa (Et zf (by simp) λhg M U=>?_);have M:IsZip hg z p q (rawInt d.objs.size):=M;refine Et M (by simp) λB H bk=>?_;have H:IsZip B z p q (rawInt d.objs.size):=H;have r:∀c o,c≠z->d.get? c=ba o->B.get? c=ba o:=λc o i g=>bk.extBut _ _ i (U.extBut _ _ i (Ad _ g));have tk:IsPair B d.objs.size x y:=bk.extBut _ _ (Ic n) (U.extBut _ _ (Ic n) (Aj _ rfl));have t:B.objs.size=d.objs.size+1:=by rw[bk.1,U.1,Ef]
 rw[e]at H tk t;refine Ag ⟨_,rfl,?_⟩;show Q (.ref d.objs.size) _;rw[e];exact hQ B ⟨H,r _ _ D.TIz ie,⟨x,y,r _ _ D.TOz K⟩,e1.at λo g=>r _ o D.i1z g,e2.at λo g=>r _ o D.i2z g⟩ tk t λc o i L T R g=>r c o i (Y c o i L T R g)
def iF{K J:Bool}{z p q t r a b:Ux}{k:Nat}{xs ys:Array Uw}{Q:Fin->Ae->Prop}(M:A.handled=bb)(D:Nv z p q t r a b)(S:ZSt K J s.heap z p q t r a b k .none)(s1:QE K s.heap a xs)(T:QE J s.heap b ys)(dw:xs[k]?=bb∨ys[k]?=bb)(N:∀h' e,(∀c o,c≠z->c≠q->c≠t->c≠r->s.heap.get? c=ba o->h'.get? c=ba o)->(∃o,h'.get? e=ba o/\o.cls=.type "StopIteration")->E (.ref e) {s with heap:=h'}):Uy (Vb prog w) A (Fi.«zip.__next__» ⟨[.ref z],[]⟩) Q E s:=by
 obtain⟨j,Z,⟨u,v,Y⟩,O,g2⟩:=S;show Uy _ _ (field (Br z) 2>>=_) _ _ _;refine Aa (Du j rfl (x:=.bool bd) rfl ?_);show Uy _ _ (field (Br z) 3>>=_) _ _ _;refine Aa (Du j rfl (x:=.ref p) rfl (Aa (Ee Z rfl ?_)));show Uy _ _ (Eh (Br z)>>=_) _ _ _;refine Aa ?_
 (unfold Eh)
 refine Aa (Du j rfl (x:=.none) rfl (Ag ?_));simp only[if_true];refine Aa (Hc (Aa (Du j rfl (x:=.ref q) rfl (Aa (Et j (by simp) λX n d=>Aa ?_)))));have n:IsZip X z p q .ellipsis:=n;simp only[Sg,Ri,Og,Kr];refine Aa (Aa (Ml ?_));show Uy _ _ (Ca (Br t)>>=_) _ _ _;cases C:xs[k]? with
 |none=>
  refine Aa (KA M (O.ext d.extBut D.i1z) (s1.ext d.extBut D.l1z) C λF e f ⟨y,h,l⟩=>?_);have I:IsZip F z p q .ellipsis:=f _ _ D.i1z.symm n;have B:e≠z:=λw=>by subst w;rw[I]at h;cases h;simp at l
  exact Et I (by simp) λhc _ i=>N hc e (λc o m _ G _ g=>i.extBut _ _ m (f _ _ G (d.extBut _ _ m g))) ⟨y,i.extBut _ _ B h,l⟩
 |some x=>
  have U:ys[k]?=bb:=dw.resolve_left λw=>by rw[C]at w;cases w
  refine Aa (RZ (O.ext d.extBut D.i1z) (s1.ext d.extBut D.l1z) C λF n1 f=>Ag ?_);have L:IsPair F q u v:=f.extBut _ _ D.TOi1 (d.extBut _ _ D.TOz Y);refine Aa (Ee L rfl (Aa (Jz L λhc rc i=>Aa (Jo (Ag (Aa (Aa (Ml ?_))))))));show Uy _ _ (Ca (Br r)>>=_) _ _ _;refine Aa (KA M (((g2.ext d.extBut D.i2z).ext f.extBut D.i12.symm).ext i.extBut D.TOi2.symm) (((T.ext d.extBut D.l2z).ext f.extBut D.l2i1).ext i.extBut D.l2TO) U λW e R ⟨y,h,l⟩=>?_);have H:IsZip W z p q .ellipsis:=R _ _ D.i2z.symm (i.extBut _ _ D.TOz.symm (f.extBut _ _ D.i1z.symm n));have B:e≠z:=λw=>by subst w;rw[H]at h;cases h;simp at l
  exact Et H (by simp) λV _ P=>N V e (λc o m c2 G c4 g=>P.extBut _ _ m (R _ _ c4 (i.extBut _ _ c2 (f.extBut _ _ G (d.extBut _ _ m g))))) ⟨y,P.extBut _ _ B h,l⟩
def DA{g f:Bool}{z p q e d a b:Ux}{k:Nat}{xs ys:Array Uw}{x y:Uw}{Q:Option Uw->Ae->Prop}(D:Nv z p q e d a b)(S:ZSt g f s.heap z p q e d a b k .none)(s1:QE g s.heap a xs)(h:QE f s.heap b ys)(j:xs[k]?=ba x)(i:ys[k]?=ba y)(l:∀h',ZSt g f h' z p q e d a b (k+1) (rawInt s.heap.objs.size)->IsPair h' s.heap.objs.size x y->h'.objs.size=s.heap.objs.size+1->(∀c o,c≠z->c≠q->c≠e->c≠d->s.heap.get? c=ba o->h'.get? c=ba o)->Q (ba (.ref s.heap.objs.size)) {s with heap:=h'}):Uy (Vb prog w) A (pyNext (.ref z)) Q E s:=by
 have ty:s.TypeIs (.ref z) "zip":=⟨_,S.zip,rfl⟩
 (unfold pyNext)
 exact Aa (Kc (De (name:=Bf "__next__") ty Ku (Dj Ku ty Rj (lW D S s1 h j i λh' r n m a4=>Ag (l h' r n m a4)) (Qi _))))
def oY{h g:Bool}{z p q f d a b:Ux}{k:Nat}{xs ys:Array Uw}{Q:Option Uw->Ae->Prop}(j:A.handled=bb)(D:Nv z p q f d a b)(S:ZSt h g s.heap z p q f d a b k .none)(s1:QE h s.heap a xs)(i:QE g s.heap b ys)(n:xs[k]?=bb∨ys[k]?=bb)(l:∀h',(∀c o,c≠z->c≠q->c≠f->c≠d->s.heap.get? c=ba o->h'.get? c=ba o)->Q bb {s with heap:=h'}):Uy (Vb prog w) A (pyNext (.ref z)) Q E s:=by
 have ty:s.TypeIs (.ref z) "zip":=⟨_,S.zip,rfl⟩
 (unfold pyNext)
 refine Aa (Kc (De (name:=Bf "__next__") ty Ku (Dj Ku ty Rj (iF j D S s1 i n λh' e kk ⟨o,m,r⟩=>?_) (Qi _))));exact Aa (Mt (T:= "StopIteration") (b:=bc) ⟨o,m,r⟩ isSubtype_stop (Ag (l _ kk)))
end
def eA(tup:Bool):String:=if tup=bc then "tuple_iterator" else "list_iterator"
noncomputable abbrev zO(tup:Bool)(a:Ux):Vi:={cls:=.type (eA tup),data:=.fields #[.ref a,.int 0 0]}
def Xm{prog:Aw}{w:Ve}{A:Bw}{E:Uw->Ae->Prop}{s:Ae}{tup:Bool}{a:Ux}{xs:Array Uw}{Q:Uw->Ae->Prop}(h:QE tup s.heap a xs)(b:Q (.ref s.heap.objs.size) {s with heap:=s.heap.push (zO tup a)}):Uy (Vb prog w) A (Ry (.ref a)) Q E s:=by
 cases tup with
 |true=>exact Ik h b
 |false=>exact Fo h b
def QE.push{tup:Bool}{h:Vg}{a:Ux}{xs:Array Uw}(x:QE tup h a xs)(o:Vi):QE tup (h.push o) a xs:=by
 cases tup with
 |true=>obtain⟨o,e,r⟩:=x;exact⟨o,Ad _ e,r⟩
 |false=>obtain⟨o,e,r⟩:=x;exact⟨o,Ad _ e,r⟩
def jv(c e:Bool)(a b:Ux)(xs ys:Array Uw):Meets (Fi.«zip.__new__» ⟨[.type "zip",.ref a,.ref b],[]⟩) (λ_ R s=>QE c s.heap a xs/\QE e s.heap b ys/\∀h1 h2 i f k,h1=s.heap.push (zO c a)->h2=h1.push (zO e b)->i=h2.push {cls:=.type "tuple",data:=.seq #[.ref s.heap.objs.size,.ref h1.objs.size]}->f=i.push {cls:=.type "tuple",data:=.seq #[.none,.none]}->k=f.push {cls:=.type "zip",data:=.fields #[.none,.bool bd,.bool bd,.ref h2.objs.size,.ref i.objs.size]}->R (.ok (.ret (.ref f.objs.size))) {s with heap:=k}):=by
 refine .of_wp λprog w A R s h=>?_;obtain⟨j,g,d,tk,os⟩:=s;obtain⟨m,l,h⟩:=h;have n:=sub_zip;have k1:QE c (Sf ⟨j,g,d,tk,os⟩) a xs:=m;have k2:QE e (Sf ⟨j.push (zO c a),g,d,tk,os⟩) b ys:=QE.push l _;wp_walk using Xm k1,Xm k2
 exact⟨_,rfl,h _ _ _ _ _ rfl rfl rfl rfl rfl⟩
def eK{prog:Aw}{w:Ve}{A:Bw}{E:Uw->Ae->Prop}{s:Ae}{f e:Bool}{a b:Ux}{xs ys:Array Uw}{Q:Uw->Ae->Prop}(K:QE f s.heap a xs)(J:QE e s.heap b ys)(h:∀h',ZSt f e h' (s.heap.objs.size+4) (s.heap.objs.size+2) (s.heap.objs.size+3) s.heap.objs.size (s.heap.objs.size+1) a b 0 .none->(∀c o,s.heap.get? c=ba o->h'.get? c=ba o)->Q (.ref (s.heap.objs.size+4)) {s with heap:=h'}):Uy (Vb prog w) A (call (.type "zip") [.ref a,.ref b]) Q E s:=by
 refine callType_new F.called_zip (by decide) (F.typeCall_zip_2 _ _) (F.newCall_zip_2 _ _) (λobj=>F.args_object_init_3 obj _ _) F.entry_zip_new (jv f e a b xs ys) ⟨K,J,?_⟩;rintro h1 h2 g n d u t r p H;have k:h1.objs.size=s.heap.objs.size+1:=by rw[u,Ef]
 have j:h2.objs.size=s.heap.objs.size+2:=by rw[t,Ef,k]
 have i:g.objs.size=s.heap.objs.size+3:=by rw[r,Ef,j]
 have v:n.objs.size=s.heap.objs.size+4:=by rw[p,Ef,i]
 have x:∀c o,n.get? c=ba o->d.get? c=ba o:=λc o q=>by rw[H];exact Ad _ q
 have y:∀c o,g.get? c=ba o->d.get? c=ba o:=λc o q=>x c o (by rw[p];exact Ad _ q);have z:∀c o,h2.get? c=ba o->d.get? c=ba o:=λc o q=>y c o (by rw[r];exact Ad _ q);have B:∀c o,h1.get? c=ba o->d.get? c=ba o:=λc o q=>z c o (by rw[t];exact Ad _ q);have I:∀c o,s.heap.get? c=ba o->d.get? c=ba o:=λc o q=>B c o (by rw[u];exact Ad _ q);have l:d.get? n.objs.size=ba {cls:=.type "zip",data:=.fields #[.none,.bool bd,.bool bd,.ref h2.objs.size,.ref g.objs.size]}:=by rw[H];exact Aj _ rfl
 have C:d.get? g.objs.size=ba {cls:=.type "tuple",data:=.seq #[.none,.none]}:=x _ _ (by rw[p];exact Aj _ rfl);have D:d.get? h2.objs.size=ba {cls:=.type "tuple",data:=.seq #[.ref s.heap.objs.size,.ref h1.objs.size]}:=y _ _ (by rw[r];exact Aj _ rfl);have m:d.get? h1.objs.size=ba (zO e b):=z _ _ (by rw[t];exact Aj _ rfl);have G:d.get? s.heap.objs.size=ba (zO f a):=B _ _ (by rw[u];exact Aj _ rfl);show _/\_;rw[j,i,v]at l;rw[i]at C;rw[k,j]at D;rw[k]at m;rw[v];refine⟨⟨_,l,rfl⟩,h _ ⟨l,D,⟨_,_,C⟩,?_,?_⟩ I⟩
 ·cases f with
  |true=>exact⟨_,G,rfl,rfl⟩
  |false=>exact⟨_,G,rfl,rfl⟩
 ·cases e with
  |true=>exact⟨_,m,rfl,rfl⟩
  |false=>exact⟨_,m,rfl,rfl⟩
def jm(n a b:Nat)(d:a<n)(c:b<n):Nv (n+4) (n+2) (n+3) n (n+1) a b:=by
 have f:∀x y:Nat,x<y∨y<x->x≠y:=λx y h=>by lia
 exact⟨f _ _ (by lia),f _ _ (by lia),f _ _ (by lia),f _ _ (by lia),f _ _ (by lia),f _ _ (by lia),f _ _ (by lia),f _ _ (by lia),f _ _ (by lia),f _ _ (by lia),f _ _ (by lia),f _ _ (by lia),f _ _ (by lia),f _ _ (by lia),f _ _ (by lia),f _ _ (by lia),f _ _ (by lia),f _ _ (by lia)⟩
def Itz(K:Ah)(d c:Bool)(a b:Ux):It:=
  ⟨λi H=>∃xs ys x y,JA K d H a xs/\JA K c H b ys/\xs[i]?=ba x/\ys[i]?=ba y,λi H v H'=>∃p x y,(∀xs,JA K d H a xs->xs[i]?=ba x)/\(∀ys,JA K c H b ys->ys[i]?=ba y)/\H p=bb/\H'=upd H p (.tup [x,y])/\v=.ref p,λi H=>∃xs ys,JA K d H a xs/\JA K c H b ys/\(xs.length<=i∨ys.length<=i)⟩
def pK{P:Aw}{w:Ve}{K:Ah}{es:List Vc}{k:Nat}{pos:Pos}(C B:Bool)(z p q l j a b:Ux)(D:Nv z p q l j a b):
  GY P w K (.Tuple es k pos) (Itz K C B a b) [z,p,q,l,j] z (λi h=>ZSt C B h z p q l j a b i .none) where
 mem:=by simp
 obj:=λi h st c hc=>by
  simp only[Ak,Be,or_false]at hc;rcases hc with rfl|rfl|rfl|rfl|rfl
  ·exact⟨_,st.zip,λv e=>by cases e⟩
  ·exact⟨_,st.its,λv e=>by cases e⟩
  ·obtain⟨u,v,g⟩:=st.res
   exact⟨_,g,λv e=>by cases e⟩
  ·exact st.one.obj
  ·exact st.two.obj
 keep:=λi h h' st kk=>by obtain⟨u,v,g⟩:=st.res;exact⟨kk z (by simp) _ st.zip,kk p (by simp) _ st.its,⟨u,v,kk q (by simp) _ g⟩,st.one.at λo e=>kk l (by simp) o e,st.two.at λo e=>kk j (by simp) o e⟩
 item:=by
  intro X O hw Q hc i aa s σ H E I t st M;subst O hw Q;obtain⟨xs,ys,x,y,n,m,V,U⟩:=M;obtain⟨T,J,S,_⟩:=I.srcA n;obtain⟨vs,G,R,_⟩:=I.srcA m;obtain⟨u,hu,ru⟩:=J.get V;obtain⟨v,hv,rv⟩:=G.get U;refine DA D st S R (by simpa using hu) (by simpa using hv) λh1 f hp hsz L=>⟨_,rfl,?_⟩;refine wpAny_letOwnedTupleGo_zip (s:={s with heap:=h1}) f.zip λh2 W F=>?_;have F:Fn z h1 h2:=F;have lt:∀c∈[z,p,q,l,j],c<s.heap.objs.size:=λc hc=>by
   simp only[Ak,Be,or_false]at hc;rcases hc with rfl|rfl|rfl|rfl|rfl
   ·exact An st.zip
   ·exact An st.its
   ·obtain⟨u,v,g⟩:=st.res
    exact An g
   ·obtain⟨o,e,_⟩:=st.one.obj
    exact An e
   ·obtain⟨o,e,_⟩:=st.two.obj
    exact An e
  have r:∀c o,c≠z->h1.get? c=ba o->h2.get? c=ba o:=λc o N e=>(F.2 c N).trans e;have d:ZSt C B h2 z p q l j a b (i+1) .none:=by obtain⟨Z,Y,g⟩:=f.res;exact⟨W,r _ _ D.TIz f.its,⟨Z,Y,r _ _ D.TOz g⟩,f.one.at λo e=>r _ o D.i1z e,f.two.at λo e=>r _ o D.i2z e⟩
  have d6:h2.get? s.heap.objs.size=ba {cls:=.type "tuple",data:=.seq #[u,v]}:=r _ _ (Ic (lt z (by simp))) hp;have bz:H s.heap.objs.size=bb:=I.hok.fresh (Am _);have I0:cF X aa σ (upd H s.heap.objs.size (.tup [x,y])) {s with heap:=s.heap.push {cls:=.type "tuple",data:=.seq #[u,v]},toks:=s.toks}:=
   I.laid (λc o e=>Ad _ e) (Am _) ⟨by show 2<=sizeLine;decide,[u,v],.cons ru (.cons rv .nil),Ko _ _⟩
  have I1:cF X aa σ (upd H s.heap.objs.size (.tup [x,y])) {s with heap:=h2,toks:=s.toks}:=by
   refine cF.turnedL (s:={s with heap:=s.heap.push {cls:=.type "tuple",data:=.seq #[u,v]},toks:=s.toks}) (h':=h2) (t':=s.toks) (fp:=[z,p,q,l,j]) I0 (λc o hc e=>?_) (λc hc=>?_) λc hc=>⟨by rw[bV (Bb (lt c hc))];exact(t c hc).1,(t c hc).2⟩
   ·by_cases A:c=s.heap.objs.size
    ·subst A
     have e:(s.heap.push {cls:=.type "tuple",data:=.seq #[u,v]}).get? s.heap.objs.size=ba o:=e;rw[Aj _ rfl]at e;cases e;exact d6
    ·have e':=(Jm _ _ _ A).symm.trans e
     exact r c o (λw=>hc (by simp[w])) (L c o (λw=>hc (by simp[w])) (λw=>hc (by simp[w])) (λw=>hc (by simp[w])) (λw=>hc (by simp[w])) e')
   ·simp only[Ak,Be,or_false]at hc
    rcases hc with rfl|rfl|rfl|rfl|rfl
    ·exact⟨_,d.zip⟩
    ·exact⟨_,d.its⟩
    ·obtain⟨u,v,g⟩:=d.res
     exact⟨_,g⟩
    ·obtain⟨o,e,_⟩:=d.one.obj
     exact⟨o,e⟩
    ·obtain⟨o,e,_⟩:=d.two.obj
     exact⟨o,e⟩
  exact⟨.ref s.heap.objs.size,_,I1,rfl,⟨_,x,y,λzs hz=>by rw[I.sq_inj hz n];exact V,λzs hz=>by rw[I.sq_inj hz m];exact U,bz,rfl,rfl⟩,d,λc hc=>by rw[bV (Bb (lt c hc))];exact(t c hc).1⟩
 done:=by
  intro X O hw Q hc i aa s σ H E I t st M;subst O hw Q;obtain⟨xs,ys,n,m,dw⟩:=M;obtain⟨T,J,S,_⟩:=I.srcA n;obtain⟨vs,G,R,_⟩:=I.srcA m;have l1:=J.length;have l2:=G.length;have he:T.toArray[i]?=bb∨vs.toArray[i]?=bb:=by
   rcases dw with z|z
   ·exact .inl (by simp;lia)
   ·exact .inr (by simp;lia)
  refine oY (I.ok.hd hc) D st S R he λh1 L=>⟨rfl,?_⟩;have fq:∀c∈[z,q,l,j],c∈[z,p,q,l,j]:=λc hc=>by simp only[Ak,Be,or_false]at hc⊢;rcases hc with w|w|w|w<;>simp[w]
  have I':=cF.turnedL' (s:=s) (h':=h1) (t':=s.toks) (fp:=[z,q,l,j]) I (λc o hc e=>L c o (λw=>hc (by simp[w])) (λw=>hc (by simp[w])) (λw=>hc (by simp[w])) (λw=>hc (by simp[w])) e) λc hc=>t c (fq c hc);exact I'
 self:=λ_ i _ _ _ st h=>wpAny_pyIter_zip st.zip h
section
variable{X:Cx}{K:Ah}{ml:List Nat}{l m:Vc}{pa ta ia pb tb ib:Bool}{f g:VF}{p pos cq:Pos}{es:List Vc}{tk:Nat}{δ:Ev}
def iZp(K:Ah)(tl tm:TE):TI:=λσ H R=>tl σ H λx H1=>tm σ H1 λy H2=>∃a b d c,x=.ref a/\y=.ref b/\(∃xs,JA K d H2 a xs)/\(∃ys,JA K c H2 b ys)/\R (Itz K d c a b) H2
def nw{tl tm:TE}(F:Gl X "zip")(E:X.mg "zip"=bb)(hl:PE X l tl)(C:PE X m tm)(q:SE X l [m]:=by rfl)(o:SE X m []:=by rfl)(n:(Em pos (Uz [m] X.env)).any (·.1)=bd:=by rfl):PI X (.Tuple es tk cq) (.Call (.Name "zip" p) [l,m] [] pos) (iZp X.K tl tm):=by
 intro aa s σ H R I h;refine Ds (WR I F E jN ?_ (by decide) (by decide));refine Cj (ZH (bN hl (bN C aD o) q pos aa s σ H (λvs H1=>match vs with
  |[x,y]=>∃a b e d,x=.ref a/\y=.ref b/\(∃xs,JA X.K e H1 a xs)/\(∃ys,JA X.K d H1 b ys)/\R (Itz X.K e d a b) H1
  |_=>False) I h) λz s1 ⟨vs,H1,g,i,q1⟩=>?_) q n
 match vs,i,q1 with
 |[x,y],i,q1=>
  obtain⟨a,b,e,d,rfl,rfl,⟨xs,k⟩,⟨ys,j⟩,L⟩:=q1;obtain⟨u,v,rfl,B,A⟩:=F8 i;cases B;cases A;obtain⟨z,O,t,_⟩:=g.srcA k;obtain⟨vs,N,r,_⟩:=g.srcA j;refine eK t r λh' st kp=>?_;have M:cF X aa σ H1 {s1 with heap:=h'}:=g.kept (t':=s1.toks) kp;have J:=t.lt;have G:=r.lt;have D:Nv (s1.heap.objs.size+4) (s1.heap.objs.size+2) (s1.heap.objs.size+3) s1.heap.objs.size (s1.heap.objs.size+1) a b:=by exact jm _ a b J G
  refine wpAny_pyIter_zip st.zip ⟨s1.heap.objs.size+4,[s1.heap.objs.size+4,s1.heap.objs.size+2,s1.heap.objs.size+3,s1.heap.objs.size,s1.heap.objs.size+1],_,Itz X.K e d a b,H1,rfl,M,pK e d _ _ _ _ _ a b D,st,λc hc=>?_,L⟩;have f:s1.heap.objs.size<=c:=by simp only[Ak,Be,or_false]at hc;rcases hc with w|w|w|w|w<;>rw[w]<;>first|exact Nat.le_add_right _ _|exact Am _
  exact g.fpOk f (g.hok.fresh f)
def fR(h:X.K=K){tl tm:TE}(e:Gl X "zip")(d:X.mg "zip"=bb)(hl:PE X l tl)(c:PE X m tm)(f:SE X l [m]:=by rfl)(b:SE X m []:=by rfl)(a:(Em pos (Uz [m] X.env)).any (·.1)=bd:=by rfl):PI X (.Tuple es tk cq) (.Call (.Name "zip" p) [l,m] [] pos) (iZp K tl tm):=by subst h;exact nw e d hl c f b a
noncomputable def SU:List cV->List cV->List cV
 |d::ds,e::es=>.tup [d,e]::SU ds es
 |_,_=>[]
def iZip(f g:VF):VI:=λδ=>(f δ).bind λp=>(g p.2).bind λq=>(XG p.1).bind λds=>(XG q.1).map λes=>(SU ds es,q.2)
theorem GN:∀{ds es:List cV}{i:Nat}{d:cV},(SU ds es)[i]?=ba d->∃x y,ds[i]?=ba x/\es[i]?=ba y/\d=.tup [x,y]
 |[],_,_,_,h=>by simp[SU]at h
 |_::_,[],_,_,h=>by simp[SU]at h
 |x::ds,y::es,0,d,h=>by simp[SU]at h;exact⟨x,y,rfl,rfl,h.symm⟩
 |x::ds,y::es,i+1,d,h=>by obtain⟨b,a,h1,h2,c⟩:=GN (ds:=ds) (es:=es) (i:=i) (d:=d) (by simpa[SU]using h);exact⟨b,a,by simpa using h1,by simpa using h2,c⟩
theorem GO:∀{ds es:List cV},ds.length<=(SU ds es).length∨es.length<=(SU ds es).length
 |[],_=>.inl (Df _)
 |_::_,[]=>.inr (Df _)
 |x::ds,y::es=>by
  rcases GO (ds:=ds) (es:=es)with h|h
  ·exact .inl (Rk h)
  ·exact .inr (Rk h)
def iA:cV->Bool
 |.tup _=>bc
 |_=>bd
def bC.sqA{N M:Ux->Prop}{H:Hp}{v:V}{d:cV}{ds:List cV}(h:bC K N H M v d)(e:XG d=ba ds):∃a tup xs,v=.ref a/\JA K tup H a xs/\bZ K N H xs ds/\tup=iA d:=by
  cases d<;>first
    | (cases e
       obtain⟨a,xs,h1,h2,b⟩:=h.tupE;exact⟨a,bc,xs,h1,h2,b,rfl⟩)
    | (cases e
       obtain⟨a,xs,h1,h2,b⟩:=h.lstE;exact⟨a,bd,xs,h1,h2,b,rfl⟩)
    |cases e
def D2(hK:X.K=K)(hg:Gl X "zip")(hm:X.mg "zip"=bb)(h:PE X l (TV K ml pa bc bc f))(h':PE X m (TV K ml pb bc bc g))(he:SE X l [m]:=by rfl)(E:SE X m []:=by rfl)
  (C:(Em pos (Uz [m] X.env)).any (·.1)=bd:=by rfl):PI X (.Tuple es tk cq) (.Call (.Name "zip" p) [l,m] [] pos) (EB K ml (pa&&pb) (iZip f g)):=(fR (K:=K) hK hg hm h h' he E C).imp λσ H R A=>by
 obtain⟨B,O,δ,ds,δ2,S,q,k⟩:=A;unfold iZip at q;obtain⟨⟨x,δ1⟩,h1,q⟩:=Ac.mp q;cases h2:g δ1 with
 |none=>simp[h2]at q
 |some p2=>
  obtain⟨y,r⟩:=p2;simp only[Av,h2]at q;obtain⟨xs,Q,q⟩:=Ac.mp q;have q:(XG y).map (λes=>(SU xs es,r))=ba (ds,δ2):=q;obtain⟨ys,P,q⟩:=Ao.mp q;cases q;refine⟨B,O,δ,x,δ1,S,h1,λt H1 o=>⟨B,O,δ1,y,_,o.sta,h2,λs H2 R2=>?_⟩⟩;have M:=o.rep.fr R2.frm (λa z=>.inr z) λa z=>.inr z;obtain⟨a,L,us,W,q1,w1,I⟩:=M.sqA Q;obtain⟨b,J,vs,V,q2,w2,G⟩:=R2.rep.sqA P;refine⟨a,b,L,J,W,V,⟨us,q1⟩,⟨vs,q2⟩,k _ [(t,x),(s,y)] H2 (R2.sta.keepV λz hz=>?_) (o.frm.trans R2.frm) (λz=>?_) ?_⟩
  ·simp only[Ak,Be,or_false]at hz
   rcases hz with rfl|rfl
   ·exact M
   ·exact R2.rep
  ·obtain⟨z1,z2⟩:=(Af _ _).mp z
   exact(o.pur z1).trans (R2.pur z2)
  ·intro N H h
   obtain⟨a',v,j,f1,f2,f3,f4⟩:=(h (t,x) (by simp)).sqA Q;obtain⟨b',u,c,n,F,T,g4⟩:=(h (s,y) (by simp)).sqA P;have f1:t=.ref a':=f1;have n:s=.ref b':=n;rw[W]at f1;rw[V]at n;cases f1;cases n;have:v=L:=f4.trans I.symm
   subst this;have:u=J:=g4.trans G.symm
   subst this;refine⟨λi d e=>?_,j,c,f2,F,?_⟩
   ·obtain⟨dx,dy,hx,hy,rfl⟩:=GN e
    obtain⟨ux,ex,rx⟩:=f3.get hx;obtain⟨uy,U,ry⟩:=T.get hy;refine⟨⟨j,c,ux,uy,f2,F,ex,U⟩,λz H' hz=>?_⟩;obtain⟨pp,x',y',c1,c2,D,rfl,rfl⟩:=hz;have Z:=c1 j f2;have Y:=c2 c F;rw[ex]at Z;rw[U]at Y;cases Z;cases Y;exact⟨cM D,.tup (WN.of b9) (.cons (rx.same (cM D)) (.cons (ry.same (cM D)) .nil))⟩
   ·rcases GO (ds:=xs) (es:=ys)with w|w
    ·exact .inl (by rw[f3.length];exact w)
    ·exact .inr (by rw[T.length];exact w)
end
end L2
namespace L2
open PySem PySem.Spec PyProof.Rows PySem.W
section
variable{prog:Aw}{w:Ve}{A:Bw}{E:Uw->Ae->Prop}{s:Ae}
def DU{t:Ux}{items:Array Uw}{Q:List Uw->Ae->Prop}(n:A.handled=bb)(f:IsTup s.heap t items)(h1:1<=items.size)(hz:items.size<=16777216)(p:∀(x:Uw) (c:Vg) (tk:Nat),items[0]?=ba x->(∀b o,s.heap.get? b=ba o->c.get? b=ba o)->Q [x,.ref c.objs.size] {s with heap:=c.push {cls:=.type "list",data:=.seq (items.toList.drop 1).toArray},toks:=tk}):Uy (Vb prog w) A (Kn (.ref t) 2 (ba 1)) Q E s:=by
 have a:t≠s.heap.objs.size:=by obtain⟨o,e,_⟩:=f;exact Bb (An e)
 (unfold Kn)
 refine Aa ?_
 (unfold notIterableAtAll)
 refine Aa (Iq f.typeIs slot_tuple_iter.lookup (Ag ?_));simp only[Fg,if_false];refine Aa (Bv (iter_tuple f (Aa (Bv (draw_tuple a 1 0 _ _ ⟨_,Aj _ rfl,rfl,rfl⟩ (f.push _) (by lia) λg ia h=>?_)))));have ta:IsTup g t items:=(f.push _).extBut h.extBut a;have ia:g.IsTupleIter s.heap.objs.size t 1:=ia;obtain⟨F,v,_⟩:=id ia;obtain⟨D,q,_⟩:=id ta;have hsz:g.objs.size=s.heap.objs.size+1:=by rw[h.1,Ef]
 have m:((items.toList.drop 0).take 1).length=1:=by simp;lia
 rw[if_neg (show¬((items.toList.drop 0).take 1).length<1 by rw[m];exact Cq _)];refine Aa (Bv (kun_collect (s:={s with heap:=g}) (T:= "tuple_iterator") (.inr (.inr (.inr rfl))) (Walks.tuple (A:=A.in1) n s.heap.objs.size t a items) (λj u st=>st.1.typeIs) (k:=1) h1 ⟨ia,ta⟩ (An v) (An q) (λc tk l=>?_) (by rw[Cf];exact hz)));have G:(items.toList.drop 1).length=items.size-1:=by simp
 show Uy _ _ (if(items.toList.drop 1).length<2-1-1 then _ else _) _ _ _;rw[if_neg (No _)];show Uy _ _ (newList ((items.toList.drop 1).take ((items.toList.drop 1).length-(2-1-1)))>>=λd=>pure ((items.toList.drop 0).take 1++[d]++(items.toList.drop 1).drop ((items.toList.drop 1).length-(2-1-1)))) _ _ _;have C:(items.toList.drop 1).take ((items.toList.drop 1).length-(2-1-1))=items.toList.drop 1:=Cu (Am _);have B:(items.toList.drop 1).drop ((items.toList.drop 1).length-(2-1-1))=[]:=Fw;rw[C,B];refine Aa (Cc (Ag ?_) (by show _<=sizeLine;rw[Cf];simp;lia));obtain⟨x,i⟩:∃x,items[0]?=ba x:=⟨items[0],by simp[show 0<items.size by lia]⟩;have z:(items.toList.drop 0).take 1=[x]:=by
  rw[Of];have:items.toList[0]?=ba x:=by simpa using i
  cases hl:items.toList with
  |nil=>rw[hl]at this;cases this
  |cons y r=>rw[hl]at this;cases this;rfl
 rw[z];have keep:∀b o,s.heap.get? b=ba o->c.get? b=ba o:=λb o e=>l b o (Bb (An e)) (h.extBut b o (Bb (An e)) (Ad _ e));exact p x c tk i keep
end
section
variable{X:Cx}{K:Ah}{ml:List Nat}{e a b c:Vc}{es:List Vc}{pa ta ia pb tb ib pc tc ic pu bt bi ps bs:Bool}{fa fb fc f:VF}{B B':Bs}{O:Nat->Option Ux}{H H0 H1 H':Hp}{σ:St}{δ δ':Ev}{v:V}{d:cV}{p:Ux}{pos:Pos}
def oa(K:Ah)(i j:Nat):TG:=λv σ H Q=>∃a x xs,v=.ref a/\WN K H a (x::xs)/\∀p,H p=bb->Q ((σ.set i (ba x)).set j (ba (.ref p))) (upd H p (.lst xs))
def nY{i j:Nat}{x y:Va}{c py ps p:Pos}{k:Nat}(hc:X.calm=bc)(n:X.N.Nodup)(hi:X.N[i]?=ba x)(E:X.N[j]?=ba y)(A:Loc X.env.scope x)(t:Loc X.env.scope y)(fx:X.fn x=bc∨X.env.scope.names.lookup x=ba .local)(F:X.fn y=bc∨X.env.scope.names.lookup y=ba .local)(hl:(Vf [.Name x c,.Starred (.Name y py) ps] X.env).map (·.2)=[Hs (.Name x c) X.env,Hs (.Name y py) X.env])(D:(Vf [.Name x c,.Starred (.Name y py) ps] X.env).length=2)(g:(Vf [.Name x c,.Starred (.Name y py) ps] X.env).findIdx? (·.1)=ba 1):PG X (.Tuple [.Name x c,.Starred (.Name y py) ps] k p) (oa X.K i j):=by
 intro aa s σ H v u Q I r hw;obtain⟨a,z,zs,G,C,q⟩:=hw;subst G;cases r;obtain⟨e,m,B,hz⟩:=I.tuple C;rw[assign_Tuple];refine Aa (Fm ?_)
 (unfold unpack)
 rw[D,g];have l:=m.length;rw[Bu]at l;have d:e.length<=16777216:=by rw[<-Cf,<-l];exact hz
 refine Aa (Bv (DU (I.ok.hd hc) B (by rw[Aq];lia) (by rw[Aq];exact d) λu h tk f kp=>?_));rw[hl];cases m with
 | @cons _ w _ O rz b=>
  have f:ba w=ba u:=by simpa using f
  cases f;have o:cF X aa σ H {s with heap:=h,toks:=tk}:=I.kept kp;have M:=cF.lnew (s:={s with heap:=h,toks:=tk}) (t':=tk) o b (by rw[Cf];simp only[Bu]at d l;have:=b.length;lia);refine Eo (Jh (YU M n hi A rz (λs3 L=>?_) fx));refine Eo (Jh (YU L n E t (v:=.ref h.objs.size) rfl (λs4 J=>Ji ⟨_,_,J,q _ (o.hok.fresh (Am _))⟩) F))
noncomputable def K2(i j:Nat)(f:VF):VS:=λδ=>(f δ).bind λp=>match p.1 with
 |.tup (d::ds)=>ba (.nx ((p.2.set i (.va d)).set j (.va (.lst ds))))
 |_=>bb
def CG{i j:Nat}{x y:Va}{b py sp g:Pos}{k:Nat}(P:X.K=K)(hc:X.calm=bc)(M:X.N.Nodup)(hi:X.N[i]?=ba x)(I:X.N[j]?=ba y)(J:i≠j)(E:Loc X.env.scope x)(C:Loc X.env.scope y)(L:PE X e (TV K ml pu bc bc f))(s:i∉ml:=by decide)(n:j∉ml:=by decide)(fx:LO X x:=by first|exact .inl rfl|exact .inr rfl|assumption)(Q:LO X y:=by first|exact .inl rfl|exact .inr rfl|assumption)(hl:(Vf [.Name x b,.Starred (.Name y py) sp] X.env).map (·.2)=[Hs (.Name x b) X.env,Hs (.Name y py) X.env]:=by rfl)(G:(Vf [.Name x b,.Starred (.Name y py) sp] X.env).length=2:=by rfl)(l:(Vf [.Name x b,.Starred (.Name y py) sp] X.env).findIdx? (·.1)=ba 1:=by rfl)(F:Gv [.Tuple [.Name x b,.Starred (.Name y py) sp] k g] e pos.line X.env=pure bd:=by rfl)(hw:Gw [.Tuple [.Name x b,.Starred (.Name y py) sp] k g] e X.env=pure bb:=by rfl)(h1:(Vf [.Tuple [.Name x b,.Starred (.Name y py) sp] k g] X.env).map (·.2)=[Hs (.Tuple [.Name x b,.Starred (.Name y py) sp] k g) X.env]:=by rfl):PS X (.Assign [.Tuple [.Name x b,.Starred (.Name y py) sp] k g] e pos) (WL K ml (K2 i j f)):=by
 subst P;refine(DM L (nY hc M hi I E C fx Q hl G l) F hw h1).imp λD σ H m=>?_;obtain⟨B,O,δ,o,S,q,k⟩:=m;unfold K2 at q;obtain⟨⟨z,δ1⟩,h1,q⟩:=Ac.mp q;refine⟨B,O,δ,z,δ1,S,h1,λv H1 R=>?_⟩;cases z with
 |tup ds=>
  cases ds with
  |nil=>cases q
  |cons d ds=>
   cases q;obtain⟨a,xs,rfl,sq,r⟩:=R.rep.tupE;cases r with
   | @cons u vs _ _ A w=>
    refine⟨a,u,vs,rfl,sq,λp h=>?_⟩;have T:=(R.sta.same (cM (o:=.lst vs) h)).setVa s (A.same (cM (o:=.lst vs) h));have t:∀c,Nn B (λj=>if j=i then bb else O j) c->Nn B O c:=OR (o:=bb);refine k _ _ _ (T.setVa n (.lst b9 (λz=>R.sta.new h (t _ z)) ((w.same (cM h)).mono t)))
 |_=>cases q
end
end L2
namespace L2
open PySem PySem.Spec PyProof.Rows
section
variable{X:Cx}{K:Ah}{ml:List Nat}{e a b c:Vc}{es:List Vc}{pa ta ia pb tb ib pc tc ic pu bt bi ps bs:Bool}{fa fb fc f:VF}{B B':Bs}{O:Nat->Option Ux}{H H0 H1 H':Hp}{σ:St}{δ δ':Ev}{v:V}{d:cV}{p:Ux}{pos:Pos}
def rInD(K:Ah)(neg:Bool):R2:=λx y H Q=>∃d e ds,Dp K H x d/\Dp K H y e/\(e=.list ds∨e=.tuple ds)/\Fd d=bc/\Fd e=bc/\Q (.bl (if neg then !ds.any (λz=>Kf z d)else ds.any λz=>Kf z d)) H
def Q9{d:Oe}(h:Fd d=bc):d.canLay0=bc/\d.depth<=64:=by unfold Fd at h;simp only[Af,decide_eq_true_eq]at h;exact h
def Ye(neg:Bool)(t:X.A.units+64<cLine):WZ X (Dr (if neg then .NotIn else .In)) (rInD X.K neg):=by
 intro aa s σ H x y v u Q I n m h;obtain⟨d,e,ds,p,o,f,l,j,q⟩:=h;obtain⟨as,h1⟩:=I.reads p n;obtain⟨bs,h2⟩:=I.reads o m;obtain⟨c,w⟩:=Q9 l;obtain⟨i,g⟩:=Q9 j;have a:∀k,(k=if neg then !ds.any (λz=>Kf z d)else ds.any λz=>Kf z d)->EP X aa σ Q (.bool k) s:=λk f=>by subst f;exact⟨.bl _,H,I,rfl,q⟩
 rcases f with rfl|rfl
 ·have hc : Jp ds = bc := by simpa [Hd]using i
  have r:Fp ds<=63:=by simp only[Jy]at g;lia
  have b:X.A.units+1+min (Fp ds) d.depth<cLine:=by have:=Sh (Fp ds) d.depth;lia
  cases neg with
  |false=>exact SeqAt.in_list_reads h2 h1 hc c b (a _ rfl)
  |true=>exact SeqAt.notIn_list_reads h2 h1 hc c b (a _ rfl)
 ·have hc : Jp ds = bc := by simpa [Hd]using i
  have r:Fp ds<=63:=by simp only[Jy]at g;lia
  have b:X.A.units+1+min (Fp ds) d.depth<cLine:=by have:=Sh (Fp ds) d.depth;lia
  cases neg with
  |false=>exact SeqAt.in_tuple_reads h2 h1 hc c b (a _ rfl)
  |true=>exact SeqAt.notIn_tuple_reads h2 h1 hc c b (a _ rfl)
def V2(a:X.A.units+64<cLine)(h:X.K=K:=by rfl):WZ X (Dr .In) (rInD K bd):=by subst h;exact Ye bd a
def TD(a:X.A.units+64<cLine)(h:X.K=K:=by rfl):WZ X (Dr .NotIn) (rInD K bc):=by subst h;exact Ye bc a
def JW(d:cV)(ds:List cV):Bool:=(pds ds).any λz=>Kf z d.pd
def Z4(neg:Bool)(d e:cV):Option cV:=(XG e).bind λds=>if(KI d&&KI e)=bc then ba (.bl (if neg then !JW d ds else JW d ds))else bb
def ZI{neg:Bool}:OB K (rInD K neg) (Z4 neg):=by
 intro H N N' M M' x y d e c Q g f h k;unfold Z4 at h;obtain⟨ds,b,h⟩:=Ac.mp h;have h:(if(KI d&&KI e)=bc then ba (cV.bl (if neg then !JW d ds else JW d ds))else bb)=ba c:=h;split at h
 ·rename_i a
  cases h;simp only[KI,Af]at a;refine⟨d.pd,e.pd,pds ds,g.dp a.1.1,f.dp a.2.1,?_,a.1.2,a.2.2,k _ λ_ _ _=>.bl _⟩;cases e<;>first
   |(cases b;exact .inr rfl)
   |(cases b;exact .inl rfl)
   |cases b
 ·cases h
def pS(K:Ah)(td ty:TE):TE:=λσ H Q=>td σ H λx H1=>∃a,x=.ref a/\((IsD H1 a/\ty σ H1 λy H2=>∃o,OW H2 a y o/\Q (o.getD .non) H2)∨∃D,KTab K a D/\ty σ H1 λy H2=>∃k,y=.str k/\Q ((Gd k D).getD .non) H2)
def gR{aj af:Pos}{td ty:TE}(F:X.A.units+1<cLine)(G:PE X a td)(p:PE X e ty)(m:M1 X a "get" aj e af):PE X (.Call (.Attribute a "get" aj) [e] [] af) (pS X.K td ty):=by
 intro aa s σ H Q I h;refine Qc m.base m.few m.line Mk Ek Nj (ZH (G aa s σ H _ I h) λu s1 ⟨x,H1,d,z,l,ex,q1⟩=>?_);subst ex;obtain rfl:u=Br l:=z;rcases q1 with⟨L,q1⟩|⟨D,T,q1⟩
 ·obtain⟨w,v,_⟩:=Zg d L
  refine⟨w,v,?_⟩;rw[m.trees];refine Hh rfl (Ge (Fe (ZH (p aa s1 σ H1 _ d q1) λB f ⟨y,H2,c,i,S,g,q2⟩=>Gh ?_)));exact ls F c g i λR s3 P j=>⟨_,H2,P,j,q2⟩
 ·obtain⟨C,o,U,ep,n,hex,V,_⟩:=id T
  refine⟨⟨o,d.kIn _ _ n,hex.1⟩,λb q=>?_,?_⟩
  ·cases q
   exact⟨o,d.kIn _ _ n,hex.2.1⟩
  rw[m.trees];refine Hh rfl (Ge (Fe (ZH (p aa s1 σ H1 _ d q1) λB f ⟨y,H2,c,i,k,O,q2⟩=>Gh ?_)));subst O;obtain⟨t,rfl⟩:=i;have N:f.TypeIs (.ref l) "dict":=⟨o,c.kIn _ _ n,hex.1⟩;refine Dj Ek N Ft ?_ (Ip _ _);show Uy _ _ (dictGet l (.str k t)>>=_) _ _ f;refine Aa (EY c.kIn T (λd' r M E=>Ag ⟨r,rfl,?_⟩) λJ=>?_)
  ·rw[M]at q2
   exact⟨d',H2,c.tok _,E,q2⟩
  ·rw[J]at q2
   show Uy _ _ (Oo l (.str k t)>>=_) _ _ _;unfold Oo;rw[if_neg (by rw[C];exact Cr)];exact Aa (Ag (Ag ⟨.none,rfl,.non,H2,c.tok _,rfl,q2⟩))
def Zf:cV->cV->Option cV
 |.dct ks ds,.str x=>ba ((aV ks ds (.inr x)).getD .non)
 |_,_=>bb
def gA{aj af:Pos}(P:X.K=K)(J:X.A.units+1<cLine)(N:PE X a (TV K ml pa ta ia fa))(M:PE X b (TV K ml pb tb ib fb))(m:M1 X a "get" aj b af)(f:(pb || (ta&&ia))=bc:=by rfl):PE X (.Call (.Attribute a "get" aj) [b] [] af) (TV K ml (pa&&pb) ia ia (f2 Zf fa fb)):=by
 subst P;refine(gR J N M m).imp λσ H Q u=>?_;obtain⟨B,O,δ,d,δ2,S,q,k⟩:=u;obtain⟨x,δ1,y,h1,h2,C⟩:=RL q;refine⟨B,O,δ,x,δ1,S,h1,λR H1 j=>?_⟩;have i:∀p H2 (R2:Res X.K ml B O H1 σ pb tb ib H2 δ2 p y) o,bC X.K (av B O ia) H2 (av B O ia) o d->Q o H2:=λp H2 R2 o L=>k o H2 ⟨R2.sta,j.frm.trans R2.frm,λz=>by obtain⟨h,g⟩:=(Af _ _).mp z;exact(j.pur h).trans (R2.pur g),L.mono (λ_ z=>z) dE⟩
 cases x with
 |dct ks ds=>
  cases y with
  |str z=>
   cases C;have I:=j.rep;cases I.onD with
   | @dct l kvs t n r F=>
    subst F;refine⟨l,rfl,.inl ⟨.inl ⟨_,.inl t⟩,B,O,δ1,_,δ2,j.sta,h2,λp H2 R2=>?_⟩⟩;have s:=R2.rep;cases s.onS;have G:H2 l=ba (.dK kvs)/\bZ X.K (av B O ia) H2 (kvs.map Er) ds:=by
     cases pb with
     |true=>exact⟨R2.pur rfl _ _ t,r.same (R2.pur rfl)⟩
     |false=>
      have f:(ta&&ia)=bc:=by simpa using f
      obtain⟨h,g⟩:=(Af _ _).mp f;subst h g;exact⟨R2.frm _ _ t λw=>absurd (.inr w) n,r.fr R2.frm λa z=>.inr z⟩
    refine⟨_,OW.k (k:=.inr z) G.1,i _ _ R2 _ ?_⟩;rcases QY (k:=.inr z) G.2 with⟨v,d',e,c,E⟩|⟨e,c⟩
    ·rw[e,c];exact E
    ·rw[e,c];exact .non
   | @ktb l D T r F=>
    subst F;refine⟨l,rfl,.inr ⟨D,T,B,O,δ1,_,δ2,j.sta,h2,λp H2 R2=>?_⟩⟩;have s:=R2.rep;cases s.onS;refine⟨z,rfl,i _ _ R2 _ ?_⟩;have r':bZ X.K (av B O ia) H2 (D.map Er) ds:=by
     cases pb with
     |true=>exact r.same (R2.pur rfl)
     |false=>
      have f:(ta&&ia)=bc:=by simpa using f
      obtain⟨h,g⟩:=(Af _ _).mp f;subst h g;exact r.fr R2.frm λa z=>.inr z
    rcases PB (k:=z) r' with⟨v,d',e,c,E⟩|⟨e,c⟩
    ·rw[e,c];exact E
    ·rw[e,c];exact .non
  |_=>cases C
 |_=>cases C
end
def CQ:Bi "all"=ba (.builtin "all"):=by decide+kernel
def lm:Bi "any"=ba (.builtin "any"):=by decide+kernel
def dM:Bi "dict"=ba (.type "dict"):=by decide+kernel
section
variable{X:Cx}{K:Ah}{ml:List Nat}{e a b c:Vc}{es:List Vc}{pa ta ia pb tb ib pc tc ic pu bt bi ps bs:Bool}{fa fb fc f:VF}{B B':Bs}{O:Nat->Option Ux}{H H0 H1 H':Hp}{σ:St}{δ δ':Ev}{v:V}{d:cV}{p:Ux}{pos:Pos}
def mj{ks:List Bool}{a:List Uw}(r:bL (ks.map V.bl) a){i:Nat}{u:Uw}(h:a[i]?=ba u):∃k,ks[i]?=ba k/\u=.bool k:=by
 have hl:=r.length;rw[Ce]at hl;have hi:i<a.length:=(Ai.mp h).1;have e:(ks.map V.bl)[i]?=ba (.bl ks[i]):=by simp[hl▸hi]
 obtain⟨w,h1,h2⟩:=r.get e;rw[h]at h1;cases h1;exact⟨ks[i],by simp[hl▸hi],h2⟩
def jG{ks:List Bool}:(Au ks.length).all (λi=>(ks[i]?).getD bc)=ks.all id:=by
 induction ks with
 |nil=>rfl
 |cons k ks a=>
  rw[Bu,Je,Tt,Uk,Tt,<-a];rfl
def nM{ks:List Bool}:(Au ks.length).any (λi=>(ks[i]?).getD bc)=ks.any id:=by
 induction ks with
 |nil=>rfl
 |cons k ks a=>
  rw[Bu,Je,Ho,List.any_map,Ho,<-a];rfl
def M9(K:Ah)(g:List Bool->Bool):RC:=λxs H Q=>∃p ks,xs=[.ref p]/\X8 K H p (ks.map V.bl)/\Q (.bl (g ks)) H
def F4{prog:Aw}{w:Ve}{A:Bw}{ks:List Bool}{b:List Uw}(r:bL (ks.map V.bl) b):TruthOf prog w A (λi v=>b.toArray[i]?=ba v) λi=>(ks[i]?).getD bc:=by intro i v s Q E c a;obtain⟨k,h1,rfl⟩:=mj r (by simpa using c);have a:Q ((ks[i]?).getD bc) s:=a;rw[h1]at a;exact Ej a
def jx(hc:X.calm=bc):aB X (.builtin "all") (M9 X.K λks=>ks.all id):=by
 intro aa s σ H xs m Q I r h;obtain⟨l,ks,rfl,j,q⟩:=h;obtain⟨u,rfl,f⟩:=U0 r;cases f;obtain⟨a,d,i,hz⟩:=I.list j;have hl:=i.isList;have c:l≠s.heap.objs.size:=by obtain⟨o,g,_⟩:=hl;exact Bb (An g)
 have e:=d.length;rw[Ce]at e;refine call_all_walk (Fo hl ⟨_,_,_,_,_,_,_,rfl,Ti (show X.A.in1.handled=bb from I.ok.hd hc) s.heap.objs.size l c a.toArray,⟨⟨_,Aj _ rfl,rfl,rfl⟩,?_⟩,F4 d,λh' tk k=>?_⟩)
 ·obtain⟨o,g,r⟩:=hl
  exact⟨o,Ad _ g,r⟩
 ·rw[Aq,<- e,jG]
  exact⟨.bl _,H,I.kept (t':=tk) λb o g=>k b o (by simp;exact Bb (An g)) (Ad _ g),rfl,q⟩
def pR(hc:X.calm=bc):aB X (.builtin "any") (M9 X.K λks=>ks.any id):=by
 intro aa s σ H xs m Q I r h;obtain⟨l,ks,rfl,j,q⟩:=h;obtain⟨u,rfl,f⟩:=U0 r;cases f;obtain⟨a,d,i,hz⟩:=I.list j;have hl:=i.isList;have c:l≠s.heap.objs.size:=by obtain⟨o,g,_⟩:=hl;exact Bb (An g)
 have e:=d.length;rw[Ce]at e;refine call_any_walk (Fo hl ⟨_,_,_,_,_,_,_,rfl,Ti (show X.A.in1.handled=bb from I.ok.hd hc) s.heap.objs.size l c a.toArray,⟨⟨_,Aj _ rfl,rfl,rfl⟩,?_⟩,F4 d,λh' tk k=>?_⟩)
 ·obtain⟨o,g,r⟩:=hl
  exact⟨o,Ad _ g,r⟩
 ·rw[Aq,<- e,nM]
  exact⟨.bl _,H,I.kept (t':=tk) λb o g=>k b o (by simp;exact Bb (An g)) (Ad _ g),rfl,q⟩
def kAll(hc:X.calm=bc)(h:X.K=K:=by rfl):aB X (.builtin "all") (M9 K λks=>ks.all id):=by subst h;exact jx hc
def kAny(hc:X.calm=bc)(h:X.K=K:=by rfl):aB X (.builtin "any") (M9 K λks=>ks.any id):=by subst h;exact pR hc
noncomputable def LI:List cV->Option (List Bool)
 |[]=>ba []
 |.bl k::ds=>(LI ds).map λks=>k::ks
 |_=>bb
theorem AF{N:Ux->Prop}:∀{xs:List V}{ds:List cV}{ks:List Bool},bZ K N H xs ds->LI ds=ba ks->xs=ks.map V.bl
 |_,_,_,.nil,h=>by cases h;rfl
 | _,_,_,@bZ.cons _ _ _ v vs d ds h t,e => by
  cases d with
  |bl k=>
   cases h;have e:(LI ds).map (λks=>k::ks)=ba _:=e;cases h2:LI ds with
   |none=>rw[h2]at e;cases e
   |some a=>
    rw[h2]at e;cases e;rw[AF t h2,Bg]
  |_=>cases e
def A6(g:List Bool->Bool):cV->Option cV
 |.lst ds=>(LI ds).map λks=>.bl (g ks)
 |_=>bb
abbrev oAll:=A6 λks=>ks.all id
abbrev oAny:=A6 λks=>ks.any id
def Yn{g:List Bool->Bool}:CalS K (M9 K g) (A6 g):=by
 intro H N M x d c Q b h k;cases d with
 |lst ds=>
  have h:(LI ds).map (λks=>cV.bl (g ks))=ba c:=h;obtain⟨ks,h1,h⟩:=Ao.mp h;cases h;obtain⟨a,xs,rfl,sq,r⟩:=b.lstE;have:=AF r h1
  subst this;exact⟨a,ks,rfl,sq,k _ λ_ _ _=>.bl _⟩
 |_=>cases h
def Ww:CalS K (M9 K λks=>ks.all id) oAll:=Yn
def pH:CalS K (M9 K λks=>ks.any id) oAny:=Yn
noncomputable def UY:List cV->Option (List Int)
 |[]=>ba []
 |.int i::ds=>(UY ds).map λns=>i::ns
 |_=>bb
theorem MS{N:Ux->Prop}:∀{xs:List V}{ds:List cV}{ns:List Int},bZ K N H xs ds->UY ds=ba ns->xs=ns.map V.int
 |_,_,_,.nil,h=>by cases h;rfl
 | _,_,_,@bZ.cons _ _ _ v vs d ds h t,e => by
  cases d with
  |int k=>
   cases h;have e:(UY ds).map (λks=>k::ks)=ba _:=e;cases h2:UY ds with
   |none=>rw[h2]at e;cases e
   |some a=>
    rw[h2]at e;cases e;rw[MS t h2,Bg]
  |_=>cases e
theorem FP{N:Ux->Prop}:∀ns:List Int,bZ K N H (ns.map V.int) (ns.map cV.int)
 |[]=>.nil
 |i::ns=>.cons (.int i) (FP ns)
def rngI{a:Int}{n:Nat}{acc:Array Uw}(h:ItemsOf (λi v=>∃t,v=.int (a+i*1) t) acc n):bL ((Au n).map λi:Nat=>V.int (a+i)) acc.toList:=by
 obtain⟨h1,h2⟩:=h;have go:∀(m:Nat) (b:List Uw),b.length=m->∀k:Nat,(∀(i:Nat) (v:Uw),b[i]?=ba v->∃t,v=.int (a+((k+i:Nat):Int)*1) t)->bL ((Au m).map λi:Nat=>V.int (a+((k+i:Nat):Int))) b:=by
  intro m;induction m with
  |zero=>intro b hl k _;rw[Gy.mp hl];exact .nil
  |succ m d=>
   intro b hl k c;cases b with
   |nil=>cases hl
   |cons u b=>
    rw[Je,Bg,Qx];obtain⟨t,f⟩:=c 0 u rfl;refine .cons ⟨t,by rw[f];simp⟩ ?_
    have:=d b (by simpa using hl) (k+1) λi v e=>by obtain⟨t,h⟩:=c (i+1) v (by simpa using e);exact⟨t,by rw[h,show k+(i+1)=k+1+i by lia]⟩
    have e:((λi:Nat=>V.int (a+((k+i:Nat):Int)))∘Nat.succ)=λi:Nat=>V.int (a+((k+1+i:Nat):Int)):=by funext i;simp only[Tu,Nat.succ_eq_add_one];rw[show k+(i+1)=k+1+i by lia]
    rw[e];exact this
 have:=go n acc.toList (by simpa using h1) 0 λi v e=>by
  have:=h2 i v (by simpa using e)
  simpa using this
 simpa using this
def EG:aB X (.type "range") (λxs H Q=>∃j,xs=[.int j]/\∀p,H p=bb->Q (.ref p) (upd H p (.ext (rngP p 0 j 1)))):=by intro aa s σ H xs us Q I r h;obtain⟨j,rfl,q⟩:=h;obtain⟨u,rfl,t,rfl⟩:=U0 r;refine Qs ?_;have b:=I.hok.fresh (Am s.heap.objs.size);refine⟨.ref s.heap.objs.size,_,I.laid (a:=s.heap.objs.size) (o:=.ext (rngP s.heap.objs.size 0 j 1)) (t':=s.toks+1+1) (λ_ _ z=>Ad _ z) (Am _) ?_,rfl,q _ b⟩;exact⟨⟨_,_,_,Ur ..⟩,⟨_,Aj _ rfl⟩,λh1 h2 ⟨t,u,v,z⟩ k=>⟨t,u,v,k _ z⟩⟩
def LL(hc:X.calm=bc):aB X (.type "list") (λxs H Q=>∃(p:Ux) (j:Int),xs=[.ref p]/\H p=ba (.ext (rngP p 0 j 1))/\(0<=j/\j<=16777216)/\∀l,H l=bb->Q (.ref l) (upd H l (.lst ((Au j.toNat).map λi:Nat=>V.int (0+i))))):=by
 intro aa s σ H xs y Q I r h;obtain⟨p,j,rfl,m,A,q⟩:=h;obtain⟨u,rfl,g⟩:=U0 r;cases g;obtain⟨⟨t,u,v,z⟩,_⟩:=I.hok p _ m;have n:Gx 0 j 1=(j.toNat:Int):=by
  unfold Gx;rw[if_pos (by decide)];split
  ·rw[Int.ediv_one]
   lia
  ·lia
 have d:(2:Int) ^ 62=4611686018427387904:=by decide
 have e:(2:Nat) ^ 24=16777216:=by decide
 have f:Ut 0 j 1=bc:=small_one (a:=0) (b:=j) (by rw[d];decide) (by rw[d];decide) (by rw[d];lia) (by rw[d];lia);refine call_list_range (I.ok.hd hc) z f n (by rw[e];lia) λh' tk acc c kp w x=>?_;have k:=rngI x;refine⟨.ref s.heap.objs.size,_,I.laid (a:=s.heap.objs.size) (o:=.lst ((Au j.toNat).map λi:Nat=>V.int (0+i))) (t':=tk) kp (Am _) ⟨?_,acc.toList,c,k,by simpa using w⟩,rfl,q _ (I.hok.fresh (Am _))⟩;rw[Ce,Hq,Cf];lia
noncomputable def S9(f:VF):VF:=λδ=>(f δ).bind λp=>match p.1 with
 |.int j=>if 0<=j/\j<=16777216 then ba (.lst (Y4 0 j.toNat),p.2)else bb
 |_=>bb
def kN{N:Ux->Prop}(lo:Int)(n:Nat):bZ K N H ((Au n).map λi:Nat=>V.int (lo+i)) (Y4 lo n):=by
 unfold Y4;induction (Au n)with
 |nil=>exact .nil
 |cons x xs a=>exact .cons (.int _) a
def eD{o p2 db:Pos}(hc:X.calm=bc)(v:Gl X "list")(t:X.mg "list"=bb)(r:Bi "list"=ba (.type "list"))(i:Gl X "range")(h:X.mg "range"=bb)(f:Bi "range"=ba (.type "range"))(w:PE X a (TV K ml pa ta ia fa))(m:SE X a []:=by rfl)(b:Uz (.Call (.Name "range" p2) [a] [] db::[]) X.env=(bd,eval (.Call (.Name "range" p2) [a] [] db) X.env)::Uz [] X.env:=by rfl):PE X (.Call (.Name "list" o) [.Call (.Name "range" p2) [a] [] db] [] pos) (TN K ml pa (S9 fa)):=
 (WX (LL hc) v t r (bN (WX EG i h f (bN w aD m) (by decide) (by decide) m) aD b) (by decide) (by decide) b).imp λσ H Q g => by
  obtain⟨B,O,δ,d,δ',S,q,k⟩:=g;unfold S9 at q;obtain⟨⟨x,δ1⟩,h1,q⟩:=Ac.mp q;cases x with
  |int j=>
   have q:(if 0<=j/\j<=16777216 then ba (cV.lst (Y4 0 j.toNat),δ1)else bb)=ba (d,δ'):=q;split at q
   ·rename_i u
    cases q;refine⟨B,O,δ,_,_,S,h1,λy H1 c=>?_⟩;have n:=c.rep;cases n.onI;refine⟨j,rfl,λp s=>⟨p,j,rfl,b9,u,λl hl=>?_⟩⟩;have e:bF H1 (upd H1 p (.ext (rngP p 0 j 1))):=cM s;exact k l _ (mkN (c.sta.same e) (c.frm.trans e.fr) (λz=>(c.pur z).trans e) hl (kN 0 j.toNat))
   ·cases q
  |_=>cases q
end
section
variable{X:Cx}{K:Ah}{ml:List Nat}{e a b c:Vc}{es:List Vc}{pa ta ia pb tb ib pc tc ic pu bt bi ps bs:Bool}{fa fb fc f:VF}{B B':Bs}{O:Nat->Option Ux}{H H0 H1 H':Hp}{σ:St}{δ δ':Ev}{v:V}{d:cV}{p:Ux}{pos:Pos}
noncomputable def VD(n:Int):List Int->Option Nat
 |[]=>bb
 |i::ns=>if i=n then ba 0 else(VD n ns).map (· +1)
theorem KO{n:Int}:∀{ns:List Int}{j:Nat},VD n ns=ba j->ns[j]?=ba n/\∀m,m<j->ns[m]? ≠ba n
 |[],_,h=>by cases h
 | i :: ns,j,h => by
  unfold VD at h;split at h
  ·rename_i hi
   cases h;exact⟨by rw[hi];rfl,λm a=>absurd a (No _)⟩
  ·rename_i hi
   obtain⟨k,h1,h⟩:=Ao.mp h;cases h;obtain⟨h2,b⟩:=KO h1;refine⟨by simpa using h2,λm a=>?_⟩;cases m with
   |zero=>simpa using hi
   |succ m=>simpa using b m (Mz a)
def F9{ns:List Int}{a:List Uw}(r:bL (ns.map V.int) a){m:Nat}{u:Uw}(h:a[m]?=ba u):∃i t,ns[m]?=ba i/\u=.int i t:=by
 have hl:=r.length;rw[Ce]at hl;have b:m<a.length:=(Ai.mp h).1;have e:(ns.map V.int)[m]?=ba (.int ns[m]):=by simp[hl▸b]
 obtain⟨f,c,t,d⟩:=r.get e;rw[h]at c;cases c;exact⟨ns[m],t,by simp[hl▸b],d⟩
noncomputable def MT(n:Int):Uw->Bool
 |.int i _=>i==n
 |_=>bd
def Yz{ns:List Int}{a:List Uw}{n:Int}{j:Nat}(r:bL (ns.map V.int) a)(h:VD n ns=ba j):∃f:j<a.toArray.size,MT n a.toArray[j]=bc/\(∀m (b:m<a.toArray.size),m<j->MT n a.toArray[m]=bd):=by
 obtain⟨h1,h2⟩:=KO h;have hl:=r.length;rw[Ce]at hl;have f:j<ns.length:=(Ai.mp h1).1;have at_:∀(m:Nat) (b:m<a.toArray.size),∃i t,ns[m]?=ba i/\a.toArray[m]=.int i t:=λm b=>by
  have e:m<a.length:=by simpa using b
  exact F9 r (u:=a.toArray[m]) (by simp[e])
 refine⟨by simpa[<-hl]using f,?_,λm b d=>?_⟩
 ·obtain ⟨i,t',c,g⟩ := at_ j (by simpa [<- hl]using f)
  rw[h1]at c;cases c;rw[g];simp[MT]
 ·obtain⟨i,t',c,g⟩:=at_ m b
  have:=h2 m d
  rw[c]at this;rw[g];exact beq_eq_false_iff_ne.mpr λz=>this (by rw[z])
def Za{ns:List Int}{a:List Uw}(r:bL (ns.map V.int) a){y:Uw}(c:y∈a.toArray):∃i t,y=.int i t:=by
 obtain⟨m,d,rfl⟩:=Array.mem_iff_getElem.mp c;have b:m<a.length:=by simpa using d
 obtain⟨i,t,_,e⟩:=F9 r (m:=m) (u:=a.toArray[m]) (by simp[b]);exact⟨i,t,e⟩
def Xj(K:Ah):V->List V->Hp->VK->Prop:=λx vs H Q=>∃(l:Ux) (ns:List Int) (n:Int) (j:Nat),x=.ref l/\vs=[.int n]/\X8 K H l (ns.map V.int)/\VD n ns=ba j/\Q (.int j) H
def nA:MtM X "list.index" (Xj X.K):=by
 intro aa s σ H x vs v A Q I k m h;obtain⟨l,ns,n,j,rfl,rfl,w,z,q⟩:=h;cases k;obtain⟨u,rfl,t,rfl⟩:=m.one;obtain⟨a,r,⟨o,c,e,hc,d,f⟩,hz⟩:=I.list w;obtain⟨cls,dd,data,g⟩:=o;simp only at hc d f;subst hc d f;obtain⟨b,h1,h2⟩:=Yz r z;have hl:=r.length;refine Gk Qj ⟨_,e,rfl⟩ Pf (Op _ _) (Pg l a.toArray c bb g (.int n t) (MT n) j b (by
  have C:a.length<=16777216:=by rw[<-hl,<-Cf];exact hz
  have B:j<a.length:=by simpa using b
  lia) h1 h2) ⟨e,?_,?_⟩
 ·intro y p
  obtain⟨i,t',rfl⟩:=Za r p;exact SeqAt.EqAt.int_int i t' n t
 ·exact⟨.int j,H,I.tok _,⟨_,rfl⟩,q⟩
def iB(h:X.K=K:=by rfl):MtM X "list.index" (Xj K):=by subst h;exact nA
def DE:cV->cV->Option cV
 |.lst ds,.int n=>(UY ds).bind λns=>(VD n ns).map λj=>.int j
 |_,_=>bb
def gH{aj af:Pos}(m:X.K=K)(u:PE X a (TV K ml pa ta ia fa))(t:PE X b (TV K ml pb tb ib fb))(C:Hn a "index" X.env (eval a X.env)=eval a X.env:=by rfl)(A:((Em af (Uz (b::[]) X.env)).all (λx=> !x.1)&&(Ff af (Cw [] X.env)).all (λx=>x.1.isSome)&&decide ((b::([]:List Vc)).length+([]:List Ia).length+(if([]:List Ia).isEmpty then 0 else 1)<30))=bc:=by rfl)(D:(aj.endLine==af.line)=bc:=by rfl)(i:SE X b []:=by rfl)(E:(Em af (Uz [] X.env)).any (·.1)=bd:=by rfl)(hl:(pb || (ta&&ia))=bc:=by rfl):PE X (.Call (.Attribute a "index" aj) [b] [] af) (TV K ml (pa&&pb) bc bc (f2 DE fa fb)):=
 (kBm (K := K) m Iu Mm Mn (iB m) u (bN t aD i) C A D i E).imp λσ H Q g => by
  obtain⟨B,O,δ,d,δ2,S,q,k⟩:=g;obtain⟨x,δ1,y,h1,h2,c⟩:=RL q;refine⟨B,O,δ,x,δ1,S,h1,λG H1 e=>?_⟩;cases x with
  |lst ds=>
   cases y with
   |int n=>
    have c:((UY ds).bind λns=>(VD n ns).map λj=>cV.int j)=ba d:=c;obtain⟨ns,v,c⟩:=Ac.mp c;have c:(VD n ns).map (λj=>cV.int j)=ba d:=c;cases h:VD n ns with
    |none=>rw[h]at c;cases c
    |some j=>
     rw[h]at c;cases c;obtain⟨l,xs,rfl,sq,_⟩:=e.rep.lstE;refine⟨.inl ⟨rfl,xs,sq⟩,B,O,δ1,_,δ2,e.sta,h2,λF H2 R2=>?_⟩;have s:=R2.rep;cases s.onI;obtain⟨I,r,w,f,r'⟩:=(R2.live hl e.rep).lstE;cases w;have:=MS r' v
     subst this;exact⟨l,ns,n,j,rfl,rfl,f,h,k _ H2 ⟨R2.sta,e.frm.trans R2.frm,λz=>by obtain⟨p,o⟩:=(Af _ _).mp z;exact(e.pur p).trans (R2.pur o),.int _⟩⟩
   |_=>cases c
  |_=>cases c
def BS:V->List V->Hp->VK->Prop:=λx vs H Q=>∃(l:Ux) (ns:List Int) (n:Int) (j:Nat),x=.ref l/\vs=[.int n]/\H l=ba (.lst (ns.map V.int))/\VD n ns=ba j/\Q .non (upd H l (.lst ((ns.eraseIdx j).map V.int)))
theorem JQ{α β:Type}(g:α->β):∀(l:List α) (j:Nat),(l.map g).eraseIdx j=(l.eraseIdx j).map g
 |[],_=>by simp
 |_::_,0=>by simp
 |x::l,j+1=>by simp[JQ g l j]
def iW:MtM X "list.remove" BS:=by
 intro aa s σ H x vs v p Q I g k h;obtain⟨l,ns,n,j,rfl,rfl,f,o,q⟩:=h;cases g;obtain⟨u,rfl,t,rfl⟩:=k.one;obtain⟨z,a,c,r,hl,e⟩:=I.lstM f;obtain⟨b,h1,h2⟩:=Yz r o;refine Gk F.slot_list_remove ⟨_,e,rfl⟩ F.entry_list_remove (F.args_list_remove_2 _ _) (MeetsSeq.list_remove l a.toArray c (.int n t) (MT n) (λy m=>?_) j b h1 h2 (by rw[Aq,<-hl];exact z)) ⟨e,?_⟩
 ·obtain⟨i,t',rfl⟩:=Za r m
  exact Um i n t' t
 ·have d : j < a.length := by simpa using b
  refine⟨.non,_,I.lset (its':=a.eraseIdx j) f e (by simp[Ma,d]) (ys:=(ns.eraseIdx j).map V.int) ?_ ?_,rfl,q⟩
  ·have:=bL.eraseIdx j r
   rwa[JQ]at this
  ·rw[Ce]
   have h1:=List.length_eraseIdx_le ns j;rw[Ce]at z;lia
def mRem:List cV->List cV->Option (List cV)
 |ds,[.int n]=>(UY ds).bind λns=>(VD n ns).map λj=>(ns.eraseIdx j).map cV.int
 |_,_=>bb
def mw:MuV K BS mRem:=by
 intro H N l xs vs ds es a Q hl i b c h k;cases c with
 |nil=>cases h
 | @cons v vs d es e t=>
  cases t with
  |cons _ _=>cases d<;>cases h
  |nil=>
   cases d with
   |int n=>
    cases e;have h:((UY ds).bind λns=>(VD n ns).map λj=>(ns.eraseIdx j).map cV.int)=ba a:=h;obtain⟨ns,g,h⟩:=Ac.mp h;have h:(VD n ns).map (λj=>(ns.eraseIdx j).map cV.int)=ba a:=h;obtain⟨j,f,h⟩:=Ao.mp h;cases h;have:=MS b g
    subst this;exact⟨l,ns,n,j,rfl,rfl,hl,f,k _ _ (FP _)⟩
   |_=>cases h
end
section
variable{X:Cx}{K:Ah}{ml:List Nat}{e:Vc}{es:List Vc}{pu bt bi bs:Bool}{f:VF}{fs:N0}
def cN(h:PE X e (TV K ml pu bt bi f))(a:(bt&&bi)=bc:=by rfl):PE X e (TV K ml pu bc bc f):=by obtain⟨h1,h2⟩:=(Af _ _).mp a;subst h1 h2;exact h
def GD(h:PE X e (TV K ml pu bt bi f))(a:bi=bc:=by rfl):PE X e (TV K ml pu bt bc f):=by subst a;exact h
def cA(h:PA X es (TAV K ml pu bs fs))(a:bs=bc:=by rfl):PA X es (TAV K ml pu bc fs):=by subst a;exact h
def RD{st:Vj}:PS X st (WL K ml λ_=>bb):=λ_ _ _ _ _ _ ⟨_,_,_,_,_,q,_⟩=>nomatch q
variable{a b c:Vc}{pa ta ia pb tb ib pc tc ic:Bool}{fa fb fc:VF}{pos:Pos}{δ:Ev}
end
section
variable{X:Cx}{K:Ah}{ml:List Nat}{e a b c:Vc}{pa ta ia pb tb ib pu:Bool}{fa fb fc f:VF}{B:Bs}{O:Nat->Option Ux}{H H':Hp}{σ:St}{δ δ':Ev}{v:V}{d:cV}{p:Ux}{pos:Pos}{ks:List (Option Vc)}{vs:List Vc}
theorem J9:∀{more acc:List (aK×V)},((acc++more).map Dk).Nodup->MY acc more=acc++more
 |[],acc,_=>by simp[MY]
 |(k,v)::more,acc,a=>by
  have d:∀q∈acc,q.1≠k:=λq b z=>by rw[Ix,Bg]at a;exact(List.nodup_append.mp a).2.2 q.1 (Oq b) k (by simp) z
  have c:SS acc k=bb:=by unfold SS;rw[List.find?_eq_none.mpr λq b=>by simpa using d q b];rfl
  show MY (XD acc k v) more=_;rw[jX v c,J9 (by simpa using a)];simp
end
theorem RH:∀(names:List (Va×Vm)) (n:Nat) (acc:List (Va×Ux)),Vl n names acc=Vl n names []++acc
 |[],_,_=>rfl
 | (x,k) :: r,n,acc => by
  unfold Vl;split
  ·rw[RH r (n+1) ((x,n)::acc),RH r (n+1) [(x,n)]]
   simp
  ·exact RH r n acc
theorem CW:∀{names:List (Va×Vm)}{n:Nat}{x:Va}{c:Ux},(x,c)∈Vl n names []->(x,Cm)∈names
 |[],_,_,_,h=>nomatch h
 | (y,k) :: r,n,x,c,h => by
  unfold Vl at h;split at h
  ·rename_i a
   rw[RH]at h;rcases Dh.mp h with h|h
   ·exact Ap _ (CW h)
   ·cases Ba.mp h
    rw[show k=Cm from beq_iff_eq.mp a];exact Ax
  ·exact Ap _ (CW h)
theorem CV:∀{names:List (Va×Vm)}{n:Nat}{x:Va},(x,Cm)∈names->∃c,(x,c)∈Vl n names []
 | (y,k) :: r,n,x,h => by
  unfold Vl;rcases Ak.mp h with e|h
  ·cases e
   rw[if_pos (by decide),RH];exact⟨n,At _ (Ba.mpr rfl)⟩
  ·split
   ·rw[RH]
    obtain⟨c,hc⟩:=CV (n:=n+1) h;exact⟨c,Bt _ hc⟩
   ·exact CV h
theorem MX:∀{l:List (Va×Ux)}{x:Va}{c:Ux},(x,c)∈l->∃b,l.lookup x=ba b
 | (y,d) :: r,x,c,h => by
  rw[Co];cases a:x==y with
  |true=>exact⟨d,rfl⟩
  |false=>
   rcases Ak.mp h with e|h
   ·cases e
    simp at a
   ·exact MX h
theorem YR:∀{l m:List (Va×Ux)}{x:Va}{c:Ux},(l++m).lookup x=ba c->l.lookup x=ba c∨(l.lookup x=bb/\m.lookup x=ba c)
 |[],_,_,_,h=>.inr ⟨rfl,h⟩
 |(y,d)::r,m,x,c,h=>by
  rw[Hz,Co]at h;rw[Co];cases a:x==y with
  |true=>rw[a]at h;exact .inl h
  |false=>rw[a]at h;exact YR h
theorem RG:∀{l m:List (Va×Ux)}{x:Va},l.lookup x=bb->(l++m).lookup x=m.lookup x
 |[],_,_,_=>rfl
 |(y,d)::r,m,x,h=>by
  rw[Co]at h;rw[Hz,Co];cases a:x==y with
  |true=>rw[a]at h;cases h
  |false=>rw[a]at h;exact RG h
def FA{M:Vq}{A:Bw}{E:Uw->Ae->Prop}{s:Ae}{scope:Vk}{globals:Ux}{c:List (Va×Ux)}{qual:Va}{outer:Env}{Q:Env->Ae->Prop}(d:Q (newEnv scope s.heap.objs.size globals (Vl (s.heap.objs.size+1) scope.names c) qual bb .none (ba outer) builtinsNs) {s with heap:=Si (s.heap.push {cls:=.type "dict",data:=.dict #[]}) scope.names}):Uy M A (Oh scope globals c [] qual bb .none (ba outer)) Q E s:=by simp only[Oh,Pb,if_true];refine Aa (wpAny_alloc ?_);refine Aa (wpAny_layCells _ (λname kind b=>by cases a:kind==Cm<;>simp[a]) _ _ _ _ ?_);rw[show({s with heap:=s.heap.push {cls:=.type "dict",data:=.dict #[]}}:Ae).heap.objs.size=s.heap.objs.size+1 from Ef ..];rw[Og];exact Aa (Ag (Ag d))
theorem UE:∀{l m:List (Va×Ux)}{x:Va}{c:Ux},l.lookup x=ba c->(l++m).lookup x=ba c
 |(y,d)::r,m,x,c,h=>by
  rw[Co]at h;rw[Hz,Co];cases a:x==y with
  |true=>rw[a]at h;exact h
  |false=>rw[a]at h;exact UE h
structure NJ(X:Cx)(N':List Va)(ix:List Nat)(scope:Vk):Prop where
 kind:scope.kind=.function
 cel:∀y∈scope.names,y.2=.cell->scope.names.lookup y.1=ba .cell
 names:∀y∈scope.names,y.2=.local->scope.names.lookup y.1=ba .local
 free:∀y∈scope.names,y.2=.free->X.env.kindOf y.1=ba .cell∨X.env.kindOf y.1=ba .free
 nd:N'.Nodup
 cap:∀j,j<ix.length->N'[j]?=(ix[j]?).bind λi=>X.N[i]?
 capf:∀x∈N'.take ix.length,scope.names.lookup x=ba .free
noncomputable def Z8(X:Cx)(N':List Va)(scope:Vk)(cl:List (Va×Ux))(s1:Ae)(H1:Hp)(fp:List Ux):Cx:=
 {X with N:=N',s₀:=s1,H₀:=H1,env:=compEnvC scope cl s1.heap.objs.size X.env,outer:=X.stack,stack:=X.stack,ex:=fp,fn:=λx=>scope.names.lookup x==ba Cm,pn:=[],xe:=λ_ _=>False}
theorem VE{env:Env}{x:Va}:∀{l:List (Va×Vm)},((l.map λ(n,k)=>if(k==Bq&&env.scope.kind== .function&&env.kindOf n==ba .cell)then(n,Cm)else(n,k)).lookup x=ba .cell∨(l.map λ(n,k)=>if(k==Bq&&env.scope.kind== .function&&env.kindOf n==ba .cell)then(n,Cm)else(n,k)).lookup x=ba .free)->(x,Bq)∈l∨(x,Cm)∈l
 |[],h=>by rcases h with z|z<;>cases z
 | (n,k) :: r,h => by
  have h:Om x ((if(k==Bq&&env.scope.kind== .function&&env.kindOf n==ba .cell)=bc then(n,Cm)else(n,k))::r.map λ(n,k)=>if(k==Bq&&env.scope.kind== .function&&env.kindOf n==ba .cell)then(n,Cm)else(n,k))=ba .cell∨
   Om x ((if(k==Bq&&env.scope.kind== .function&&env.kindOf n==ba .cell)=bc then(n,Cm)else(n,k))::r.map λ(n,k)=>if(k==Bq&&env.scope.kind== .function&&env.kindOf n==ba .cell)then(n,Cm)else(n,k))=ba .free:=h
  by_cases hc:(k==Bq&&env.scope.kind== .function&&env.kindOf n==ba .cell)=bc
  ·rw[if_pos hc]at h
   by_cases a:x=n
   ·subst a
    have c:k=.free:=by simp only[Af]at hc;exact beq_iff_eq.mp hc.1.1
    subst c;exact .inl Ax
   ·have b:(x==n)=bd:=beq_eq_false_iff_ne.mpr a
    simp only[Co,b]at h;rcases VE (env:=env) h with z|z
    ·exact .inl (Ap _ z)
    ·exact .inr (Ap _ z)
  ·rw[if_neg hc]at h
   by_cases a:x=n
   ·subst a
    rw[El]at h;rcases h with z|z
    ·cases z;exact .inr Ax
    ·cases z;exact .inl Ax
   ·have b:(x==n)=bd:=beq_eq_false_iff_ne.mpr a
    simp only[Co,b]at h;rcases VE (env:=env) h with z|z
    ·exact .inl (Ap _ z)
    ·exact .inr (Ap _ z)
noncomputable def Wx(p:Pos)(tg:Vc)(ifs:List Vc)(em:Vo Unit)(e:Vc)(lv:Nat)(it acc:Uw)(env:Env):Vo Ph:=do
 Oj p
 match<-pyNext it with
 |none=>pure (.done .next)
 |some v=>
  Hk tg it v
  Hs tg env v
  let mut ok:=bc
  for c in ifs do
   if ok then ok<-isTrue c env (eval c env)
  if ok then em
  Ot (.compLoop e lv it acc env)
structure CK(e:Vc)(lv:Nat)(tg:Vc)(ifs:List Vc)(em:Vo Unit)(acc:Uw)(env:Env):Prop where
 turn:∃p,∀it,compTurn e lv it acc env=Wx p tg ifs em e lv it acc env
 den:∀(prog:Aw) (w:Ve) (A:Bw) (it:Uw) (Q:Ph->Ae->Prop) (E:Uw->Ae->Prop) (s:Ae),Uy (Vb prog w) A ((compTurn e lv it acc env).onRaise (λx=>do Sj x env;theTreesLotGoes x)) Q E s->Uy (Vb prog w) (A.under (.compLoop e lv it acc env)) ((Vb prog w).den (.compLoop e lv it acc env)) Q E s
 dens:∀(prog:Aw) (w:Ve) (A:Bw) (it:Uw) (Q:Ph->Ae->Prop) (E:Uw->Ae->Prop) (s:Ae),Uy (Vb prog w) A ((compStart e lv it acc env).onRaise (λx=>do Sj x env;Oj theWindowsPlace)) Q E s->Uy (Vb prog w) (A.under (.compStart e lv it acc env)) ((Vb prog w).den (.compStart e lv it acc env)) Q E s
 quiet:∀it,(Code.compLoop e lv it acc env).quiet=bc
 cl:∃g,(clausesOf e)[lv]?=ba g/\g.is_async=0
section
variable{prog:Aw}{w:Ve}{A:Bw}{s:Ae}{e tg:Vc}{lv:Nat}{ifs:List Vc}{em:Vo Unit}{it acc:Uw}{env:Env}{R:Ui->Ae->Prop}
def cW(L:CK e lv tg ifs em acc env)(I:Nat->Ae->Prop)(turn:∀n s,I n s->Uy (Vb prog w) A (pyNext it) (λr b=>match r with
   |none=>R (.ok .next) b
   | some v => Uy (Vb prog w) A (Hk tg it v) (λ_ s₀ => Uy (Vb prog w) A (Hs tg env v) (λ_ f =>
     Uy (Vb prog w) A (forIn ifs bc λc r=>if r=bc then do let ok<-isTrue c env (eval c env);pure (Ed ok)else pure (Ed r)) (λok a=>if ok=bc then
      Uy (Vb prog w) A em (λ_ d=>∃m,m<n/\I m d) (λ_ _=>False) a else∃m,m<n/\I m a) (λ_ _=>False) f)
     (λ_ _=>False) s₀) (λ_ _=>False) b) (λ_ _=>False) s)
  (n:Nat) (h:I n s):Hg (Vb prog w) A (.compLoop e lv it acc env) R s:=by
 refine codeAny_loop (L.quiet it) I (λn s t=>L.den _ _ _ _ _ _ _ (wpAny_noted ?_)) n h;obtain⟨p,q⟩:=L.turn;rw[q];refine Aa (Fm (Aa (Bj (turn n s t) (λr b i=>?_) λ_ _ h'=>h'.elim)));cases r with
 |none=>exact Ag i
 |some v=>
  refine Aa (Bj i (λ_ s₀ j=>?_) λ_ _ h'=>h'.elim);refine Aa (Bj j (λ_ f l=>?_) λ_ _ h'=>h'.elim);refine Aa (Bj l (λo a g=>?_) λ_ _ h'=>h'.elim);cases o with
  |false=>exact Ag ⟨rfl,g⟩
  |true=>exact Aa (Bj g (λ_ d k=>Ag ⟨rfl,k⟩) λ_ _ h'=>h'.elim)
def Yt(L:CK e lv tg ifs em acc env)(f:Hg (Vb prog w) A (.compLoop e lv it acc env) R s)(h:Uy (Vb prog w) A (Ry it) (λa s'=>Hg (Vb prog w) A (.compLoop e lv a acc env) R s') (notedBy (Vb prog w) A env λx s'=>R (.error x) s') s):Hg (Vb prog w) A (.compStart e lv it acc env) R s:=by
 refine Np (L.dens _ _ _ _ _ _ _ (wpAny_notedAt ?_));obtain⟨g,c,d⟩:=L.cl;have b:=L.quiet;unfold compStart;simp only[c,Option.elim_some,d,bne_self_eq_false,Fg,if_false];refine Aa (wpAny_askSetting (wpAny_ite ?_));split
 ·exact Aa (Ag (Ag ⟨b _,f⟩))
 ·exact Aa (Hc (Aa (Fm (Aa (Bj h (λa s' h'=>Ag ⟨b _,h'⟩) λ_ _ x=>x)))))
end
def PM(Y:Cx)(em:Vo Unit)(tm:TM):Prop:=∀(aa:List (Ux×Vi)) (s:Ae) (σ:St) (H:Hp) (N:St->Hp->Prop),cF Y aa σ H s->tm σ H N->Uy (Vb Y.prog Y.w) Y.A em (λ_ s'=>∃a H',cF Y aa a H' s'/\N a H') (λ_ _=>False) s
structure BlkG(Y:Cx)(e:Vc)(tg:Vc)(ifs:List Vc)(g:TG)(tt:TT)(tm:Ux->TM):Prop where
 pg:PG Y tg g
 ts:PTs Y ifs tt
 em:∀D,∃em,CK e 0 tg ifs em (.ref D) Y.env/\PM Y em (tm D)
def MD{X:Cx}{aa:List (Ux×Vi)}{σ:St}{H2:Hp}{f:Ae}{E:Uw->Ae->Prop}{e tg:Vc}{ifs:List Vc}{scope:Vk}{N':List Va}{ix:List Nat}{nl:Nat}{g:TG}{tt:TT}{tm:Ux->TM}{mkA:Vo Uw}{ob:Vi}{o0:HO}{cl:List (Va×Ux)}{J:It}{fp:List Ux}{it:Ux}{tn:Nat->Vg->Prop}{Q:V->Hp->Prop}{RR:Uw->Ux->Ui->Ae->Prop}(hmk:∀{Q:Uw->Ae->Prop},Q (.ref f.heap.objs.size) {f with heap:=f.heap.push ob}->Uy (Vb X.prog X.w) X.A mkA Q E f)(hob:Z7 X.prog X.w (upd H2 f.heap.objs.size o0) (f.heap.push ob) f.heap.objs.size o0)(hc:X.calm=bc)(S:NJ X N' ix scope)(hnl:N'.length=ix.length+nl)(bn:∀x c,cl.lookup x=ba c->X.env.cells.lookup x=ba c)(d7:∀x,(x,Bq)∈scope.names->∃c,cl.lookup x=ba c)(blk:∀(cl:List (Va×Ux)) (s1:Ae) (H1:Hp) (fp:List Ux),BlkG (Z8 X N' scope cl s1 H1 fp) e tg ifs g tt tm)(I2:cF X aa σ H2 f)(T:GY X.prog X.w X.K tg J fp it tn)(st2:tn 0 f.heap)(f2:∀b∈fp,WK X aa H2 b)(h:∀D,H2 D=bb->Wb D o0 ix nl J g tt tm σ H2 λH'=>Q (.ref D) H')(fin:∀(D C:Ux) (s':Ae) (H':Hp),cF X aa σ H' s'->(∃m,s'.heap.Ns C m)->C≠X.env.locals->(∀x c,X.env.cells.lookup x=ba c->c≠C)->(∀(t:St) (Y:Ae) (h'':Vg),cF X aa t H' Y->Fn C Y.heap h''->cF X aa t H' {Y with heap:=h''})->Q (.ref D) H'->RR (.ref D) C (.ok .next) s'):Uy (Vb X.prog X.w) X.A mkA (λacc F=>Uy (Vb X.prog X.w) X.A (Oh scope X.env.globals cl [] X.env.qual bb .none (ba X.env)) (λi7 s₄=>Hg (Vb X.prog X.w) X.A (.compStart e 0 (.ref it) acc {i7 with scope:=relabel scope X.env}) (RR acc i7.locals) s₄) E F) E f:=by
 refine hmk (FA ?_);dsimp only;have s:cF X aa σ (upd H2 f.heap.objs.size o0) {f with heap:=f.heap.push ob}:=
  I2.laid (a:=f.heap.objs.size) (o:=o0) (t':=f.toks) (λ_ _ q=>Ad _ q) (Am _) hob
 have hDn:H2 f.heap.objs.size=bb:=I2.hok.fresh (Am _);obtain⟨W,m0,w0,turn⟩:=h _ hDn;generalize hs1:({f with heap:=f.heap.push ob}:Ae)=s1 at s;have du:f.heap.push ob=s1.heap:=by rw[<-hs1]
 rw[du];have M:∀b o,s1.heap.get? b=ba o->(Si (s1.heap.push {cls:=.type "dict",data:=.dict #[]}) scope.names).get? b=ba o:=λb o e=>pushCells_keeps _ _ _ _ (Ad _ e);have I:(Si (s1.heap.push {cls:=.type "dict",data:=.dict #[]}) scope.names).Ns s1.heap.objs.size (λ_=>bb):=(Heap.Ns.new s1.heap (.type "dict")).keeps λb o e=>pushCells_keeps _ _ _ _ e;have O:=cellsFrom_ok scope.names (s1.heap.push {cls:=.type "dict",data:=.dict #[]}) (s1.heap.objs.size+1) [] ⟨λ_ _ hm=>(nomatch hm),Qe⟩ (by rw[Ef];exact Am _);rw[Ef]at O;generalize hz1:Si (s1.heap.push {cls:=.type "dict",data:=.dict #[]}) scope.names=G at M I O;rw[RH];generalize hnc:Vl (s1.heap.objs.size+1) scope.names []=B at O;have H:∀x c,B.lookup x=ba c->(x,Cm)∈scope.names/\G.IsCell c bb/\s1.heap.objs.size+1<=c:=λx c e=>by have hm:=Bx e;exact⟨CW (n:=s1.heap.objs.size+1) (by rw[hnc];exact hm),O.empty x c hm⟩
 have nch:∀x,(x,Cm)∈scope.names->∃c,B.lookup x=ba c:=λx h=>by obtain⟨c,hc⟩:=CV (n:=s1.heap.objs.size+1) h;rw[hnc]at hc;exact MX hc
 have g0:∀b∈fp,b<f.heap.objs.size:=λb k=>by obtain⟨o,e,_⟩:=T.obj _ _ st2 b k;exact An e
 have gl:s1.heap.objs.size=f.heap.objs.size+1:=by rw[<-du,Ef]
 have i8:∀b o,f.heap.get? b=ba o->s1.heap.get? b=ba o:=λb o e=>by rw[<-du];exact Ad _ e
 have ee:∀x c,cl.lookup x=ba c->c<s1.heap.objs.size:=λx c e=>by obtain⟨v,q⟩:=s.cell x c (bn x c e);exact q.lt
 have ji:∀b∈SH X.stack,b<s1.heap.objs.size:=λb k=>by obtain⟨_,o,ho,_⟩:=(s.stack).mem k;exact An ho
 have Z:(Z8 X N' scope (B++cl) s1 (upd H2 f.heap.objs.size o0) fp).Ok:=by
  refine⟨s.ok.mod,S.kind,s.ok.glob,s.ok.blt,Am _,λx y c e1 R=>?_,λx hx=>?_,λx c hf e=>?_,s.ok.hd,s.ok.frames,.inl rfl,λb k=>⟨?_,λx c e=>?_⟩,λb o e=>?_,Fc s.ok.bsz s.sz,λb o e k=>?_,λb k hb2=>?_,s.stack,s.stkFree⟩
  ·rcases YR e1 with n1|⟨_,o1⟩
   ·rcases YR R with n2|⟨_,o2⟩
    ·exact PySem.name_of_addr O.apart (Bx n1) (Bx n2)
    ·exact absurd (Az (ee y c o2) (Jq (H x c n1).2.2)) (Cq _)
   ·rcases YR R with n2|⟨_,o2⟩
    ·exact absurd (Az (ee x c o1) (Jq (H y c n2).2.2)) (Cq _)
    ·exact s.ok.inj x y c (bn x c o1) (bn y c o2)
  ·cases q:B.lookup x with
   |some c=>exact⟨c,UE q⟩
   |none=>
    rcases VE hx with h|h
    ·obtain⟨c,hc⟩:=d7 x h
     exact⟨c,(RG q).trans hc⟩
    ·obtain⟨c,hc⟩:=nch x h
     rw[q]at hc;cases hc
  ·have hx:(x,Cm)∈scope.names:=Bx (beq_iff_eq.mp hf)
   obtain⟨c',P⟩:=nch x hx;have:=UE (m:=cl) P
   have e:(B++cl).lookup x=ba c:=e;rw[this]at e;cases e;exact Jq (H x c P).2.2
  ·exact Bb (Az (g0 b k) (by show f.heap.objs.size<=s1.heap.objs.size;rw[gl];exact Jn _))
  ·rcases YR e with n1|⟨_,o1⟩
   ·have h1:=g0 b k
    have h2:=(H x c n1).2.2;rw[gl]at h2;exact λz=>absurd (z▸h2) (Nat.not_le_of_lt (Az h1 (Fc (Jn _) (Jn _))))
   ·exact(f2 b k).2.2.2.2.1 x c (bn x c o1)
  ·exact s.bs b o e
  ·have:=(f2 b k)
   obtain⟨o',e',_⟩:=T.obj _ _ st2 b k;have hlt:=Az (An e) s.ok.bsz;rcases this.2.2.2.1 with z|z
   ·exact s.ok.noex b o e z
   ·exact absurd (Az hlt z) (Cq _)
  ·rcases Ak.mp (s.stkSub b hb2)with z|z
   ·exact(f2 b k).2.1 z
   ·exact(f2 b k).2.2.1 z
 have f6:(Y6 ix σ++As nl bb).length=N'.length:=by rw[Cs,Nd,hnl];simp[Y6]
 have IY:cF (Z8 X N' scope (B++cl) s1 (upd H2 f.heap.objs.size o0) fp) [] (Y6 ix σ++As nl bb) (upd H2 f.heap.objs.size o0) {f with heap:=G}:=by
  refine⟨Z,?_,I2.bare,Un.kept M,⟨_,I,λj x v e1 R e3=>?_⟩,λx c e=>?_,s.hok.fresh (Am _),λx c e=>?_,λp hp=>absurd (show p∈([]:List (Ux×Vi)) from hp) (by simp),s.hok.kept M,f6⟩
  ·show f.os=s1.os
   rw[<-hs1]
  ·have hj:j<ix.length:=by
    by_cases hj:j<ix.length
    ·exact hj
    ·exfalso
     have hl:(Y6 ix σ).length=ix.length:=by simp[Y6]
     rw[Cd (by rw[hl];lia),Dz]at R;split at R<;>cases R
   have hl:(Y6 ix σ).length=ix.length:=by simp[Y6]
   rw[Ar (by rw[hl];exact hj)]at R;have hci:=S.cap j hj;obtain⟨i,hi⟩:∃i,ix[j]?=ba i:=⟨ix[j],by simp[hj]⟩;rw[hi]at hci;have hNi:X.N[i]?=ba x:=by
    have:N'[j]?=X.N[i]? :=hci
    rw[<-this];exact e1
   have hσ:σ[i]?=ba (ba v):=by
    unfold Y6 at R;rw[Cg,hi]at R;have e2':(σ[i]?).join=ba v:=by simpa using R
    cases q:σ[i]? with
    |none=>rw[q]at e2';cases e2'
    |some o=>rw[q]at e2';rw[show o=ba v from e2']
   have hfl:scope.names.lookup x=ba .free:=S.capf x (by rw[Nl];exact⟨j,by rw[Cz hj];exact e1⟩)
   have bz:(x,Bq)∈scope.names:=Bx hfl;have hpk:X.env.kindOf x=ba .cell∨X.env.kindOf x=ba .free:=by exact S.free (x,.free) bz rfl
   have il:Vis X.env.scope x:=by
    rcases hpk with z|z
    ·exact .inr (.inl z)
    ·exact .inr (.inr z)
   obtain⟨m,hn,j5⟩:=s.loc;obtain⟨u,ru,l⟩:=j5 i x v hNi hσ il;refine⟨u,ru,?_⟩;rcases l with⟨hk,_⟩|⟨hk,c,ec,z⟩
   ·rcases hpk with q|q<;>rw[hk]at q<;>cases q
   ·obtain⟨c',P⟩:=d7 x bz
    have:c'=c:=by
     have:=bn x c' P
     rw[ec]at this;exact(Cv this).symm
    subst this;have iy:B.lookup x=bb:=by
     cases q:B.lookup x with
     |none=>rfl
     |some d=>
      have:=S.cel (x,.cell) (H x d q).1 rfl
      rw[hfl]at this;cases this
    refine .inr ⟨Q5 hfl,c',(RG iy).trans P,?_⟩
    ·obtain⟨o,ho,hd⟩:=z
     exact⟨o,M _ _ ho,hd⟩
  ·rcases YR e with n1|⟨_,o1⟩
   ·exact⟨bb,(H x c n1).2.1⟩
   ·obtain⟨v,o,ho,hd⟩:=s.cell x c (bn x c o1)
    exact⟨v,o,M _ _ ho,hd⟩
  ·rcases YR e with n1|⟨_,o1⟩
   ·exact s.hok.fresh (Jq (H x c n1).2.2)
   ·exact s.freeC x c (bn x c o1)
 have back:∀{pY:List (Ux×Vi)}{t:St}{H':Hp}{s':Ae},cF (Z8 X N' scope (B++cl) s1 (upd H2 f.heap.objs.size o0) fp) pY t H' s'->cF X aa σ H' s':=λ{pY t H' s'} J'=>
  s.call' J'.os J'.base J'.hok J'.bare λb k=>⟨(f2 b k).2.2.2.1,(f2 b k).2.1,(f2 b k).2.2.2.2.1,(f2 b k).2.2.2.2.2⟩
 have stat:∀{H':Hp}{pY:List (Ux×Vi)},(∀b∈fp,H' b=bb)->pY=[]->∀b∈fp,WK (Z8 X N' scope (B++cl) s1 (upd H2 f.heap.objs.size o0) fp) pY H' b:=λ{H' pY} hn hp b k=>by subst hp;refine⟨hn b k,(Z.exf b k).1,Z.exfs b k,.inl k,(Z.exf b k).2,λp hp=>absurd (show p∈([]:List (Ux×Vi)) from hp) (by simp)⟩
 have st1:tn 0 G:=T.keep 0 f.heap G st2 λb k o e=>M b o (i8 b o e);have fr1:∀b∈fp,(upd H2 f.heap.objs.size o0) b=bb:=λb k=>by rw[bV (Bb (g0 b k))];exact(f2 b k).1
 obtain⟨btg,bts,bem⟩:=blk (B++cl) s1 (upd H2 f.heap.objs.size o0) fp;obtain⟨em,L,bem⟩:=bem f.heap.objs.size;have loop:∀F:Ae,F={f with heap:=G}->
   Hg (Vb X.prog X.w) X.A (.compLoop e 0 (.ref it) (.ref f.heap.objs.size) (compEnvC scope (B++cl) s1.heap.objs.size X.env)) (RR (.ref f.heap.objs.size) s1.heap.objs.size) F:=by
  rintro F rfl;refine cW L (λn s'=>∃i t H',cF (Z8 X N' scope (B++cl) s1 (upd H2 f.heap.objs.size o0) fp) [] t H' s'/\t.take ix.length=Y6 ix σ/\tn i s'.heap/\(∀b∈fp,H' b=bb)/\W i n H') ?_ m0
   ⟨0,_,_,IY,by rw[Eg (by simp[Y6])];exact Cu (by simp[Y6]),st1,fr1,w0⟩
  rintro n s' ⟨i,t,H',J',hσ,st',fr',w'⟩;have Jc:cF (Z8 X N' scope (B++cl) s1 (upd H2 f.heap.objs.size o0) fp) [] (Y6 ix σ++As nl bb) H' s':=by
   refine J'.weak (by rw[f6];exact J'.len.symm) λj v e=>?_;have hl:(Y6 ix σ).length=ix.length:=by simp[Y6]
   by_cases hj:j<ix.length
   ·rw [Ar (by rw [hl];exact hj),<- hσ,Cz hj]at e
    exact e
   ·rw [Cd (by rw [hl];lia),Dz]at e
    split at e<;>cases e
  rcases turn i n H' w' with⟨stop,q⟩|⟨go,N,hN,step⟩
  ·refine Bj (T.done (Z8 X N' scope (B ++ cl) s1 (upd H2 f.heap.objs.size o0) fp) rfl rfl rfl hc i [] s' _ H' (λ_ _ => False) Jc (stat fr' rfl) st' stop) (λr s4 ⟨hr,I4⟩ => ?_) λ_ _ z => z
   subst hr;have IX:=back I4;obtain⟨m,hm,_⟩:=I4.loc;exact fin _ _ s4 H' IX ⟨m,hm⟩ (Ic s.lt) (λx c e z=>by
    obtain⟨v,q⟩:=s.cell x c e;have:=q.lt
    rw[z]at this;exact Cq _ this) (λσ'' Y h'' I'' sb=>cF.offNew s I'' I4.free λb o k e=>(sb.2 b k).trans e) q
  ·refine Bj (T.item (Z8 X N' scope (B ++ cl) s1 (upd H2 f.heap.objs.size o0) fp) rfl rfl rfl hc i [] s' _ H' (λ_ _ => False) Jc (stat fr' rfl) st' go) (λr s4 ⟨u,hr,h4⟩ => ?_) λ_ _ z => z
   subst hr;refine Bj h4 (λ_ s5 ⟨x,H5,I5,r5,y5,st5,fr5⟩=>?_) λ_ _ z=>z;have I5':=I5.pinned (stat fr5 rfl) (T.obj _ _ st5);refine Bj (btg _ s5 _ H5 x u _ I5' r5 (step x H5 y5)) (λ_ s6 ⟨σ6,H6,I6,hσ6,q6⟩=>?_) λ_ _ z=>z;have again:∀{U:St}{H7:Hp}{s7:Ae},U.take ix.length=Y6 ix σ->cF (Z8 X N' scope (B++cl) s1 (upd H2 f.heap.objs.size o0) fp) ([]++P0 fp s5.heap) U H7 s7->N H7->
     ∃m,m<n/\∃i t H',cF (Z8 X N' scope (B++cl) s1 (upd H2 f.heap.objs.size o0) fp) [] t H' s7/\t.take ix.length=Y6 ix σ/\tn i s7.heap/\(∀b∈fp,H' b=bb)/\W i m H':=λ{U H7 s7} hσ7 I7 n7=>by
    obtain⟨m',hm,w7⟩:=hN H7 n7;refine⟨m',hm,i+1,U,H7,I7.unpinned,hσ7,T.keep _ _ _ st5 λb k o e=>(I7.pin (b,o) (At _ (At _ (X0 k e)))).1,λb k=>?_,w7⟩;obtain⟨o,e,d⟩:=T.obj _ _ st5 b k;exact(I7.pin (b,o) (At _ (At _ (X0 k e)))).2.1
   refine Bj (bts _ s6 σ6 H6 _ I6 q6) (λokb s7 ⟨H7,I7,q7⟩=>?_) λ_ _ z=>z;cases okb with
   |false=>exact again hσ6 I7 q7
   |true=>exact Bj (bem _ s7 σ6 H7 _ I7 q7) (λ_ s8 ⟨σ8,H8,I8,hσ8,n8⟩=>again hσ8 I8 n8) λ_ _ z=>z
 exact Yt L (loop _ rfl) (T.self _ 0 _ _ _ st1 (loop _ rfl))
def lU{X:Cx}{aa:List (Ux×Vi)}{σ:St}{i:Nat}{y:Va}{py:Pos}{D:NX}(t:X.N.Nodup)(h:X.N[i]?=ba y)(o:X.env.scope.names.lookup y=ba .local)(e C:Ux)(s':Ae)(H':Hp)(u:cF X aa σ H' s')(g:∃m,s'.heap.Ns C m)(l:C≠X.env.locals)(k:∀x c,X.env.cells.lookup x=ba c->c≠C)(r:∀(d:St) (b:Ae) (h'':Vg),cF X aa d H' b->Fn C b.heap h''->cF X aa d H' {b with heap:=h''})(q:D.nx (σ.set i (ba (.ref e))) H'):compPost (Vb X.prog X.w) X.A X.xe (ba (Hs (.Name y py) X.env)) (λ_ s'=>SP X aa D .next s') (.ref e) C (.ok .next) s':=by
 obtain⟨m,g⟩:=g;show Uy _ X.A (Hs (.Name y py) X.env (.ref e)) _ _ _;refine Jh (K4 u t h (.inl o) (v:=.ref e) rfl (λb n ⟨a,f,s⟩=>?_) (.inr o));have j:C≠a:=by
  rcases s with z|z
  ·rw[z];exact l
  ·exact Ea (k y a z)
 exact⟨m,g.sameBut f j,λh'' p=>⟨_,H',r _ b h'' n p,q⟩⟩
noncomputable def emL(D:Ux)(elt:Vc)(env:Env):Vo Unit:=do let _<-call (.builtin "list.append") [.ref D,<-eval elt env]
def lpL1{elt tg iter:Vc}{ifs:List Vc}{scope:Vk}{pos:Pos}{D:Ux}{env:Env}:CK (.ListComp elt [⟨tg,iter,ifs,0⟩] scope pos) 0 tg ifs (emL D elt env) (.ref D) env:=⟨⟨iter.pos,λ_=>rfl⟩,λ_ _ _ _ _ _ _ h=>h,λ_ _ _ _ _ _ _ h=>h,λ_=>rfl,_,rfl,rfl⟩
def BL{Y:Cx}{elt:Vc}{te:TE}{D:Ux}(b:Y.xe=λ_ _=>False)(j:PE Y elt te):PM Y (emL D elt Y.env) (tmL te D):=by
 intro aa s σ H N I h;have nx:∀{α:Sort _}{x:Uw}{s:Ae},Y.xe x s->α:=λz=>by rw[b]at z;exact z.elim
 exact Aa (Bj (j aa s σ H _ I h) (λv e ⟨y,m,l,f,acc,c,a,i⟩=>Aa (Bj (Z9 (X:=Y) _ e σ m (.ref D) [y] (.ref D) [v] (λ_ d=>N σ d) l rfl (.cons f .nil)
  ⟨D,acc,y,rfl,rfl,c,a,i⟩) (λ_ n ⟨_,d,k,_,g⟩=>Ag ⟨σ,d,k,g⟩) λ_ _ z=>nx z)) λ_ _ z=>nx z)
section
variable{X:Cx}{tg iter elt:Vc}{ifs:List Vc}{rest:List Comprehension}{scope:Vk}{pos py c8:Pos}{N':List Va}{ix:List Nat}{nl:Nat}{wi:TI}{g:TG}{tt:TT}{tm:Ux->TM}{i:Nat}{y:Va}
def FJ(hc:X.calm=bc)(S:NJ X N' ix scope)(d:N'.length=ix.length+nl)(hi:PI X tg iter wi)(i:∀(cl:List (Va×Ux)) (s1:Ae) (H1:Hp) (fp:List Ux),BlkG (Z8 X N' scope cl s1 H1 fp) (.ListComp elt (⟨tg,iter,ifs,0⟩::rest) scope pos) tg ifs g tt tm)(p:∀x,Vh iter X.env x=pure x):PE X (.ListComp elt (⟨tg,iter,ifs,0⟩::rest) scope pos) (IL ix nl wi g tt tm):=by intro aa s σ H Q I h;rw[eval_ListComp];obtain⟨cl,G,F,E⟩:=G8 (env:=X.env) (scope:=scope) λy o t=>I.ok.has y.1 (S.free y o t);refine Mb (use:=bb) (cl:=cl) rfl p G S.kind S.names (Bj (hi aa s σ H _ I h) (λM k b=>Bj b (λn j a=>?_) λ_ _ e=>e) λ_ _ e=>e);obtain⟨it,fp,N,J,H2,e,K,T,c,f2,q⟩:=a;subst e;refine MD (o0:=.lst []) (Q:=Q) (RR:=λacc C=>compPost (Vb X.prog X.w) X.A X.xe bb (EP X aa σ Q) acc C) (λz=>Cc z) ⟨Df _,[],0,.nil,Aj _ rfl⟩ hc S d F E i K T c f2 q ?_;intro D C s' H' L f B v u r;obtain⟨m,f⟩:=f;exact⟨m,f,λh'' l=>⟨.ref D,H',u σ s' h'' L l,rfl,r⟩⟩
def HY(u:X.N.Nodup)(k:X.N[i]?=ba y)(d:X.env.scope.names.lookup y=ba .local)(hc:X.calm=bc)(S:NJ X N' ix scope)(j:N'.length=ix.length+nl)(hi:PI X tg iter wi)(l:∀(cl:List (Va×Ux)) (s1:Ae) (H1:Hp) (fp:List Ux),BlkG (Z8 X N' scope cl s1 H1 fp) (.ListComp elt (⟨tg,iter,ifs,0⟩::rest) scope pos) tg ifs g tt tm)(f:Hj (.ListComp elt (⟨tg,iter,ifs,0⟩::rest) scope pos) (ba (.Name y py)) c8.line X.env=pure bc)(p:∀x,Vh iter X.env x=pure x):PS X (.Assign [.Name y py] (.ListComp elt (⟨tg,iter,ifs,0⟩::rest) scope pos) c8) (tAsg (IL ix nl wi g tt tm) (AN i)):=by
 intro aa s σ H D I h;rw[exec_Assign_Name_used _ _ _ _ f];refine Aa (Fm (Aa ?_));show Uy _ X.A (do let _<-comprehension (.ListComp elt (⟨tg,iter,ifs,0⟩::rest) scope pos) scope X.env _ (newList []) bd (eval iter X.env) (ba (Hs (.Name y py) X.env))) _ _ s;obtain⟨cl,F,E,B⟩:=G8 (env:=X.env) (scope:=scope) λy d t=>I.ok.has y.1 (S.free y d t);refine Aa (Bj (Mb (use:=ba (Hs (.Name y py) X.env)) (cl:=cl) (Q:=λ_ s'=>SP X aa D .next s') rfl p F S.kind S.names
  (Bj (hi aa s σ H _ I h) (λK n b=>Bj b (λo m a=>?_) λ_ _ e=>e) λ_ _ e=>e)) (λ_ s' r=>Ag (Ag r)) λ_ _ e=>e)
 obtain⟨it,fp,L,J,H2,e,G,T,c,f2,q⟩:=a;subst e;exact MD (o0:=.lst []) (Q:=λv H'=>D.nx (σ.set i (ba v)) H') (RR:=λacc C=>compPost (Vb X.prog X.w) X.A X.xe (ba (Hs (.Name y py) X.env)) (λ_ s'=>SP X aa D .next s') acc C) (λz=>Cc z) ⟨Df _,[],0,.nil,Aj _ rfl⟩ hc S j E B l G T c f2 q (lU u k d)
end
section
variable{X:Cx}{K:Ah}{ml:List Nat}{pi pt pe pu:Bool}{pos:Pos}{ix:List Nat}{nl:Nat}{f:VF}
noncomputable def T5(N N':List Va)(ix:List Nat)(names:List (Va×Vm))(k:Va->Option Vm):Bool:=
 names.all (λy=>y.2 != .cell || names.lookup y.1==ba .cell)&&(names.all (λy=>y.2 != .local || names.lookup y.1==ba .local)&&(names.all (λy=>y.2 != .free || (k y.1==ba .cell || k y.1==ba .free)) &&
  (decide N'.Nodup&&((Au ix.length).all (λj=>N'[j]? ==(ix[j]?).bind λi=>N[i]?)&&(N'.take ix.length).all λx=>names.lookup x==ba .free))))
def YZ{N':List Va}{scope:Vk}(b:scope.kind=.function)(h:T5 X.N N' ix scope.names X.env.kindOf=bc):NJ X N' ix scope:=by unfold T5 at h;simp only[Af,Fy,Ir,bne_iff_ne,beq_iff_eq,decide_eq_true_eq,Dm]at h;obtain⟨h1,h2,g,f,d,c⟩:=h;exact⟨b,λy a e=>(h1 y a).resolve_left λz=>z e,λy a e=>(h2 y a).resolve_left λz=>z e,λy a e=>(g y a).resolve_left λz=>z e,f,d,c⟩
def Blk.g{X:Cx}{N':List Va}{scope:Vk}{tg iter elt:Vc}{ifs:List Vc}{pos:Pos}{g:TG}{tt:TT}{te:TE}(a:∀(cl:List (Va×Ux)) (s1:Ae) (H1:Hp) (fp:List Ux),Blk (Z8 X N' scope cl s1 H1 fp) tg ifs elt g tt te)(cl:List (Va×Ux))(s1:Ae)(H1:Hp)(fp:List Ux):BlkG (Z8 X N' scope cl s1 H1 fp) (.ListComp elt [⟨tg,iter,ifs,0⟩] scope pos) tg ifs g tt (tmL te):=
 ⟨(a cl s1 H1 fp).tg,(a cl s1 H1 fp).ts,λD=>⟨_,lpL1,BL rfl (a cl s1 H1 fp).el⟩⟩
abbrev BlkC(X:Cx)(K:Ah)(N':List Va)(ix:List Nat)(scope:Vk)(tg:Vc)(ifs:List Vc)(elt:Vc)(gg:VG)(pt:Bool)(tb:VB)(pe:Bool)(fe:VF):Prop:=N'.Nodup->∀(cl:List (Va×Ux)) (s1:Ae) (H1:Hp) (fp:List Ux),Blk (Z8 X N' scope cl s1 H1 fp) tg ifs elt (CM K (Au ix.length) gg) (TB K (Au ix.length) pt tb) (TV K (Au ix.length) pe bc bc fe)
def aU{tg iter elt:Vc}{ifs:List Vc}{scope:Vk}{fi:VI}{gg:VG}{tb:VB}{fe:VF}(N':List Va)(ix:List Nat)(nl:Nat)(hi:PI X tg iter (EB K ml pi fi))(c:BlkC X K N' ix scope tg ifs elt gg pt tb pe fe)(hc:X.calm=bc:=by rfl)(d:scope.kind=.function:=by rfl)(a:T5 X.N N' ix scope.names X.env.kindOf=bc:=by rfl)(b:N'.length=ix.length+nl:=by rfl)(hnd:ix.Nodup:=by decide)(e:∀x,Vh iter X.env x=pure x:=by intro _;rfl):PE X (.ListComp elt [⟨tg,iter,ifs,0⟩] scope pos) (TN K ml (pi&&pt&&pe) (aZ ix nl fi gg tb fe)):=
 (FJ hc (YZ d a) b hi (Blk.g (c (YZ d a).nd)) e).imp λ_ _ _ h=>B9 hnd h
def VU{i:Nat}{y:Va}{py c8:Pos}{tg iter elt:Vc}{ifs:List Vc}{scope:Vk}{fi:VI}{gg:VG}{tb:VB}{fe:VF}(o:Bool)(m:X.N.Nodup)(N':List Va)(ix:List Nat)(nl:Nat)(hi:PI X tg iter (EB K ml pi fi))(e:BlkC X K N' ix scope tg ifs elt gg pt tb pe fe)(d:X.N[i]?=ba y:=by rfl)(j:X.env.scope.names.lookup y=ba .local:=by rfl)(hc:X.calm=bc:=by rfl)(f:scope.kind=.function:=by rfl)(a:T5 X.N N' ix scope.names X.env.kindOf=bc:=by rfl)(c:N'.length=ix.length+nl:=by rfl)(hnd:ix.Nodup:=by decide)(l:i∉ml:=by decide)(b:Hj (.ListComp elt [⟨tg,iter,ifs,0⟩] scope pos) (ba (.Name y py)) c8.line X.env=pure bc:=by rfl)(k:∀x,Vh iter X.env x=pure x:=by intro _;rfl):PS X (.Assign [.Name y py] (.ListComp elt [⟨tg,iter,ifs,0⟩] scope pos) c8) (WL K ml (bH i (if o then xO (aZ ix nl fi gg tb fe)else xV (aZ ix nl fi gg tb fe)))):=
 (HY m d j hc (YZ f a) c hi (Blk.g (e (YZ f a).nd)) b k).imp λD σ H h=>DX (λσ H Q z=>B9 hnd (Vz (pu:=pi&&pt&&pe) z)) l h
end
section
variable{X:Cx}{K:Ah}{ml:List Nat}{e a b c:Vc}{es:List Vc}{pi pt pe pu bt bi ps bs:Bool}{f:VF}{B B':Bs}{O:Nat->Option Ux}{H H0 H1 H':Hp}{σ:St}{δ δ':Ev}{v:V}{d:cV}{p:Ux}{pos:Pos}{ix:List Nat}{nl:Nat}
def nV(K:Ah)(N:Ux->Prop)(J:It)(H:Hp)(ds:List cV):Prop:=∃xs:List V,bZ K N H xs ds/\∀H2,bF H H2->(∀(i:Nat) (x:V),xs[i]?=ba x->J.go i H2/\∀y a,J.yld i H2 y a->a=H2/\y=x)/\J.stop xs.length H2
inductive Yk(K:Ah)(ml:List Nat)(f:VI)(σ:St)(H:Hp)(R:It->Hp->Prop):Prop
 |mk (B:_) (O:_) (δ:_) (ds:_) (δ':_) (h0:aR K ml B O H σ δ) (h1:f δ=ba (ds,δ')) (h2:∀J H',aR K ml B O H' σ δ'->bF H H'->nV K (Nn B O) J H' ds->R J H'):Yk K ml f σ H R
def TIVp(K:Ah)(ml:List Nat)(f:VI):TI:=λσ H R=>Yk K ml f σ H R
def lX{fi:VI}{gg:VG}{tb:VB}{fe:VF}(hnd:ix.Nodup){Q:VK}(h:TN K ml bc (aZ ix nl fi gg tb fe) σ H Q):Wn ix nl (TIVp K ml fi) (CM K (Au ix.length) gg) (TB K (Au ix.length) bc tb) (TV K (Au ix.length) bc bc bc fe) σ H Q:=by obtain⟨B,O,δ,ds,δ',S,e,k⟩:=F7 (pi:=bc) (pt:=bc) (pe:=bc) hnd h;refine⟨B,O,δ,ds,δ',S,e,λJ H' n p w=>?_⟩;obtain⟨b,a,c⟩:=w;refine k J (b.zip ds) H' (n.keepV (VM a)) p.fr (λ_=>p) λN H1 z f=>⟨λi d m=>?_,by rw[<-a.length];exact(c H1 (f rfl)).2⟩;obtain⟨x,j,l⟩:=(TJ a.length z).get m;have w:=(c H1 (f rfl)).1 i x j;exact⟨w.1,λy o g=>by obtain⟨rfl,rfl⟩:=w.2 y o g;exact⟨.refl _,l⟩⟩
def bF.sqT{a:Ux}{xs:List V}(s:bF H H')(h:WN K H a xs):WN K H' a xs:=Fr.tup (P:=λ_=>False) s.fr h
def gX{tg:Vc}(n:X.K=K)(h:PE X e (TV K ml bc bt bi f))(o:bi=bc:=by rfl):PI X tg e (TIVp K ml (YQ f)):=by
 subst o;refine((Yy (K:=K) n h).or (Zz (K:=K) n h)).imp λσ H R g=>?_;obtain⟨B,O,δ,ds,δ',S,q,k⟩:=g;unfold YQ at q;obtain⟨⟨x,δ1⟩,h1,q⟩:=Ac.mp q;cases x with
 |lst m=>
  cases q;refine .inl ⟨B,O,δ,_,δ1,S,h1,λv H1 c=>?_⟩;obtain⟨a,xs,rfl,sq,r⟩:=c.rep.lstE;refine⟨a,rfl,⟨xs,sq⟩,k _ H1 c.sta (c.pur rfl) ⟨xs,r,λH2 b=>⟨λi x ex=>⟨⟨xs,x,b.seq sq,ex⟩,λy p d=>?_⟩,xs,b.seq sq,Am _⟩⟩⟩;obtain⟨l,j⟩:=d;have:=j xs (b.seq sq)
  rw[ex]at this;cases this;exact⟨l,rfl⟩
 |tup m=>
  cases q;refine .inr ⟨B,O,δ,_,δ1,S,h1,λv H1 c=>?_⟩;obtain⟨a,xs,rfl,sq,r⟩:=c.rep.tupE;refine⟨a,rfl,⟨xs,sq⟩,k _ H1 c.sta (c.pur rfl) ⟨xs,r,λH2 b=>⟨λi x ex=>⟨⟨xs,x,b.sqT sq,ex⟩,λy p d=>?_⟩,xs,b.sqT sq,Am _⟩⟩⟩;obtain⟨l,j⟩:=d;have:=j xs (b.sqT sq)
  rw[ex]at this;cases this;exact⟨l,rfl⟩
 |_=>cases q
def lQ{i:Nat}{y:Va}{py c8:Pos}{tg iter elt:Vc}{ifs:List Vc}{scope:Vk}{fi:VI}{gg:VG}{tb:VB}{fe:VF}(o:Bool)(n:X.N.Nodup)(N':List Va)(ix:List Nat)(nl:Nat)(hi:PI X tg iter (TIVp K ml fi))(e:BlkC X K N' ix scope tg ifs elt gg pt tb pe fe)(d:X.N[i]?=ba y:=by rfl)(j:X.env.scope.names.lookup y=ba .local:=by rfl)(hc:X.calm=bc:=by rfl)(f:scope.kind=.function:=by rfl)(a:T5 X.N N' ix scope.names X.env.kindOf=bc:=by rfl)(c:N'.length=ix.length+nl:=by rfl)(hnd:ix.Nodup:=by decide)(l:(pt&&pe)=bc:=by rfl)(m:i∉ml:=by decide)(b:Hj (.ListComp elt [⟨tg,iter,ifs,0⟩] scope pos) (ba (.Name y py)) c8.line X.env=pure bc:=by rfl)(k:∀x,Vh iter X.env x=pure x:=by intro _;rfl):PS X (.Assign [.Name y py] (.ListComp elt [⟨tg,iter,ifs,0⟩] scope pos) c8) (WL K ml (bH i (if o then xO (aZ ix nl fi gg tb fe)else xV (aZ ix nl fi gg tb fe)))):=by obtain⟨h1,h2⟩:=(Af _ _).mp l;subst h1 h2;exact(HY n d j hc (YZ f a) c hi (Blk.g (e (YZ f a).nd)) b k).imp λD σ H h=>DX (λσ H Q z=>lX hnd (Vz (pu:=bc) z)) m h
end
section
variable{X:Cx}{K:Ah}{ml:List Nat}{e a b c:Vc}{es:List Vc}{pa ta ia pb tb ib pc tc ic pu bt bi ps bs:Bool}{fa fb fc f:VF}{pos p':Pos}{d:cV}{x:Va}
def vv(i:Nat)(d:X.N[i]?=ba x:=by rfl)(b:Vis X.env.scope x:=by first|exact Ez rfl|exact Dg (Ez rfl)|exact Dg (Dg rfl))(c:ND x:=by decide)(a:(x==("__classdict__":Va))=bd:=by decide):PE X (.Name x pos) (TV K ml bc bc bc (fV i)):=oG (DI d b c a)
def vo(i:Nat)(d:X.N[i]?=ba x:=by rfl)(b:Vis X.env.scope x:=by first|exact Ez rfl|exact Dg (Ez rfl)|exact Dg (Dg rfl))(c:ND x:=by decide)(a:(x==("__classdict__":Va))=bd:=by decide):PE X (.Name x pos) (TV K ml bc bd bc (fO i)):=me (DI d b c a)
def ZT(d:X.A.units+1<cLine)(g:PE X a (TV K ml pa ta ia fa))(f:PE X b (TV K ml pb tb ib fb))(h:X.K=K:=by rfl)(c:GW b:=by exact λ_ _=>rfl)(e:(pb || (ta&&ia))=bc:=by rfl):PE X (.Subscript a b pos) (TV K ml (pa&&pb) ia ia (f2 bT fa fb)):=
 oZ (kIxA d h) gU g f c e
def veq(c:X.A.units+64<cLine)(f:PE X a (TV K ml pa ta ia fa))(e:PE X b (TV K ml pb tb ib fb))(g:X.K=K:=by rfl)(d:(pb || (ta&&ia))=bc:=by rfl):PE X (.Compare a [.Eq] [b] pos) (TV K ml (pa&&pb) bc bc (f2 XN fa fb)):=
 YH (kEqD c g) s_eq f e (UF _) d
def XJ(c:X.A.units+64<cLine)(f:PE X a (TV K ml pa ta ia fa))(e:PE X b (TV K ml pb tb ib fb))(g:X.K=K:=by rfl)(d:(pb || (ta&&ia))=bc:=by rfl):PT X (.Compare a [.Eq] [b] pos) (TB K ml (pa&&pb) (fB (f2 XN fa fb))):=
 bQ (kEqD c g) s_eq f e (UF _) d
def bW{kk j n:Nat}{qs:List Va}{mF:List Nat}{F:bM}{ff:Ux}{fs:JB}(D:Def X.prog X.w K X.mg X.base x kk qs (spV K mF n F) ff)(c:ZZ j X.A)(h:PA X (e::es) (TAG K ml ps fs))(i:X.K=K:=by rfl)(d:kk<=j:=by decide)(f:Gl X x:=by rfl)(b:ND x:=by decide)(g:SE X e es:=by rfl)(a:(Em pos (Uz es X.env)).any (·.1)=bd:=by rfl):PE X (.Call (.Name x p') (e::es) [] pos) (TV K ml (ps&&mF.isEmpty) bc bc (cK n mF F fs)):=kW i D c d f h b g a
def ZC(b:X.mg "len"=bb)(e:PE X a (TV K ml pa ta ia fa))(f:X.K=K:=by rfl)(c:Gl X "len":=by rfl)(d:SE X a []:=by rfl):PE X (.Call (.Name "len" p') [a] [] pos) (TV K ml pa bc bc (f1 Z0 fa)):=
 GA (fX f) kC c b on e (by decide) (by decide) d
def vty{n:String}(c:X.mg x=bb)(a:Bi x=ba (.type n))(d:Gl X x:=by rfl)(b:x≠ "__name__":=by decide)(e:ND x:=by decide):PE X (.Name x pos) (TV K ml bc bc bc (fC (.ty n))):=
 ve_c (dN (v:=.ty n) d c a rfl b e) λ_ _ _=>.ty _
def D3(f:X.mg "isinstance"=bb)(j:PE X a (TV K ml pa ta ia fa))(i:PE X b (TV K ml pb tb ib fb))(k:X.K=K:=by rfl)(g:Gl X "isinstance":=by rfl)(h:SE X a [b]:=by rfl)(d:SE X b []:=by rfl)(c:(Em pos (Uz [b] X.env)).any (·.1)=bd:=by rfl)(e:(pb || (ta&&ia))=bc:=by rfl):PE X (.Call (.Name "isinstance" p') [a,b] [] pos) (TV K ml (pa&&pb) bc bc (f2 Q0 fa fb)):=X5 (kIsi k) lj g f bR j i (by decide) (by decide) h d c e
end
def A4(K:Ah)(x:Va)(st:Vj)(f:Ux):Prop:=∃(oc:Uw) (od:Option Ux) (kV doc c:Uw) (d:Option Ux) (a ct:Uw) (b:Array (Option Uw)),Gs K Vd x=ba (ba (.ref f))∧
 K.lookup f=ba ⟨oc,od,.func (Mr x x (Y0 st) (aY st) (cL st) .none kV doc c d a ct),b⟩/\Rr K a x=bc/\Hy K (.ref f)=bc
def a4{K:Ah}{x:Va}{st:Vj}{f:Ux}{oc:Uw}{od:Option Ux}{kV doc h:Uw}{i:Option Ux}{e ct:Uw}{g:Array (Option Uw)}(a:Gs K Vd x=ba (ba (.ref f)))(b:K.lookup f=ba ⟨oc,od,.func (Mr x x (Y0 st) (aY st) (cL st) .none kV doc h i e ct),g⟩)(c:Rr K e x=bc)(d:Hy K (.ref f)=bc):A4 K x st f:=⟨oc,od,kV,doc,h,i,e,ct,g,a,b,c,d⟩
def MZ{N P:List Va}{h:Vk}(a:h.kind=.function:=by rfl)(b:h.isCoroutine=bd:=by rfl)(c:h.isGenerator=bd:=by rfl)(d:N.Nodup:=by decide+kernel)(e:N.take P.length=P:=by rfl)(f:∀x∈P,h.names.lookup x=ba .local∨h.names.lookup x=ba .cell:=by decide+kernel)(g:∀y∈h.names,y.2≠Bq:=by decide+kernel):aS N P h:=⟨a,b,c,d,e,f,g⟩
def KD{α:Type}:Vo α->Prop
 |.pure _=>True
 |.raise _=>True
 |.unsupported _=>True
 |.finish _=>True
 |.rule _ k=>KD (k ())
 |.at _ k=>KD (k ())
 |.load _ _ k=>∀o,KD (k o)
 |.update _ _ f k=>(∀o,(f o).dict=o.dict)/\KD (k ())
 |.alloc _ k=>∀a,KD (k a)
 |.loadIfAlive _ k=>∀o,KD (k o)
 |.point _ k=>KD (k ())
 |.stack k=>∀l,KD (k l)
 |.fresh k=>∀l,KD (k l)
 |.ask k=>∀l,KD (k l)
 |.handled _ k=>∀l,KD (k l)
 |_=>False
def Dc(e:Ux)(d:Option Ux)(h:Vg):Prop:=∃o,h.objs[e]?=ba o/\o.dict=d
def Dc.of{e:Ux}{h:Vg}{o:Vi}(q:h.get? e=ba o):Dc e o.dict h:=⟨o,(Pj.mp q).1,rfl⟩
theorem Dc.at{e:Ux}{d:Option Ux}{h:Vg}{o:Vi}(D:Dc e d h)(q:h.get? e=ba o):o.dict=d:=by obtain⟨o',a,b⟩:=D;rw[(Pj.mp q).1]at a;cases a;exact b
def Dc.upd{e a:Ux}{d:Option Ux}{h:Vg}{f:Vi->Vi}(D:Dc e d h)(i:∀o,(f o).dict=o.dict):Dc e d (h.update a f):=by
 obtain⟨o,g,c⟩:=D;cases h;simp only[Dc,Heap.update,Array.getElem?_modify];by_cases b:a=e
 ·subst b
  exact⟨f o,by rw[if_pos rfl,g];rfl,(i o).trans c⟩
 ·exact⟨o,by rw[if_neg b];exact g,c⟩
def Dc.push{e:Ux}{d:Option Ux}{h:Vg}(o:Vi)(D:Dc e d h):Dc e d (h.push o):=by obtain⟨b,a,c⟩:=D;cases h;refine⟨b,?_,c⟩;simp only[Heap.push,Array.getElem?_push];rw[if_neg (Bb (Array.getElem?_eq_some_iff.mp a).1)];exact a
def eG{α:Type}{M:Vq}{i:PySem.Ctx}{e:Ux}{d:Option Ux}{E:Uw->Pos->Ae->Prop}:∀(t:Vo α) (Q:α->Pos->Ae->Prop) (p:Pos) (s:Ae),KD t->Dc e d s.heap->Sem.wp M i t Q E p s->Sem.wp M i t (λa p s'=>Q a p s'/\Dc e d s'.heap) E p s:=by
 intro t;induction t with
 |pure a=>intro Q p s _ D h;simp only[Sem.wp_pure]at h⊢;exact⟨h,D⟩
 |raise v=>intro Q p s _ D h;simp only[Sem.wp_raise]at h⊢;exact h
 |unsupported w=>intro Q p s _ D h;simp only[Sem.wp_unsupported]at h
 |finish w=>intro Q p s _ D h;simp only[Sem.wp_finish]at h
 |rule g k c=>intro Q p s K D h;simp only[Sem.wp_rule]at h⊢;exact c () Q p s K D h
 | «at» q k c=>intro Q p s K D h;simp only[Sem.wp_at]at h⊢;exact c () Q q s K D h
 |load a b k c=>intro Q p s K D h;rw[Sem.wp_load]at h⊢;obtain⟨o,j,h⟩:=h;exact⟨o,j,c o Q p s (K o) D h⟩
 |update a b f k c=>intro Q p s K D h;rw[Sem.wp_update]at h⊢;exact⟨h.1,c () Q p _ K.2 (D.upd K.1) h.2⟩
 |alloc o k c=>intro Q p s K D h;simp only[Sem.wp_alloc]at h⊢;exact c _ Q p _ (K _) (D.push o) h
 |loadIfAlive a k c=>intro Q p s K D h;simp only[Sem.wp_loadIfAlive]at h⊢;exact c _ Q p s (K _) D h
 |point l k c=>intro Q p s K D h;simp only[Sem.wp_point]at h⊢;exact c () Q p s K D h
 |stack k c=>intro Q p s K D h;rw[Sem.wp]at h⊢;exact c _ Q p s (K _) D h
 |fresh k c=>intro Q p s K D h;simp only[Sem.wp_fresh]at h⊢;exact c _ Q p _ (K _) D h
 |ask k c=>intro Q p s K D h;simp only[Sem.wp_ask]at h⊢;exact c _ Q p s (K _) D h
 |handled o k c=>intro Q p s K D h;simp only[Sem.wp_handled]at h⊢;exact c _ Q p s (K _) D h
 |_=>intro Q p s K;exact K.elim
def L8{α:Type}{M:Vq}{A:Bw}{e:Ux}{d:Option Ux}{E:Uw->Ae->Prop}{t:Vo α}{Q:α->Ae->Prop}{s:Ae}(K:KD t)(D:Dc e d s.heap)(h:Uy M A t (λa s'=>Dc e d s'.heap->Q a s') E s):Uy M A t Q E s:=λc p b=>
 Sem.wp_mono M c t (λa p s' z=>z.1 z.2) (λ_ _ _ z=>z) p s (eG t _ p s K D (h c p b))
def KD.bind{α β:Type}{f:α->Vo β}:∀{m:Vo α},KD m->(∀a,KD (f a))->KD (m>>=f):=by
 intro m;show KD m->_->KD (Sem.bind m f);induction m with
 |pure a=>intro _ h;exact h a
 |raise v=>intro _ h;exact trivial
 |unsupported w=>intro _ h;exact trivial
 |finish w=>intro _ h;exact trivial
 |rule g k c=>intro K h;exact c () K h
 | «at» q k c=>intro K h;exact c () K h
 |load a b k c=>intro K h o;exact c o (K o) h
 |update a b f k c=>intro K h;exact⟨K.1,c () K.2 h⟩
 |alloc o k c=>intro K h a;exact c a (K a) h
 |loadIfAlive a k c=>intro K h o;exact c o (K o) h
 |point l k c=>intro K h;exact c () K h
 |stack k c=>intro K h l;exact c l (K l) h
 |fresh k c=>intro K h l;exact c l (K l) h
 |ask k c=>intro K h l;exact c l (K l) h
 |handled o k c=>intro K h l;exact c l (K l) h
 |_=>intro K;exact K.elim
def pC(f:Array Uw->Array Uw)(o:Vi):(Tv f o).dict=o.dict:=by unfold Tv;split<;>rfl
def KD.field(v:Uw)(i:Nat):KD (field v i):=by unfold PySem.field fieldsOf;repeat (first|exact trivial|exact λ_=>trivial|with_reducible refine KD.bind ?_ ?_|intro _|split)
def KD.setField(v:Uw)(i:Nat)(x:Uw):KD (setField v i x):=by unfold Sx updateField;repeat (first|exact trivial|exact⟨pC _,trivial⟩|exact λ_=>trivial|with_reducible refine KD.bind ?_ ?_|intro _|split)
def KD.flight(e:Uw)(f:Option Ux):KD (setFlight e f):=by unfold setFlight;repeat (first|exact trivial|exact KD.field _ _|exact KD.setField _ _ _|with_reducible refine KD.bind ?_ ?_|intro _|split)
theorem KD.ready:∀l:List Env,KD (readyFrames l)
 |[]=>trivial
 |env::outer=>by have a:=KD.ready outer;unfold readyFrames behindIsImport keptBack;repeat (first|exact trivial|exact a|exact KD.field _ _|exact⟨λ_=>rfl,trivial⟩|exact λ_=>trivial|with_reducible refine KD.bind ?_ ?_|intro _|split)
def KD.frameOf(env:Env):KD (Pk env):=by have h1:=KD.ready;unfold Pk frameObject frameEnvs;repeat (first|exact trivial|exact h1 _|exact λ_=>trivial|with_reducible refine KD.bind ?_ ?_|intro _|split)
def KD.place(f:Ux)(b:Bool):KD (Qy f b):=by unfold Qy;repeat (first|exact trivial|exact λ_=>trivial|with_reducible refine KD.bind ?_ ?_|intro _|split)
def KD.entry(a b c d e:Uw)(l:List Uw):KD (Ov a b c d e l):=by show KD (if _ then unsupported _>>=λ_=>Tj _ _ _ else Tj _ _ _);have h:∀x:Data,KD (Tj (.type "traceback") x bb):=λx=>λ_=>trivial;repeat (first|exact trivial|exact h _|split)
def KD.note(e:Uw)(env:Env):KD (Sj e env):=by have h2:∀head f,KD (Pk env>>=λa=>Qy f (head != .none)>>=λc=>Ov head a .none (rawInt f) .none c>>=λb=>Sx e 1 b):=λ_ _=>KD.bind (KD.frameOf _) λ_=>KD.bind (KD.place _ _) λ_=>KD.bind (KD.entry _ _ _ _ _ _) λ_=>KD.setField _ _ _;unfold Sj;repeat (first|exact trivial|exact h2 _ _|exact KD.field _ _|exact KD.setField _ _ _|exact λ_=>h2 _ _|with_reducible refine KD.bind ?_ ?_|intro _|split)
def KD.leave(e:Uw)(env:Env):KD (leaving env e):=KD.bind (KD.note e env) λ_=>KD.flight e bb
end L2
namespace L2
open PySem PySem.Spec PyProof.Rows PySem.W PySem.Builtin PySem.Builtin.ObjectAttr
noncomputable abbrev vbs:List Uw:=[.type "ValueError",.type "Exception",.type "BaseException",.type "object"]
structure XA(K:Ah)(C:Ux):Prop where
 mro:W.mroIn K C (.type "object")=ba bc
 cls:Rq K (.ref C) "__class__"=ba (ba (.builtin "object.__class__"))
 get:W.specialIn K (.builtin "object.__class__") "__get__"=ba (ba (.builtin "getset_descriptor.__get__"))
 tak:W.takesIn K (.builtin "object.__class__")=ba bc
 ga:Rq K (.ref C) "__getattribute__"=ba (ba (.builtin "BaseException.__getattribute__"))
 no:Rq K (.ref C) "__getattr__"=ba bb
 sub:Tx K (.ref C) (.type "BaseException")=ba bc
section
variable{prog:Aw}{w:Ve}{A:Bw}{E:Uw->Ae->Prop}{s:Ae}{K:Vr}{C Cp N:Ux}{nm q:Va}{v:Uw}{bs bm:List Uw}{hdct:Bool}{sn:List Va}{sub:List Uw}{ab:Bool}{col:Option Bool}{dd:Option Ux}{k0 k1 k2 k3 k5:Option Uw}{cn qual txt:Va}
 {mN mg:Va->Option Uw}{fI:Ux}{st:Vj}{fd:Ci}{u:Uw}
end
end L2
namespace L2
open PySem PySem.Spec PyProof.Rows
def Z7.alive{P:Aw}{w:Ve}{H:Hp}{h:Vg}{a:Ux}{o:HO}(x:Z7 P w H h a o):∃u,h.get? a=ba u:=by
 cases o with
 |lst xs=>obtain⟨_,_,_,_,e⟩:=x;exact⟨_,e⟩
 |tup xs=>obtain⟨_,_,_,b,e,_⟩:=x;exact⟨_,e⟩
 |dK kvs=>obtain⟨_,_,_,_,o,_,_,e,_⟩:=x;exact⟨_,e⟩
 |dT kvs=>obtain⟨_,_,_,_,o,_,_,e,_⟩:=x;exact⟨_,e⟩
 |set S n=>obtain⟨o,_,_,_,e,_⟩:=x;exact⟨_,e⟩
 |ins C dx fs=>obtain⟨_,_,_,e,_⟩:=x;exact⟨_,e⟩
 |own y=>exact x
 |xd fs=>obtain⟨_,⟨_,_,_,e,_⟩,_⟩:=x;exact⟨_,e⟩
 |rng lo hi=>obtain⟨_,_,_,e⟩:=x;exact⟨_,e⟩
 |frz b u=>obtain⟨e,_⟩:=x;exact⟨_,e⟩
 |ctb pos q=>obtain⟨_,e,_⟩:=x;exact⟨_,e⟩
 |tbl ps=>exact⟨_,(show h.get? a=ba _ from x)⟩
 |met f y=>exact⟨_,(show h.get? a=ba _ from x)⟩
 |ext c=>exact x.2.1
structure XP(K:Ah)(C Cp:Ux):Prop where
 at_:Gs K Vd "PackError"=ba (ba (.ref Cp))
 ty:W.typeIn K (.ref Cp)=ba (.type "type")
 cls:(Tz K Cp).isSome=bc
 base:Tx K (.ref Cp) (.type "BaseException")=ba bc
 sub:Tx K (.ref C) (.ref Cp)=ba bc
structure XC(K:Ah)(x:Va)(C:Ux):Prop where
 at_:Gs K Vd x=ba (ba (.ref C))
 att:XA K C
 cls:(Tz K C).isSome=bc
 pk:∃Cp,XP K C Cp
structure XE(K:Ah)(x:Va)(C:Ux):Prop where
 xc:XC K x C
 exc:W.excIn K C vbs "ValueError.__new__"=bc
def ExcF(l:List Env)(g:Vg)(H:Hp)(C:Ux)(p:Option Ux)(e:Uw)(h:Vg):Prop:=
 ∃a a0 B,e=.ref a/\Lp B l a (.ref C) a0 h/\Dc a p h/\(∀b o,g.get? b=ba o->b∉SH l->∃o',h.get? b=ba o'/\B.get? b=ba o')/\∀b u,H b=ba u->∃o,h.get? b=ba o/\B.get? b=ba o
def GQ(P:Aw)(w:Ve):CXT:=λouter H s E e s'=>∃C p H1,s'.os=s.os/\Mg s'.gens/\Un (SH outer) [] H H1 s.heap s'.heap/\SW P w H1 s'.heap/\ExcF outer s.heap H1 C p e s'.heap/\E (.ref C) p H1
def AS{P:Aw}{w:Ve}{H:Hp}{h h' B:Vg}(ok:SW P w H h)(st:B.StaysIn h')(i:∀b u,H b=ba u->∃o,h.get? b=ba o/\B.get? b=ba o):SW P w H h':=λb u e=>
 (ok b u e).stay (λc v hc q => by
  have:∃u,H c=ba u:=by
   rcases hc with rfl|hc
   ·exact⟨u,e⟩
   ·exact⟨_,hc⟩
  obtain⟨d,g⟩:=this;obtain⟨o,a,f⟩:=i c d g;rw[q]at a;cases a;exact st c v f) (λ_ q=>q) λ_ _ _ q=>q
section
variable{X:Cx}{aa:List (Ux×Vi)}{σ:St}{H H1:Hp}{s s':Ae}{g h' B:Vg}{C a:Ux}{a0:Uw}
def cF.fly(I:cF X aa σ H s)(st:B.StaysIn h')(w:s.heap.UpToSlots h')(K:∀b o,X.s₀.heap.get? b=ba o->b∉SH X.stack->∃o',s.heap.get? b=ba o'/\B.get? b=ba o')(P:∀p∈X.pn++aa,B.get? p.1=ba p.2)(Q:∀b u,H b=ba u->∃o,s.heap.get? b=ba o/\B.get? b=ba o):cF X aa σ H {s with heap:=h'}:=by
 have C:∀b o,X.s₀.heap.get? b=ba o->b≠X.env.locals:=λb o e=>Bb (Az (An e) I.ok.above);have j:∀b o,X.s₀.heap.get? b=ba o->b∉X.fs->b∉SH X.stack:=λb o e a z=>(Ak.mp (I.stkSub b z)).elim (C b o e) a;have J:∀b∈X.fs,∀o,s.heap.get? b=ba o->∃y,h'.get? b=ba {o with slots:=y}:=λb a o e=>by obtain⟨_,o',F,A⟩:=I.funs.mem a;rw[e]at F;cases F;exact w b o e A
 have G:∀x c,X.env.cells.lookup x=ba c->∀v,s.heap.IsCell c v->h'.IsCell c v:=λx c _ v q0=>by
  obtain⟨o,M,E⟩:=q0;obtain⟨y,e⟩:=w c o M λvs q=>by rw[E]at q;cases q
  exact⟨_,e,E⟩
 refine⟨I.ok,I.os,I.bare,⟨λb o e n a t=>?_,λb o e n a t=>?_,I.base.free,λb o e t=>?_,I.base.tups,I.base.frzs,I.base.tbls⟩,?_,λx c e=>?_,I.free,I.freeC,λp D=>?_,AS I.hok st Q,I.len⟩
 ·obtain⟨o',g,f⟩:=K b o e (j b o e a)
  rw[I.base.keep b o e n a t]at g;cases g;exact st b o f
 ·obtain⟨y,g⟩:=I.base.slot b o e n a t
  obtain⟨h,f⟩:=J b a _ g;exact⟨h,f⟩
 ·by_cases a:b∈X.fs
  ·obtain⟨o',g⟩:=I.base.there b o e t
   obtain⟨h,f⟩:=J b a _ g;exact⟨_,f⟩
  ·obtain⟨o',g,f⟩:=K b o e (j b o e a)
   exact⟨o',st b o' f⟩
 ·obtain⟨m,N,hl⟩:=I.loc
  refine⟨m,w.ns N,λi x v g f O=>?_⟩;obtain⟨u,r,l⟩:=hl i x v g f O;refine⟨u,r,?_⟩;rcases l with l|⟨k,c,e,z⟩
  ·exact .inl l
  ·exact .inr ⟨k,c,e,G x c e _ z⟩
 ·obtain⟨v,z⟩:=I.cell x c e
  exact⟨v,G x c e v z⟩
 ·obtain⟨e,n,L,A,d⟩:=I.pin p D
  exact⟨st _ _ (P p D),n,L,A,d⟩
structure Low(X:Cx)(aa:List (Ux×Vi))(g:Vg):Prop where
 s0:∀b o,X.s₀.heap.get? b=ba o->b∉SH X.stack->∃o',g.get? b=ba o'
 pin:∀p∈X.pn++aa,∃o,g.get? p.1=ba o
def cF.low(I:cF X aa σ H s)(a:X.ex=[]):Low X aa s.heap:=
 ⟨λb o e _=>I.base.there b o e (by rw[a];simp),λp c=>⟨_,(I.pin p c).1⟩⟩
def cF.flyG(I:cF X aa σ H s)(lo:Low X aa g)(st:B.StaysIn h')(h:s.heap.UpToSlots h')(f:∀b o,g.get? b=ba o->b∉SH X.stack->∃o',s.heap.get? b=ba o'/\B.get? b=ba o')(n:∀b u,H b=ba u->∃o,s.heap.get? b=ba o/\B.get? b=ba o):cF X aa σ H {s with heap:=h'}:=by
 refine I.fly st h (λb o e c=>?_) (λp a=>?_) n
 ·obtain⟨o',m⟩:=lo.s0 b o e c
  exact f b o' m c
 ·obtain⟨o,e⟩:=lo.pin p a
  obtain⟨l,_,j,i,_⟩:=I.pin p a;obtain⟨o',d,k⟩:=f p.1 o e λz=>(Ak.mp (I.stkSub _ z)).elim j i;rw[l]at d;cases d;exact k
def RzF(X:Cx)(R:Va->Option Ux->St->Hp->Prop):Prop:=∀(aa:List (Ux×Vi)) (x:Va) (C:Ux) (p:Option Ux) (σ:St) (H1:Hp) (e:Uw) (s':Ae) (g:Vg),XC X.K x C->cF X aa σ H1 s'->ExcF X.stack g H1 C p e s'.heap->Low X aa g->R x p σ H1->X.xe e s'
def RzM(X:Cx)(R:Va->Option Ux->St->Hp->Prop):Prop:=∀(aa:List (Ux×Vi)) (x:Va) (C a:Ux) (args:List Uw) (σ:St) (H1:Hp) (h:Vg) (s':Ae),XC X.K x C->cF X aa σ H1 {s' with heap:=h}->Heap.MadeExcOf h s'.heap a (.ref C) args->R x bb σ H1->X.xe (.ref a) s'
end
section
variable{P:Aw}{w:Ve}{K:Ah}{mg:Va->Option Uw}{base:Vg}{N:List Va}{qual:Va}{scope:Vk}{f:Ux}{cd:Uw}{A:Bw}{outer:List Env}{s:Ae}{H:Hp}{E:XK}
def rE(K:Ah)(E:XK):Va->Option Ux->St->Hp->Prop:=λx p _ H1=>∀C,XC K x C->E (.ref C) p H1
def BI{aa:List (Ux×Vi)}{σ:St}{H1:Hp}{s':Ae}{g h' B:Vg}{C a:Ux}{p:Option Ux}{a0:Uw}{d:Drawn}{tk:Nat}(O:Dc a p h')(I:cF (UT (GQ P w) P w K mg base N qual scope f cd A outer s H E) aa σ H1 s')(lo:∀b o,s.heap.get? b=ba o->b∉SH (envOfC qual scope s.heap.objs.size f cd::outer)->∃o',g.get? b=ba o')(k:Lp B outer a (.ref C) a0 h')(G:s'.heap.UpToSlots h')(Q:∀b o,g.get? b=ba o->b∉SH (envOfC qual scope s.heap.objs.size f cd::outer)->∃o',s'.heap.get? b=ba o'/\B.get? b=ba o')(F:∀b u,H1 b=ba u->∃o,s'.heap.get? b=ba o/\B.get? b=ba o)(M:E (.ref C) p H1):GQ P w outer H s E (.ref a) {s' with heap:=h',drawn:=d,toks:=tk}:=by
 have bs:Un (SH outer) [] H H1 s.heap s'.heap:=I.base;have r:s'.heap.FunFrames base (envOfC qual scope s.heap.objs.size f cd::outer):=I.stack;have j:∀b o,s.heap.get? b=ba o->b∉SH outer->∃o',s'.heap.get? b=ba o'/\B.get? b=ba o':=λb o q c=>by
  have x:b∉SH (envOfC qual scope s.heap.objs.size f cd::outer):=λz=>by
   rcases Ak.mp (show b∈s.heap.objs.size::SH outer from z)with z|z
   ·have:=An q
    rw[z]at this;exact absurd this (Cq _)
   ·exact c z
  obtain⟨o',e⟩:=lo b o q x;exact Q b o' e x
 have D:∀b∈SH outer,∀o,s'.heap.get? b=ba o->∃v,h'.get? b=ba {o with slots:=v}:=λb c o e=>by obtain⟨_,o',y,J⟩:=r.mem (Ap _ c:b∈s.heap.objs.size::SH outer);rw[e]at y;cases y;exact G b o e J
 refine⟨C,p,H1,I.os,I.bare,⟨λb o q n c m=>?_,λb o q n c m=>?_,bs.free,λb o q m=>?_,bs.tups,bs.frzs,bs.tbls⟩,AS I.hok k.1 F,⟨a,a0,B,rfl,k,O,λb o e L=>?_,λb u e=>?_⟩,M⟩
 ·obtain⟨o',i,h⟩:=j b o q c
  rw[bs.keep b o q n c m]at i;cases i;exact k.1 b o h
 ·obtain⟨v,i⟩:=bs.slot b o q n c m
  obtain⟨l,t⟩:=D b c _ i;exact⟨l,t⟩
 ·by_cases c:b∈SH outer
  ·obtain⟨o',i⟩:=bs.there b o q m
   obtain⟨l,t⟩:=D b c _ i;exact⟨_,t⟩
  ·obtain⟨o',i,h⟩:=j b o q c
   exact⟨o',k.1 b o' h⟩
 ·obtain⟨o',i,h⟩:=j b o e L
  exact⟨o',k.1 b o' h,h⟩
 ·obtain⟨o,i,h⟩:=F b u e
  exact⟨o,k.1 b o h,h⟩
def NV:RzF (UT (GQ P w) P w K mg base N qual scope f cd A outer s H E) (rE K E):=by intro aa x C p σ H1 e s' g i I F lo j;obtain⟨a,a0,B,rfl,k,l,n,m⟩:=F;exact L8 (KD.leave _ _) l (wpAny_leaves_onW (I.ok.frames.trans rfl) rfl k λh' b h c=>BI (d:=s'.drawn) (tk:=s'.toks) c I lo.s0 b h n m (j C i))
def II:RzM (UT (GQ P w) P w K mg base N qual scope f cd A outer s H E) (rE K E):=by
 intro aa x C a args σ H1 h s' n I M r;have i:h.FunFrames base (envOfC qual scope s.heap.objs.size f cd::outer):=I.stack;have j:∀env∈(envOfC qual scope s.heap.objs.size f cd::outer),∀b,env.frame=ba b->b∈SH (envOfC qual scope s.heap.objs.size f cd::outer):=λenv p b k=>Ii.mpr ⟨env,p,k⟩;have y:Dc a bb s'.heap:=by obtain⟨t,e,_⟩:=M.there;exact Dc.of e
 refine L8 (KD.leave _ _) y (wpAny_leaves_madeW (base:=W.hideAll h (SH (envOfC qual scope s.heap.objs.size f cd::outer))) (h:=h) (I.ok.frames.trans rfl) rfl (λb o q=>W.of_hideAll _ q) (W.funFrames_hide i j) M λh' t v _ _ m l=>?_);have c:h.UpToSlots h':=(Ua M.keeps).trans m;exact BI (s':={s' with heap:=h}) (g:=h) (d:=s'.drawn) (tk:=s'.toks) l I (λb o q _=>I.base.there b o q (λz=>nomatch z)) v c (λb o e k=>⟨o,e,Oy _ e k⟩) (λb u e=>by obtain⟨o,q⟩:=(I.hok b u e).alive;exact⟨o,q,Oy _ q λz=>by have:=I.stkFree b z;rw[e]at this;cases this⟩) (r C n)
end
def nK{K:Ah}{h:Vg}{C:Ux}{c:List Uw}{i:String}(X:K.In h)(q:W.excIn K C c i=bc):∃bm N nm q bs hdct sn sub ab col dd k0 k1 k2 k3 k5 mN,h.get? C=ba (excClassObj nm q C N bs bm hdct sn sub ab col dd k0 k1 k2 k3 k5 i)/\h.Ns N mN/\mN "__init__"=bb/\OwnTail h c bm:=by
 unfold W.excIn at q;split at q
 ·rename_i dd cd d l
  split at q
  ·rename_i p bm k0 k1 k2 k3 n k5 f e
   simp only[Af,beq_iff_eq,Bool.not_eq_true']at q;obtain⟨⟨⟨⟨⟨rfl,rfl⟩,g⟩,k⟩,a⟩,b⟩:=q;obtain⟨nm,bs,mro,ns,j,m,sn,sub,ab,col,o⟩:=cd;dsimp only at f g a b;subst f g;obtain⟨d⟩:=d;simp only at e;subst e;exact⟨bm,ns,nm,j,bs,m,sn,sub,ab,col,dd,k0,k1,k2,k3,k5,_,X _ _ l,.of_isNs (W.isNs_of_in X a),W.nsMap_none_of_in X a b,W.tail_of_in X k⟩
  ·cases q
 ·cases q
abbrev Xw:=Va×Option (Va×cV)
abbrev VZ:=Ev->Option (Xw×Ev)
noncomputable def Pay(K:Ah)(N:Ux->Prop)(H:Hp):Option Ux->Option (Va×cV)->Prop
 |none,bb=>True
 |some D,ba (n,d)=>∃v,H D=ba (.xd [(n,v)])/\bC K N H N v d
 |_,_=>False
def Pay.mono{K:Ah}{N N':Ux->Prop}{H:Hp}{p:Option Ux}{y:Option (Va×cV)}(h:Pay K N H p y)(b:∀a,N' a->N a):Pay K N' H p y:=by
 unfold Pay at h⊢;split at h
 ·trivial
 ·obtain⟨v,e,r⟩:=h
  exact⟨v,e,r.mono b b⟩
 ·exact h
def TZ(R:Va->Option Ux->St->Hp->Prop)(K:Ah)(ml:List Nat)(z:VZ)(σ:St)(H:Hp):Prop:=∃B O δ x δ',aR K ml B O H σ δ/\z δ=ba (x,δ')/\∀a H' b p,aR K ml B b H' a δ'->Pay K (Nn B b) H' p x.2->R x.1 p a H'
abbrev ZE(R:Va->Option Ux->St->Hp->Prop)(K:Ah)(ml:List Nat)(z:VZ):TE:=λσ H _=>TZ R K ml z σ H
abbrev ZS(R:Va->Option Ux->St->Hp->Prop)(K:Ah)(ml:List Nat)(z:VZ):TS:=λ_ σ H=>TZ R K ml z σ H
section
variable{X:Cx}{K:Ah}{ml:List Nat}{e a b c:Vc}{es:List Vc}{pa ta ia pb tb ib pc tc ic pu bt bi ps bs:Bool}{fa fb fc f:VF}{B B':Bs}{O:Nat->Option Ux}{H H1 H':Hp}{σ:St}{δ δ':Ev}{v:V}{d:cV}{pos:Pos}{st:Vj}{rest:List Vj}{g g':VS}{z z':VZ}{R:Va->Option Ux->St->Hp->Prop}
def zNo:VZ:=λ_=>bb
def IT{a:List Vj}:W7 X a (ZS R K ml zNo):=λ_ _ _ _ _ _ h=>by obtain⟨_,_,_,_,_,_,q,_⟩:=h;cases q
def LX(z z':VZ):VZ:=λδ=>match z δ with
 |some r=>ba r
 |none=>z' δ
def kq(h:TZ R K ml (LX z z') σ H):TZ R K ml z σ H∨TZ R K ml z' σ H:=by
 obtain⟨B,O,δ,x,δ',S,q,k⟩:=h;unfold LX at q;cases h1:z δ with
 |some r=>rw[h1]at q;exact .inl ⟨B,O,δ,x,δ',S,h1.trans q,k⟩
 |none=>rw[h1]at q;exact .inr ⟨B,O,δ,x,δ',S,q,k⟩
def IS{a:List Vj}(h1:W7 X a (ZS R K ml z))(h2:W7 X a (ZS R K ml z')):W7 X a (ZS R K ml (LX z z')):=λaa s σ H D I h=>
 (kq h).elim (h1 aa s σ H D I) (h2 aa s σ H D I)
noncomputable def GL(g:VS)(z:VZ):VZ:=λδ=>match g δ with
 |some (.nx δ')=>z δ'
 |_=>bb
def IU(h1:PS X st (WL K ml g))(h2:W7 X rest (ZS R K ml z)):W7 X (st::rest) (ZS R K ml (GL g z)):=(UM h1 h2).imp λD σ H q0=>by
 obtain⟨B,O,δ,x,δ',S,q,k⟩:=q0;unfold GL at q;split at q
 ·rename_i δ1 b
  exact⟨B,O,δ,.nx δ1,S,b,λa H' d c=>⟨B,d,δ1,x,δ',c,q,k⟩⟩
 ·cases q
def ZK(h:PS X st (ZS R K ml z)):W7 X (st::rest) (ZS R K ml z):=(UM h dO).imp λ_ _ _ h=>h
def zIf(t:VB)(z z':VZ):VZ:=λδ=>(t δ).bind λp=>if p.1=bc then z p.2 else z' p.2
def CI{x y:List Vj}{t:VB}(b:PT X c (TB K ml pc t))(e:W7 X x (ZS R K ml z))(d:W7 X y (ZS R K ml z')):PS X (.If c x y pos) (ZS R K ml (zIf t z z')):=(Xr b e d).imp λD σ H q0=>by
 obtain⟨B,O,δ,x,δ',S,q,k⟩:=q0;unfold zIf at q;cases h1:t δ with
 |none=>rw[h1]at q;cases q
 |some p=>
  obtain⟨kk,δ1⟩:=p;rw[h1]at q;refine⟨B,O,δ,kk,δ1,S,h1,λH1 a=>?_⟩;cases kk with
  |true=>exact PQ ⟨B,O,δ1,x,δ',a.sta,q,k⟩
  |false=>exact PP ⟨B,O,δ1,x,δ',a.sta,q,k⟩
def jM{t:VB}(e:PT X c (TB K ml pc t))(g:PE X a (ZE R K ml z))(f:PE X b (ZE R K ml z')):PE X (.IfExp c a b pos) (ZE R K ml (zIf t z z')):=(FK e g f).imp λσ H Q q0=>by
 obtain⟨B,O,δ,x,δ',S,q,k⟩:=q0;unfold zIf at q;cases h1:t δ with
 |none=>rw[h1]at q;cases q
 |some p=>
  obtain⟨kk,δ1⟩:=p;rw[h1]at q;refine⟨B,O,δ,kk,δ1,S,h1,λH1 d=>?_⟩;cases kk with
  |true=>exact PQ ⟨B,O,δ1,x,δ',d.sta,q,k⟩
  |false=>exact PP ⟨B,O,δ1,x,δ',d.sta,q,k⟩
def Zl(h:PE X e (ZE R K ml z)):PS X (.Return (ba e) pos) (ZS R K ml z):=(HX h).imp λ_ _ _ h=>h
def NW(h:PE X e (ZE R K ml z))(a:Hj e bb pos.line X.env=pure bd:=by rfl):PS X (.Expr e pos) (ZS R K ml z):=(HW h a).imp λ_ _ _ h=>h
def NH{x:Va}{y af c:Pos}{t:Va}{j:Nat}(L:X.K=K)(hz:RzM X R)(hc:X.calm=bc)(J:Gl X x)(A:∃C,XE K x C/\X.mg x=ba (.ref C))(g:(x==("__debug__":Va))=bd:=by decide)(d:(Em af (Uz [.Constant (.str t) j c] X.env)).any (·.1)=bd:=by rfl):PS X (.Raise (ba (.Call (.Name x y) [.Constant (.str t) j c] [] af)) bb pos) (ZS R K ml λδ=>ba ((x,bb),δ)):=by intro aa s σ H D I h;obtain⟨B,O,δ,M,δ',S,q,k⟩:=h;cases q;subst L;obtain⟨C,n,G⟩:=A;obtain⟨bm,N,nm,q,bs,hdct,sn,sub,ab,col,dd,k0,k1,k2,k3,k5,mN,w,v,u,m⟩:=nK I.ok.mod.kin n.exc;refine wpAny_Raise_call_subT (C:=C) (nm:=nm) (q:=q) (N:=N) (bs:=bs) (bm:=bm) (hdct:=hdct) (sn:=sn) (sub:=sub) (ab:=ab) (col:=col) (dd:=dd) (k0:=k0) (k1:=k1) (k2:=k2) (k3:=k3) (k5:=k5) (mN:=mN) PySem.F.excBase_ValueError (m.hasType (by decide)) (I.ok.hd hc) d u (WG I J G ⟨rfl,?_⟩ g);have pa:PA X [.Constant (.str t) j c] _:=bN Xs aD;refine Ge (Bj (pa af aa s σ H (λvs H'=>H'=H/\vs.length=1) I ⟨rfl,rfl⟩) (λi l E=>?_) λ_ _ z=>z);obtain⟨vs,H2,p,r,rfl,hl⟩:=E;have kp:∀b o,X.base.get? b=ba o->l.heap.get? b=ba o:=λb o e=>(p.bs b o e).1;refine⟨rfl,?_,kp _ _ w,v.keeps kp,m.keeps kp,λh' a f=>hz aa x C a i σ H2 l.heap _ n.xc p f (k σ H2 O bb S trivial)⟩;show i.length<=sizeLine;rw[<-r.length,hl];decide
def iO{x:Va}{kk:Nat}{qs:List Va}{sp:Sp}{ff:Ux}{fd:Ci}{p':Pos}{t:TA}{CX:CXT}(F:YO X.prog X.w X.K X.mg X.base CX kk ff fd qs sp)(l:ZZ kk X.A)(o:Gl X x)(m:X.mg x=ba (.ref ff))(n:Hy X.K (.ref ff)=bc)(d:P9 X.K fd qs [])(q:PA X (e::es) t)(i:(x==("__debug__":Va))=bd:=by decide)(p:Uz (e::es) X.env=(bd,eval e X.env)::Uz es X.env:=by rfl)(g:(Em pos (Uz es X.env)).any (·.1)=bd:=by rfl):PE X (.Call (.Name x p') (e::es) [] pos) (λσ H Q=>t σ H λvs H1=>∃E,(∀(aa:List (Ux×Vi)) (s:Ae) (f:Uw) (s':Ae),cF X aa σ H1 s->CX X.stack H1 s E f s'->X.xe f s')/\sp vs H1 Q E):=by
 intro aa s σ H Q I h;refine Ds (WG I o m (Qt (h₀:=X.base) I.ok.mod.kin n (ZH (q pos aa s σ H _ I h) λc s1 a=>?_) p g) i);obtain⟨vs,H1,b,j,E,v,k⟩:=a;have hl:c.length=qs.length:=by rw[<-j.length];exact F.len _ _ _ _ k
 have d:=d s1 c b.kIn (by simpa using hl);rw[Ep]at d;refine⟨b.kIn,Lx (Gr (F.run X.A X.stack s1 H1 ⟨c,[]⟩ c vs Q E l b.env0 d j k) λr s' a=>?_)⟩;cases r with
 |error f=>exact v aa s1 f s' b a
 |ok y=>cases y with
  |ret u=>exact b.after a
  |next=>cases a
  |brk=>cases a
  |cont=>cases a
def spX(K:Ah)(n:Nat)(a:List cV->Option Xw):Sp:=λvs H _ E=>∃(Z:Ux->Prop) (ds:List cV) (x:Xw),ds.length=n/\Vs K [] Z H vs ds/\a ds=ba x/\∀C H' p,XC K x.1 C->bF H H'->Pay K Z H' p x.2->E (.ref C) p H'
structure DefX(P:Aw)(w:Ve)(K:Ah)(mg:Va->Option Uw)(base:Vg)(x:Va)(k:Nat)(ps:List Va)(XF:List cV->Option Xw)(f:Ux):Prop where
 at_:mg x=ba (.ref f)
 ok:∃fd,YO P w K mg base (GQ P w) k f fd ps (spX K ps.length XF)/\P9 K fd ps []
 kp:Hy K (.ref f)=bc
noncomputable def VC:List AV->Option (List cV)
 |[]=>ba []
 |.d d::as=>(VC as).map λds=>d::ds
 |.o _::_=>bb
theorem KL{N:Ux->Prop}:∀{vs:List V}{as:List AV}{ds:List cV},U6 K N H σ vs as->VC as=ba ds->vs.length=ds.length/\∀(i:Nat) (d:cV),ds[i]?=ba d->∃v,vs[i]?=ba v/\bC K N H N v d
 |_,_,_,.nil,h=>by cases h;exact⟨rfl,λi d e=>by simp at e⟩
 | _,.d a :: as,_,.d r t,h => by
  unfold VC at h;cases e:VC as with
  |none=>rw[e]at h;cases h
  |some ds=>
   rw[e]at h;cases h;obtain⟨h1,h2⟩:=KL t e;refine⟨by simp[h1],λi d q=>?_⟩;cases i with
   |zero=>simp at q;subst q;exact⟨_,rfl,r⟩
   |succ i=>exact h2 i d (by simpa using q)
 |_,.o _::_,_,.o _ _,h=>by cases h
def X6(n:Nat)(a:List cV->Option Xw)(fs:JB):VZ:=λδ=>(fs δ).bind λp=>(VC p.1).bind λds=>if ds.length=n then(a ds).map λx=>(x,p.2)else bb
def CB{fs:JB}{m:List cV->Option Xw}{n:Nat}{Q:VK}(hz:RzF X R)(M:X.K=K)(hex:X.ex=[])(h:TZ R K ml (X6 n m fs) σ H):TAG K ml ps fs σ H λvs H1=>∃E,(∀(aa:List (Ux×Vi)) (s:Ae) (f:Uw) (s':Ae),cF X aa σ H1 s->GQ X.prog X.w X.stack H1 s E f s'->X.xe f s')/\spX K n m vs H1 Q E:=by
 subst M;obtain⟨B,O,δ,x,δ',S,q,k⟩:=h;unfold X6 at q;cases h1:fs δ with
 |none=>rw[h1]at q;cases q
 |some p=>
  obtain⟨as,δ1⟩:=p;rw[h1,Av]at q;cases h2:VC as with
  |none=>rw[h2]at q;cases q
  |some ds=>
   rw[h2,Av]at q;split at q
   ·rename_i D
    cases l:m ds with
    |none=>rw[l]at q;cases q
    |some U=>
     rw[l]at q;cases q;refine⟨B,O,δ,as,δ1,S,h1,λvs H1 G=>⟨λv p H2=>∃x C,v=.ref C/\XC X.K x C/\R x p σ H2,λaa s f s' I hc=>?_,?_⟩⟩
     ·obtain⟨C,p,H2,os,c,un,ok,F,t,V,u,g,L⟩:=hc
      cases u;exact hz aa t C p σ H2 f s' s.heap g (I.call' os un ok c λb J=>nomatch J) F (I.low hex) L
     ·obtain⟨P,N⟩:=KL G.rep h2
      have o:∀a,Zp (Nn B O) [] vs a->Nn B O a:=λa z=>z.elim id λ⟨i,hi,_⟩=>nomatch hi;refine⟨Nn B O,ds,x,D,⟨P,λi hi=>(nomatch hi),λi d _ e=>?_,λi d hi=>(nomatch hi),λi j a hi=>(nomatch hi),⟨λa z=>G.sta.nin z,G.sta.tbs⟩⟩,l,λC H2 p g y A=>⟨x.1,C,rfl,g,k σ H2 O p (G.sta.same y) A⟩⟩;obtain⟨v,T,r⟩:=N i d e;exact⟨v,T,r.mono o o⟩
   ·cases q
def RE{x:Va}{kk j:Nat}{qs:List Va}{c:List cV->Option Xw}{ff:Ux}{p':Pos}{fs:JB}(hz:RzF X R)(l:X.K=K)(D:DefX X.prog X.w K X.mg X.base x kk qs c ff)(d:ZZ j X.A)(f:kk<=j)(g:Gl X x)(hex:X.ex=[])(k:PA X (e::es) (TAG K ml ps fs))(b:(x==("__debug__":Va))=bd:=by decide)(i:Uz (e::es) X.env=(bd,eval e X.env)::Uz es X.env:=by rfl)(a:(Em pos (Uz es X.env)).any (·.1)=bd:=by rfl):PE X (.Call (.Name x p') (e::es) [] pos) (ZE R K ml (X6 qs.length c fs)):=by obtain⟨fd,F,m⟩:=D.ok;subst l;exact(iO F (d.mono f) g D.at_ D.kp m k b i a).imp λσ H Q h=>CB hz rfl hex h
end
noncomputable def Q7(n:Nat)(z:VZ):List cV->Option Xw:=λds=>(z (bA [] n ds)).map (·.1)
def SO.okX{P:Aw}{w:Ve}{K:Ah}{mg:Va->Option Uw}{base:Vg}{x qual:Va}{st:Vj}{f:Ux}{fd:Ci}{N ps:List Va}{k:Nat}{z:VZ}(F:SO K x qual st f fd)(S:aS N ps (cL st))(g:ps.length<=N.length)(I:∀(c:Uw) (A:Bw) (outer:List Env) (s:Ae) (H:Hp) (E:XK),ZZ k (A.deeper (envOfC qual (cL st) s.heap.objs.size f c))->W7 (UT (GQ P w) P w K mg base N qual (cL st) f c A outer s H E) (aY st) (ZS (rE K E) K [] z)):YO P w K mg base (GQ P w) (k+1) f fd ps (spX K ps.length (Q7 N.length z)):=by
 obtain⟨oc,od,kV,doc,M,O,c,ct,r,rfl,u,l⟩:=F.ex;refine Ws u l S (λvs H Q E h=>?_) λA outer s H vs Q E v e=>⟨_,I c A outer s H E v,?_⟩
 ·obtain⟨Z,ds,x,j,AV,_⟩:=h
  rw[AV.len,j]
 ·obtain⟨Z,ds,x,j,AV,d,D⟩:=e
  obtain⟨t,B,J⟩:=P4 (N:=N) AV (by rw[j];exact g);unfold Q7 at d;cases h1:z (bA [] N.length ds)with
  |none=>rw[h1]at d;cases d
  |some p=>
   obtain⟨n,δ'⟩:=p;rw[h1]at d;cases d;exact⟨_,t,_,n,δ',J,h1,λm H' R p L y C G=>D C H' p G (λb o q=>L.frm b o q λ⟨i,hi,_⟩=>nomatch hi) (y.mono λa z=>.inl z)⟩
end L2
namespace L2
open PySem PySem.Spec PyProof.Rows PySem.W PySem.Calls PySem.Builtin PySem.Builtin.ObjectAttr PySem.Builtin.Getset_descriptor
section
variable{prog:Aw}{w:Ve}{A:Bw}{E:Uw->Ae->Prop}{s:Ae}{K:Vr}{x C:Ux}{o:Vi}{R:Ui->Ae->Prop}
def dR{a:Uw}(X:K.In s.heap)(b:s.heap.get? x=ba o)(hc:o.cls=.ref C)(F:XA K C)(h:R (.ok (.ret (.ref C))) s):Hg (Vb prog w) A (.call (.builtin "getset_descriptor.__get__") ⟨[.builtin "object.__class__",.ref x,a],[]⟩) R s:=by
 obtain⟨c,g,d,t,os⟩:=s;have f:Looks (Vb prog w) c (Qu (.ref x)) (.ref C):=hc▸(Rt b).andThen .now;have e:=looks_mroIn (M:=Vb prog w) X F.mro;refine Nz KF.slot_gs.plain KF.entry_gs (KF.slot_gs.check _ _ _ _ _ _ _ _ KF.type_class (KF.args_gs _ _ _) ?_);unfold Fi.«getset_descriptor.__get__» descrGet;rw[dga_obj];refine Aa (Ag ?_);unfold descrGetter descrCheckInstance descrNameAndClass Tk;simp only[KF.owner_class];repeat lk
 refine⟨Code.quiet_builtin _ (by decide+kernel),Fq KF.entry_class ?_⟩;unfold Fi.«object.__class__» shownTypeOf;repeat lk
 exact h
def lM{tk:Vp}{Q:Fin->Ae->Prop}(X:K.In s.heap)(b:s.heap.get? x=ba o)(hc:o.cls=.ref C)(F:XA K C)(h:Q (.done (.ret (.ref C))) s):Uy (Vb prog w) A (Fi.«object.__getattribute__» ⟨[.ref x,.str "__class__" tk],[]⟩) Q E s:=by
 obtain⟨a,g,c,t,os⟩:=s;have j:Looks (Vb prog w) a (Qu (.ref x)) (.ref C):=hc▸(Rt b).andThen .now;have i:=Qz (M:=Vb prog w) X F.cls;have f:Looks (Vb prog w) a (getOf (ba (.builtin "object.__class__"))) (ba (.builtin "getset_descriptor.__get__")):=looks_specialIn X F.get;have e:=looks_takesIn (M:=Vb prog w) X F.tak;have d:Looks (Vb prog w) a (find (.ref x) (.ref C) "__class__") (.bind (.builtin "getset_descriptor.__get__") (.builtin "object.__class__")):=
  i.andThen (f.andThen ((show Looks (Vb prog w) a (dataDescriptor? (ba (.builtin "object.__class__")) (ba (.builtin "getset_descriptor.__get__"))) (ba (.builtin "getset_descriptor.__get__",.builtin "object.__class__")) from e.andThen .now).andThen (Looks.tag .now)))
 unfold Fi.«object.__getattribute__»;repeat (any_goals (first|assumption|with_reducible refine Looks.at j ?_|with_reducible refine Looks.at d ?_|wp_step))
 refine dR (s:=⟨a,g,c,t,os⟩) X b hc F ?_;exact Ag h
def jY{tk:Vp}(X:K.In s.heap)(b:s.heap.get? x=ba o)(hc:o.cls=.ref C)(F:XA K C)(h:R (.ok (.ret (.ref C))) s):Hg (Vb prog w) A (.call (.builtin "BaseException.__getattribute__") ⟨[.ref x,.str "__class__" tk],[]⟩) R s:=by
 obtain⟨a,g,c,t,os⟩:=s;have i:Looks (Vb prog w) a (Qu (.ref x)) (.ref C):=hc▸(Rt b).andThen .now;have f:=looks_subIn (M:=Vb prog w) X F.sub;have e:builtinKind "BaseException.__getattribute__"=ba .slot:=by decide+kernel
 have d:splitId "BaseException.__getattribute__"=ba ("BaseException","__getattribute__"):=by decide+kernel
 have j:=PySem.F.args_bexc_ga (.ref x) (.str "__class__" tk);refine Nz PySem.F.excAttr_ValueError.ga.plain PySem.F.entry_bexc_ga (Bj (Q:=λ_ s'=>s'=⟨a,g,c,t,os⟩) ?_ (λ_ s' z=>?_) λ_ _ z=>z)
 ·simp only[Mu,e,d]
  unfold Tk;repeat (any_goals (first|rfl|assumption|with_reducible refine Looks.at i ?_|with_reducible refine Looks.at f ?_|wp_step))
 ·subst z
  refine lM (s:=⟨a,g,c,t,os⟩) X b hc F ?_;exact h
def fM{Q:Option Uw->Ae->Prop}(X:K.In s.heap)(a:s.heap.get? x=ba o)(hc:o.cls=.ref C)(F:XA K C)(h:Q (ba (.ref C)) {s with toks:=s.toks+1}):Uy (Vb prog w) A (Ub (.ref x) "__class__") Q E s:=by
 obtain⟨b,g,d,t,os⟩:=s;have c:Looks (Vb prog w) b (Qu (.ref x)) (.ref C):=hc▸(Rt a).andThen .now;have f:=Qz (M:=Vb prog w) X F.ga;have e:=Qz (M:=Vb prog w) X F.no;have fb:=PySem.F.excAttr_ValueError.ga.bind (.ref x);unfold Ub getAttrBy? getAttrBy;refine Aa (wpAny_mkText (Aa (Kc (Bv (Aa (c.at (Aa (f.at ?_))))))));show Uy _ _ (getAttrByItsOwn _ _ _ _ _ _) _ _ _;unfold getAttrByItsOwn hookBefore callGetattribute boundAndCalled;repeat (any_goals (first|assumption|with_reducible refine Looks.at c ?_|with_reducible refine Looks.at e ?_|wp_step))
 refine jY (s:=⟨b,g,d,t+1,os⟩) X a hc F ?_;refine handed_on rfl ?_;first|exact h|exact Ag h|exact Ag (Ag h)
def EV(F:XA K C)(hdct:(clsIn K C).isSome=bc):KitX K (.ref x) (.ref C) (λh=>∃o,h.get? x=ba o/\o.cls=.ref C) where
 ty:=λM h _ p=>by obtain⟨o,h1,h2⟩:=p;exact h2▸(Rt h1).andThen .now
 it:=λ_ _ X _=>by
  unfold clsIn at hdct;split at hdct
  ·rename_i b
   intro j g i s' k q;unfold isType loadHead;exact Aa (wpAny_loadPart (k _ _ (X _ _ b)) (Ag q))
  ·cases hdct
 ne:=λh c dd d n f X a=>by
  refine Bool.eq_false_iff.mpr λq=>?_;have e:C=c:=Value.ref.inj (beq_iff_eq.mp q);subst e;unfold clsIn at hdct;split at hdct
  ·rename_i b
   have z:=(X _ _ b).symm.trans a;cases z
  ·cases hdct
 ca:=λX p k=>by obtain⟨o,h1,h2⟩:=p;exact fM X h1 h2 F k
end
end L2
namespace L2
open PySem PySem.Spec PyProof.Rows
structure X7(k:Nat)(A:Bw):Prop where
 dp:A.depth+3*k+5<Jt
 un:A.units+16*k+200<cLine
def ZZ.h{k:Nat}{A:Bw}(r:ZZ k A):X7 k A:=⟨r.dp,r.un⟩
def X7.mono{j k:Nat}{A:Bw}(r:X7 k A)(h:j<=k):X7 j A:=⟨by have:=r.dp;lia,by have:=r.un;lia⟩
def X7.deeper{k:Nat}{A:Bw}(r:X7 (k+1) A)(env:Env):X7 k (A.deeper env):=
 ⟨by have:=r.dp;show A.depth+1+3*k+5<_;lia,by have:=r.un;show A.units+3+16*k+200<_;lia⟩
def X7.units{k:Nat}{A:Bw}(r:X7 k A):A.units+64<cLine:=by have:=r.un;lia
def X7.unit{k:Nat}{A:Bw}(r:X7 k A):A.units+1<cLine:=by have:=r.un;lia
def cxH(P:Aw)(w:Ve)(K:Ah)(mg:Va->Option Uw)(base:Vg)(N:List Va)(qual:Va)(scope:Vk)(f:Ux)(cd:Uw)(A:Bw)(outer:List Env)(s:Ae)(H:Hp):Cx:=
 {UT CX0 P w K mg base N qual scope f cd A outer s H E0 with calm:=bd,xe:=λ_ _=>False}
structure FnH(P:Aw)(w:Ve)(K:Ah)(mg:Va->Option Uw)(base:Vg)(k:Nat)(f:Ux)(fd:Ci)(ps:List Va)(sp:Sp):Prop where
 len:∀vs H Q E,sp vs H Q E->vs.length=ps.length
 run:∀(A:Bw) (outer:List Env) (s:Ae) (H:Hp) (args:Args) (us:List Uw) (vs:List V) (Q:VK),X7 k A->Env0 P w K mg base A outer s H->Pz s fd args (ps.zip us)->bL vs us->sp vs H Q E0->
  Hg (Vb P w) A (.call (.ref f) args) (CR CX0 outer P w H s Q E0) s
def cF.around{X:Cx}{a:Bw}{aa:List (Ux×Vi)}{σ:St}{H:Hp}{s:Ae}{xe:Uw->Ae->Prop}(I:cF X aa σ H s)(b:a.frames=X.A.frames):cF {X with A:=a,calm:=bd,xe:=xe} aa σ H s:=
 ⟨⟨I.ok.mod,I.ok.kind,I.ok.glob,I.ok.blt,I.ok.above,I.ok.inj,I.ok.has,I.ok.cab,λz=>(nomatch z),b.trans I.ok.frames,I.ok.stk,I.ok.exf,I.ok.bs,I.ok.bsz,I.ok.noex,I.ok.exfs,I.ok.funs,I.ok.frf⟩,I.os,I.bare,I.base,I.loc,I.cell,I.free,I.freeC,I.pin,I.hok,I.len⟩
def cF.back{X:Cx}{a:Bw}{aa:List (Ux×Vi)}{σ:St}{H:Hp}{s:Ae}{xe:Uw->Ae->Prop}(ok:X.Ok)(I:cF {X with A:=a,calm:=bd,xe:=xe} aa σ H s):cF X aa σ H s:=
 ⟨ok,I.os,I.bare,I.base,I.loc,I.cell,I.free,I.freeC,I.pin,I.hok,I.len⟩
def SO.okH{P:Aw}{w:Ve}{K:Ah}{mg:Va->Option Uw}{base:Vg}{x qual:Va}{st:Vj}{f:Ux}{fd:Ci}{N ps:List Va}{k:Nat}{sp:Sp}(F:SO K x qual st f fd)(S:aS N ps (cL st))(len:∀vs H Q E,sp vs H Q E->vs.length=ps.length)(Z:∀(a:Uw) (A:Bw) (outer:List Env) (s:Ae) (H:Hp) (vs:List V) (Q:VK),X7 k (A.deeper (envOfC qual (cL st) s.heap.objs.size f a))->sp vs H Q E0->∃t,W7 (cxH P w K mg base N qual (cL st) f a A outer s H) (aY st) t/\t {nx:=λ_ H'=>Q .non H',rt:=Q} (start N vs) H):FnH P w K mg base (k+1) f fd ps sp:=by
 obtain⟨oc,od,kV,doc,pm,an,a,ct,C,rfl,D,m⟩:=F.ex;refine⟨len,λA outer s H args B vs Q p c R r h=>?_⟩;have hl:=len _ _ _ _ h;have z:K.In s.heap:=c.mod.kin.keeps λb o e=>(c.bs b o e).1;have l:s.heap.NoLimit:=c.mod.nolimit.keeps λb o e=>(c.bs b o e).1;have Y:∀y∈ps.zip B,(cL st).names.lookup y.1=ba .local∨((cL st).names.lookup y.1=ba .cell/\((Vl (s.heap.objs.size+1) (cL st).names []).lookup y.1).isSome=bc):=λ⟨n,v⟩ G=>by
  rcases S.par n (Kq G).1 with q|q
  ·exact .inl q
  ·exact .inr ⟨q,Mq _ _ _ (.inl q)⟩
 have T:A.depth<Jt:=by have:=p.dp;lia
 refine Nf T (z _ _ D) rfl S.co S.gen rfl (W.codeRec_of z m) (R _ _ _ _ ?_);refine Lg S.kind Y λenv O s1 x=>?_;subst O;refine⟨l.keeps x.toInCall.keep,codeAny_func ?_⟩;obtain⟨t,L,M⟩:=Z a A outer s H vs Q (p.deeper _) h;have X:Env0 P w K mg base {A with handled:=bb} outer s H:=⟨c.frames,c.mod,c.bs,c.bsz,c.funs,c.frf,c.hok,c.bare⟩;have I0:cF (UT CX0 P w K mg base N qual (cL st) f a {A with handled:=bb} outer s H E0) [] (start N vs) H s1:=JX S rfl X hl r x;have I:cF (cxH P w K mg base N qual (cL st) f a A outer s H) [] (start N vs) H s1:=I0.around rfl;refine Bj (L [] s1 (start N vs) H _ I M) (λU s' g=>?_) λe s' g=>(show False from g).elim;have i:∀{d:St}{H':Hp}{v:V}{u:Uw},cF (cxH P w K mg base N qual (cL st) f a A outer s H) [] d H' s'->bE v u->Q v H'->CE outer P w H s Q u s':=
  λ{d H' v u} J j q=>⟨v,H',J.os,J.bare,J.base,J.hok,j,q⟩
 cases U with
 |ret u=>
  obtain⟨v,d,H',J,j,q⟩:=g;exact i J j q
 |next=>
  obtain⟨d,H',J,q⟩:=g;exact i (v:=V.non) (u:=Value.none) J rfl q
 |brk=>
  obtain⟨_,_,_,q⟩:=g;cases q
 |cont=>
  obtain⟨_,_,_,q⟩:=g;cases q
structure DefH(P:Aw)(w:Ve)(K:Ah)(mg:Va->Option Uw)(base:Vg)(x:Va)(k:Nat)(ps:List Va)(sp:Sp)(f:Ux):Prop where
 at_:mg x=ba (.ref f)
 ok:∃fd,FnH P w K mg base k f fd ps sp/\P9 K fd ps []
 kp:Hy K (.ref f)=bc
section
variable{X:Cx}{K:Ah}{ml:List Nat}{e a b c:Vc}{es:List Vc}{ps:Bool}{pos:Pos}
def nR{x:Va}{kk j n:Nat}{qs:List Va}{mF:List Nat}{F:bM}{ff:Ux}{p':Pos}{fs:JB}(D:DefH X.prog X.w K X.mg X.base x kk qs (spV K mF n F) ff)(m:X7 j X.A)(v:PA X (e::es) (TAG K ml ps fs))(y:X.K=K:=by rfl)(o:kk<=j:=by decide)(p:Gl X x:=by rfl)(g:(x==("__debug__":Va))=bd:=by decide)(q:Uz (e::es) X.env=(bd,eval e X.env)::Uz es X.env:=by rfl)(f:(Em pos (Uz es X.env)).any (·.1)=bd:=by rfl):PE X (.Call (.Name x p') (e::es) [] pos) (TV K ml (ps&&mF.isEmpty) bc bc (cK n mF F fs)):=by
 subst y;obtain⟨fd,l,B⟩:=D.ok;refine PE.imp (t:=B6 (spV X.K mF n F) [] E0 (TAG X.K ml ps fs)) (λaa s σ H Q I h=>?_) λ_ _ _ h=>IN h;refine Ds (WG I p D.at_ (Qt (h₀:=X.base) I.ok.mod.kin D.kp (ZH (v pos aa s σ H _ I h) λb s1 a=>?_) q f) g);obtain⟨vs,H1,c,i,d⟩:=a;rw[Ep]at d;have hl:b.length=qs.length:=by rw[<-i.length];exact l.len _ _ _ _ d
 have k:=B s1 b c.kIn (by simpa using hl);rw[Ep]at k;refine⟨c.kIn,Lx (Gr (l.run X.A X.stack s1 H1 ⟨b,[]⟩ b vs Q (m.mono o) c.env0 k i d) λr s' a=>?_)⟩;cases r with
 |error C=>cases a
 |ok z=>cases z with
  |ret u=>exact c.after a
  |next=>cases a
  |brk=>cases a
  |cont=>cases a
end
def SO.okVH{P:Aw}{w:Ve}{K:Ah}{mg:Va->Option Uw}{base:Vg}{x qual:Va}{st:Vj}{f:Ux}{fd:Ci}{N ps:List Va}{k:Nat}{ml:List Nat}{g:VS}(F:SO K x qual st f fd)(S:aS N ps (cL st))(b:ps.length<=N.length)(e:∀(a:Uw) (A:Bw) (outer:List Env) (s:Ae) (H:Hp),X7 k (A.deeper (envOfC qual (cL st) s.heap.objs.size f a))->W7 (cxH P w K mg base N qual (cL st) f a A outer s H) (aY st) (WL K ml g)):FnH P w K mg base (k+1) f fd ps (spV K ml ps.length (a9 N.length ml g)):=by refine F.okH S (λvs H Q E h=>?_) (λa A outer s H vs Q c h=>⟨_,e a A outer s H c,Wj (E:=E0) b h⟩);obtain⟨Z,ds,r,os,d,AV,_⟩:=h;rw[AV.len,d]
structure XQ(K:Ah)(C Cp:Ux)(r:Bool):Prop where
 ty:W.typeIn K (.ref Cp)=ba (.type "type")
 cls:(Tz K Cp).isSome=bc
 base:Tx K (.ref Cp) (.type "BaseException")=ba bc
 sub:Tx K (.ref C) (.ref Cp)=ba r
def XP.q{K:Ah}{C Cp:Ux}(h:XP K C Cp):XQ K C Cp bc:=⟨h.ty,h.cls,h.base,h.sub⟩
def kK{r:Bool}{prog:Aw}{w:Ve}{A:Bw}{E:Uw->Ae->Prop}{s:Ae}{K:Ah}{x C Cp:Ux}{o:Vi}{Q:Bool->Ae->Prop}(X:K.In s.heap)(c:s.heap.get? x=ba o)(hc:o.cls=.ref C)(F:XQ K C Cp r)(h:Q r s):Uy (Vb prog w) A (excMatches (.ref x) (.ref Cp)) Q E s:=by
 obtain⟨b,g,n,t,os⟩:=s;cases r
 all_goals
  have m:W.Looks (Vb prog w) b (Qu (.ref x)) (.ref C):=hc▸(W.Looks.ld c).andThen .now;have l:=W.looks_typeIn (M:=Vb prog w) X F.ty;have j:=W.looks_subIn (M:=Vb prog w) X F.base;have i:=W.looks_subIn (M:=Vb prog w) X F.sub;have e:W.Looks (Vb prog w) b (isType (.ref Cp)) bc:=by
   have a:=F.cls;unfold Tz at a;split at a
   ·rename_i d
    intro v p u s' k q;unfold isType loadHead;exact Aa (wpAny_loadPart (k _ _ (X _ _ d)) (Ag q))
   ·cases a
  have f:=tc_notTuple;unfold excMatches isExcClass Tk;repeat (any_goals (first|assumption|with_reducible refine W.Looks.at m ?_|with_reducible refine W.Looks.at l ?_|with_reducible refine W.Looks.at j ?_|with_reducible refine W.Looks.at i ?_|with_reducible refine W.Looks.at e ?_|wp_step))
def excP(a C:Ux):Option Ux->Vg->Prop
 |none=>λh=>AA h a C
 |some D=>λh=>Xv h a C D
section
variable{X:Cx}{aa:List (Ux×Vi)}{σ:St}{H:Hp}{s:Ae}{h':Vg}{a C:Ux}
def cF.track{o:Vi}{vs:Array Uw}{p:Option Ux}(I:cF X aa σ H s)(N:H a=bb)(i:s.heap.get? a=ba o)(hc:o.cls=.ref C)(w:o.data=.fields vs)(g:o.dict=p)(L:X.s₀.heap.get? a=bb)(M:∀p∈X.pn++aa,p.1≠a):cF X aa σ (upd H a (.ext (excP a C p))) s:=by
 have y:∀b o,X.s₀.heap.get? b=ba o->b≠a:=λb o e z=>by rw[z,L]at e;cases e
 have f:∀b u,H b=ba u->b≠a:=λb u e z=>by rw[z,N]at e;cases e
 refine⟨I.ok,I.os,I.bare,⟨I.base.keep,I.base.slot,λb o e n K=>?_,I.base.there,λb xs e=>?_,λb o u e=>?_,λb ps e=>?_⟩,I.loc,I.cell,?_,λx c e=>?_,λp E=>?_,λb u e=>?_,I.len⟩
 ·rw[bV (y b o e)];exact I.base.free b o e n K
 ·have q:=I.base.tups b xs e
  rw[bV (f b _ q)];exact q
 ·have q:=I.base.frzs b o u e
  rw[bV (f b _ q)];exact q
 ·obtain⟨more,q⟩:=I.base.tbls b ps e
  exact⟨more,by rw[bV (f b _ q)];exact q⟩
 ·obtain⟨m,⟨P,_,_,r,t,_⟩,_⟩:=I.loc
  have:X.env.locals≠a:=λz=>by rw[z,i]at r;cases r;rw[w]at t;cases t
  rw[bV this];exact I.free
 ·obtain⟨v,oc,l,g⟩:=I.cell x c e
  have:c≠a:=λz=>by rw[z,i]at l;cases l;rw[w]at g;cases g
  rw[bV this];exact I.freeC x c e
 ·obtain⟨e,n,J,G,d⟩:=I.pin p E
  exact⟨e,by rw[bV (M p E)];exact n,J,G,d⟩
 ·by_cases F:b=a
  ·subst F
   rw[b9]at e;cases e;cases p with
   |none=>exact⟨⟨o,vs,i,hc,w⟩,⟨o,i⟩,λh1 h2 q k=>by obtain⟨j,h,D,B,A⟩:=q;exact⟨j,h,k j D,B,A⟩⟩
   |some Q=>exact⟨⟨o,vs,i,hc,w,g⟩,⟨o,i⟩,λh1 h2 q k=>by obtain⟨j,h,D,B,A,O⟩:=q;exact⟨j,h,k j D,B,A,O⟩⟩
  ·rw[bV F]at e
   exact(I.hok b u e).stay (λ_ _ _ q=>q) (λc q=>by rw[bV (f c _ q)];exact q) λc xs _ q=>by rw[bV (f c _ q)];exact q
def cF.unbound{r:Va->Option Uw}{t':Nat}(I:cF X aa σ H s)(ns:h'.Ns X.env.locals r)(f:Fn X.env.locals s.heap h'):cF X aa (As X.N.length bb) H {s with heap:=h',toks:=t'}:=by
 have a:∀b o,X.s₀.heap.get? b=ba o->b≠X.env.locals:=λb o e=>Bb (Az (An e) I.ok.above);have g:∀b u,H b=ba u->b≠X.env.locals:=λb u e z=>by rw[z,I.free]at e;cases e
 refine⟨I.ok,I.os,I.bare,⟨λb o e n j h=>(f.2 b (a b o e)).trans (I.base.keep b o e n j h),λb o e n j h=>?_,I.base.free,λb o e h=>?_,I.base.tups,I.base.frzs,I.base.tbls⟩,⟨r,ns,λi x v _ k _=>?_⟩,λx c e=>?_,I.free,I.freeC,λp y=>?_,λb u e=>?_,by simp⟩
 ·obtain⟨t,l⟩:=I.base.slot b o e n j h
  exact⟨t,(f.2 b (a b o e)).trans l⟩
 ·obtain⟨o',l⟩:=I.base.there b o e h
  exact⟨o',(f.2 b (a b o e)).trans l⟩
 ·rw[Dz]at k
  split at k<;>cases k
 ·obtain⟨v,z⟩:=I.cell x c e
  exact⟨v,z.sameBut f (I.cne x c e)⟩
 ·obtain⟨e,n,m,w,d⟩:=I.pin p y
  exact⟨(f.2 p.1 m).trans e,n,m,w,d⟩
 ·refine (I.hok b u e).stay (λc v hc q => (f.2 c ?_).trans q) (λ_ q => q) λ_ _ _ q => q
  rcases hc with rfl|hc
  ·exact g _ u e
  ·exact g c _ hc
end
def Cx.Ok.pns{X:Cx}(ok:X.Ok)(pn:List (Ux×Vi))(xe:Uw->Ae->Prop):Cx.Ok {X with pn:=pn,xe:=xe}:=
 ⟨ok.mod,ok.kind,ok.glob,ok.blt,ok.above,ok.inj,ok.has,ok.cab,ok.hd,ok.frames,ok.stk,ok.exf,ok.bs,ok.bsz,ok.noex,ok.exfs,ok.funs,ok.frf⟩
abbrev Cx.hnd(X:Cx)(a:Ux):Cx:={X with A:=X.A.mark (ba (.ref a)),calm:=bd,xe:=λ_ _=>False}
def C0:Xw->cV
 |(x,bb)=>.exn x
 |(x,ba (n,d))=>.exr x n d
section
variable{X:Cx}{K:Ah}{ml:List Nat}{pos:Pos}{g k kA:VS}{z:VZ}
def km{n:Va}{br:Pos}{b0:Vj}{c6:List Vj}{i:Nat}{aa:List (Ux×Vi)}{D:NX}{B:Bs}{R:Nat->Option Ux}{δ1 δ2:Ev}{d:cV}{E:Xw}{C a:Ux}{a0:Uw}{p:Option Ux}{c:St}{H2:Hp}{s':Ae}{gh Q S:Vg}(hN:X.N.Nodup)(hi:X.N[i]?=ba n)(hl:X.env.kindOf n=ba .local)(him:i∉ml)(Y:X.stack=X.env::X.outer)(hk:∀a,W7 (X.hnd a) (b0::c6) (WL X.K ml k))(hx:XC X.K E.1 C)(J':cF X aa c H2 s')(t:Low X aa gh)(fl5:Lp S (X.env::X.outer) a (.ref C) a0 Q)(dc5:Dc a p Q)(U:s'.heap.UpToSlots Q)(c1:∀b o,gh.get? b=ba o->b∉SH X.stack->∃o',s'.heap.get? b=ba o'/\S.get? b=ba o')(c2:∀b u,H2 b=ba u->∃o,s'.heap.get? b=ba o/\S.get? b=ba o)(S1:aR X.K ml B R H2 c δ1)(s:Pay X.K (Nn B R) H2 p E.2)(h3:k (δ1.set i (.va (C0 E)))=ba (.rt d δ2))(G:Post X.K ml B D (.rt d δ2)):Hg (Vb X.prog X.w) (X.A.mark (ba (.ref a))) (.handlers (.ref a) [.ExceptHandler bb (ba n) (b0::c6) br] X.env) (λr l=>match r with
   |.ok f=>Uy (Vb X.prog X.w) X.A (do Jr X.env n .none;unbindBehindTheSuite X.env n br) (λ_ F=>SP X aa D f F) X.xe l
   |.error x=>cameBackBy (Vb X.prog X.w) X.A X.env X.xe x l) {s' with heap:=Q}:=by
 refine codeAny_handlers_suite_as (L8 (KD.flight _ _) dc5 (lands_againW fl5 λh6 g T dc6=>?_));have I6:cF X aa c H2 {s' with heap:=h6}:=J'.flyG t g.1 (U.trans T) c1 c2;obtain⟨oe,vs,_,_,_,I,hcl,J,_⟩:=id g.2.2.2;have dct:oe.dict=p:=dc6.at I;have Bn:S.get? a=bb:=g.2.1;have H:a∉SH X.stack:=λhb=>by rw[Y]at hb;obtain⟨_,o',e',nf⟩:=g.2.2.1.mem hb;rw[I]at e';cases e';exact nf vs J
 have na:∀b o,gh.get? b=ba o->b≠a:=λb o e z=>by subst z;obtain⟨o',_,j⟩:=c1 b o e H;rw[Bn]at j;cases j
 have P:H2 a=bb:=by
  cases e:H2 a with
  |none=>rfl
  |some u=>
   obtain⟨o',_,j⟩:=c2 a u e;rw[Bn]at j;cases j
 have Z:X.s₀.heap.get? a=bb:=by
  cases e:X.s₀.heap.get? a with
  |none=>rfl
  |some o'=>
   obtain⟨V,j⟩:=t.s0 a o' e H;exact absurd rfl (na a V j)
 have I7:=I6.track (p:=p) (C:=C) P I hcl.1 J dct Z λq hq=>by obtain⟨V,j⟩:=t.pin q hq;exact na _ V j
 have S7:aR X.K ml B R (upd H2 a (.ext (excP a C p))) c δ1:=S1.same (cM P);refine YU (X:=X.hnd a) (I7.around rfl) hN hi (.inl hl) (v:=.ref a) rfl (λs8 I8=>?_) (.inr hl);have rx:∀M,bC X.K (Nn B R) (upd H2 a (.ext (excP a C p))) M (.ref a) (C0 E):=λM=>by
  obtain⟨xn,y⟩:=E;cases p with
  |none=>
   cases y with
   |none=>exact .exn hx.at_ b9 λh z=>z
   |some y=>exact s.elim
  |some D0=>
   cases y with
   |none=>exact s.elim
   |some y=>
    obtain⟨yn,yd⟩:=y;obtain⟨v,e,r⟩:=s;have nD:D0≠a:=λq=>by rw[q,P]at e;cases e
    exact .exr hx.at_ b9 (λh z=>z) (by rw[bV nD];exact e) (r.same (cM P))
 have S8:=S7.setVa (i:=i) (v:=.ref a) (d:=C0 E) him (rx _);refine Bj (hk a aa s8 _ _ ⟨λ_ _=>False,D.rt,λ_ _=>False,λ_ _=>False⟩ I8 ⟨B,_,_,.rt d δ2,S8,h3,G⟩) (λf s9 O=>?_) λe s9 I=>(show False from I).elim;cases f with
 |next=>obtain⟨_,_,_,z⟩:=O;cases z
 |brk=>obtain⟨_,_,_,z⟩:=O;cases z
 |cont=>obtain⟨_,_,_,z⟩:=O;cases z
 |ret u=>
  obtain⟨v,σ9,H9,L,r9,hD⟩:=O;have L:=L.back J'.ok;obtain⟨m,hn,_⟩:=id L.loc;refine wpAny_nameGoes hl hn (by rw[L.ok.kind];rfl) λh' m' W sb=>?_;exact⟨v,_,H9,L.unbound W sb,r9,hD⟩
noncomputable def FW(g:VS)(z:VZ)(i:Nat)(kk:Va->VS):VS:=λδ=>match g δ with
 |some o=>ba o
 | none => match z δ with
  |some (x,δ1)=>match kk x.1 (δ1.set i (.va (C0 x)))with
   |some (.rt d δ2)=>ba (.rt d δ2)
   |_=>bb
  |none=>bb
def sTry(g:VS)(z:VZ)(i:Nat)(k:VS):VS:=FW g z i λ_=>k
structure Xq(X:Cx)(ml:List Nat)(i:Nat)(kk:Va->VS)(aa:List (Ux×Vi))(D:NX)(C a:Ux)(x:Xw)(s':Ae)(h5:Vg):Prop where
 xc:XC X.K x.1 C
 ex:∃B O' δ1 δ2 d a0 p σ2 H2 gh Bh,cF X aa σ2 H2 s'/\Low X aa gh/\Lp Bh (X.env::X.outer) a (.ref C) a0 h5/\Dc a p h5/\s'.heap.UpToSlots h5/\(∀b o,gh.get? b=ba o->b∉SH X.stack->∃o',s'.heap.get? b=ba o'/\Bh.get? b=ba o')∧
  (∀b u,H2 b=ba u->∃o,s'.heap.get? b=ba o/\Bh.get? b=ba o)/\aR X.K ml B O' H2 σ2 δ1/\Pay X.K (Nn B O') H2 p x.2/\kk x.1 (δ1.set i (.va (C0 x)))=ba (.rt d δ2)/\Post X.K ml B D (.rt d δ2)
def dQ{body:List Vj}{Y:Pl}{W:List Pl}{i:Nat}{kk:Va->VS}(hK:X.K=K)(n:X.stack=X.env::X.outer)(L:X.env.frame=ba X.env.locals)(hg:W7 X.nox body (WL K ml g))(hz:∀(pn:List (Ux×Vi)) (xe:Uw->Ae->Prop) (R:Va->Option Ux->St->Hp->Prop),RzF {X with pn:=pn,xe:=xe} R->W7 {X with pn:=pn,xe:=xe} body (ZS R K ml z))(hh:∀aa D C a x s' r,Xq X ml i kk aa D C a x s' r->Uy (Vb X.prog X.w) X.A (handleBy (.ref a) X.env (Y::W)) (λf s=>SP X aa D f s) X.xe {s' with heap:=r}):PS X (.Try body (Y::W) [] [] pos) (WL K ml (FW g z i kk)):=by
 intro aa s σ H D I h;obtain⟨B,O,δ,o,S,q,c⟩:=h;refine wpAny_Try_except ?_;unfold FW at q;cases h1:g δ with
 |some o'=>
  rw[h1]at q;cases q;refine Bj (hg aa s σ H D (I.wish _) ⟨B,O,δ,o,S,h1,c⟩) (λf s1 b=>?_) λe s1 M=>(show False from M).elim;have b:=b.unwish;cases f with
  |next=>exact Km b
  |_=>exact b
 |none=>
  rw[h1]at q;dsimp only at q;cases h2:z δ with
  |none=>rw[h2]at q;cases q
  |some p=>
   obtain⟨k,δ1⟩:=p;rw[h2]at q;dsimp only at q;cases P:kk k.1 (δ1.set i (.va (C0 k)))with
   |none=>rw[P]at q;cases q
   |some ok=>
    rw[P]at q;cases ok with
    |nx _=>cases q
    |bk _=>cases q
    |ct _=>cases q
    |rt d δ2=>
     cases q;subst hK;have I1:∀{xe:Uw->Ae->Prop}{σ:St}{H:Hp}{s:Ae},cF X aa σ H s->cF {X with pn:=X.pn++aa,xe:=xe} [] σ H s:=λI=>⟨I.ok.pns _ _,I.os,I.bare,I.base,I.loc,I.cell,I.free,I.freeC,λp j=>I.pin p (by simpa using j),I.hok,I.len⟩;have I2:∀{xe:Uw->Ae->Prop}{ps:List (Ux×Vi)}{σ:St}{H:Hp}{s:Ae},cF {X with pn:=X.pn++aa,xe:=xe} ps σ H s->cF X aa σ H s:=λJ=>⟨I.ok,J.os,J.bare,J.base,J.loc,J.cell,J.free,J.freeC,λp j=>J.pin p (Bt _ j),J.hok,J.len⟩;refine Bj (hz (X.pn++aa) _ (λx p m H'=>x=k.1/\∃l,aR X.K ml B l H' m δ1/\Pay X.K (Nn B l) H' p k.2) (λps x C p t H2 e s' Z hx J F lo hR=>?_) [] s σ H ⟨λ_ _=>False,λ_ _=>False,λ_ _=>False,λ_ _=>False⟩ (I1 I) ⟨B,O,δ,k,δ1,S,h2,λm H' l p S' j=>⟨rfl,l,S',j⟩⟩) (λf s1 b=>?_) λe s1 M=>M;rotate_left
     ·cases f with
      |next=>obtain⟨_,_,_,z⟩:=b;cases z
      |brk=>obtain⟨_,_,_,z⟩:=b;cases z
      |cont=>obtain⟨_,_,_,z⟩:=b;cases z
      |ret u=>obtain⟨_,_,_,_,_,z⟩:=b;cases z
     obtain⟨rfl,l,S1,E⟩:=hR;have J':=I2 J;have G:Low X aa Z:=⟨lo.s0,λp j=>lo.pin p (Bt _ j)⟩;obtain⟨a,a0,Bh,rfl,T,dc,c1,c2⟩:=F;have T:Lp Bh (X.env::X.outer) a (.ref C) a0 s'.heap:=n▸T;refine L8 (KD.note _ _) dc (wpAny_looks_onW (J'.ok.frames.trans (by rw[n])) L T λh4 N y V=>L8 (KD.flight _ _) V (wpAny_landsW N λr Q v U=>?_));exact hh aa D C a k s' r ⟨hx,B,l,δ1,δ2,d,a0,p,t,H2,Z,Bh,J',G,Q,U,y.trans v,c1,c2,S1,E,P,c⟩
def mV{n l:Va}{T br:Pos}{M:Vj}{H:List Vj}{rest:List Pl}{i:Nat}{kk:Va->VS}{aa:List (Ux×Vi)}{D:NX}{C a Q:Ux}{x:Xw}{s':Ae}{j:Vg}{r:Bool}(o:X.stack=X.env::X.outer)(hN:X.N.Nodup)(hi:X.N[i]?=ba n)(hl:X.env.kindOf n=ba .local)(u:i∉ml)(v:Gl X l)(Z:X.mg l=ba (.ref Q))(Y:XQ X.K C Q r)(z:(l==("__debug__":Va))=bd)(L:Xq X ml i kk aa D C a x s' j)(t:r=bc->(∀a,W7 (X.hnd a) (M::H) (WL X.K ml k))/\kk x.1=k)(W:r=bd->Uy (Vb X.prog X.w) X.A (handleBy (.ref a) X.env rest) (λf s=>SP X aa D f s) X.xe {s' with heap:=j}):Uy (Vb X.prog X.w) X.A (handleBy (.ref a) X.env (.ExceptHandler (ba (.Name l T)) (ba n) (M::H) br::rest)) (λf s=>SP X aa D f s) X.xe {s' with heap:=j}:=by
 obtain⟨V,B,O',δ1,δ2,d,a0,p,c,H2,gh,Bh,O,h,b,E,e,J,I,S1,m,G,g⟩:=L;have P:cF X aa c H2 {s' with heap:=j}:=O.flyG h b.1 e J I;have F:cF (X.hnd a) aa c H2 {s' with heap:=j}:=P.around rfl;refine wpAny_handleBy_cons (codeAny_handlers_test (WG (X:=X.hnd a) F v Z ?_ z)) (by intro q;cases q);obtain⟨S,R,_,_,_,y,U,_⟩:=id b.2.2.2;refine kK P.kIn y U.1 Y ?_;cases r with
 |false=>exact W rfl
 |true=>
  obtain⟨t,ek⟩:=t rfl;rw[ek]at G;exact km hN hi hl u o t V O h b E e J I S1 m G g
def gQ{body:List Vj}{n:Va}{l u:Pos}{j:Vj}{h:List Vj}{i:Nat}(t:X.K=K)(b:X.stack=X.env::X.outer)(e:X.env.frame=ba X.env.locals)(s:X.N.Nodup)(hi:X.N[i]?=ba n)(hl:X.env.kindOf n=ba .local)(c:i∉ml)(d:Gl X "PackError")(m:∀C,Gs K Vd "PackError"=ba (ba (.ref C))->X.mg "PackError"=ba (.ref C))(p:W7 X.nox body (WL K ml g))(hz:∀(pn:List (Ux×Vi)) (xe:Uw->Ae->Prop) (R:Va->Option Ux->St->Hp->Prop),RzF {X with pn:=pn,xe:=xe} R->W7 {X with pn:=pn,xe:=xe} body (ZS R K ml z))(o:∀a,W7 (X.hnd a) (j::h) (WL K ml k)):PS X (.Try body [.ExceptHandler (ba (.Name "PackError" l)) (ba n) (j::h) u] [] [] pos) (WL K ml (sTry g z i k)):=by subst t;refine dQ rfl b e p hz λaa D C a x s' v L=>?_;obtain⟨Cp,f⟩:=L.xc.pk;exact mV (r:=bc) (k:=k) b s hi hl c d (m Cp f.at_) f.q (by decide) L (λ_=>⟨o,rfl⟩) λz=>nomatch z
end
section
variable{X:Cx}{K:Ah}{ml:List Nat}{e a b c fx:Vc}{es:List Vc}{pa ta ia pb tb ib pf ft fi ps:Bool}{fa fb fe:VF}{B:Bs}{O:Nat->Option Ux}{H H1 H':Hp}{σ:St}{δ δ':Ev}{v:V}{d:cV}{pos:Pos}{R:Va->Option Ux->St->Hp->Prop}
noncomputable def WQ:List cV->Option (List Bool)
 |[]=>ba []
 |.bl i::ds=>(WQ ds).map λns=>i::ns
 |_=>bb
theorem JH{N:Ux->Prop}:∀{xs:List V}{ds:List cV}{ns:List Bool},bZ K N H xs ds->WQ ds=ba ns->xs=ns.map V.bl
 |_,_,_,.nil,h=>by cases h;rfl
 | _,_,_,@bZ.cons _ _ _ v vs d ds h t,e => by
  cases d with
  |bl k=>
   cases h;have e:(WQ ds).map (λks=>k::ks)=ba _:=e;cases h2:WQ ds with
   |none=>rw[h2]at e;cases e
   |some ks=>
    rw[h2]at e;cases e;rw[JH t h2];rfl
  |_=>cases e
noncomputable def DL(n:Bool):List Bool->Option Nat
 |[]=>bb
 |i::ns=>if i=n then ba 0 else(DL n ns).map (· +1)
theorem KN{n:Bool}:∀{ns:List Bool}{j:Nat},DL n ns=ba j->ns[j]?=ba n/\∀m,m<j->ns[m]? ≠ba n
 |[],_,h=>by cases h
 | i :: ns,j,h => by
  unfold DL at h;split at h
  ·rename_i hi
   cases h;exact⟨by rw[hi];rfl,λm a=>absurd a (No _)⟩
  ·rename_i hi
   cases h1:DL n ns with
   |none=>rw[h1]at h;cases h
   |some k=>
    rw[h1]at h;cases h;obtain⟨h2,b⟩:=KN h1;refine⟨by simpa using h2,λm a=>?_⟩;cases m with
    |zero=>simpa using hi
    |succ m=>simpa using b m (Mz a)
noncomputable def ET(n:Bool):Uw->Bool
 |.bool i=>i==n
 |_=>bd
theorem MB:∀{ns:List Bool}{a:List Uw},bL (ns.map V.bl) a->a=ns.map Ib
 |[],_,.nil=>rfl
 |i::ns,_,.cons r t=>by rw[MB t];cases r;rfl
def IB(K:Ah):V->List V->Hp->VK->Prop:=λx vs H Q=>∃(l:Ux) (ns:List Bool) (n:Bool) (j:Nat),x=.ref l/\vs=[.bl n]/\X8 K H l (ns.map V.bl)/\DL n ns=ba j/\Q (.int j) H
def IA(K:Ah):V->List V->Hp->VK->Prop:=λx vs H Q=>∃(l:Ux) (ns:List Bool) (n:Bool),x=.ref l/\vs=[.bl n]/\X8 K H l (ns.map V.bl)/\Q (.int (ns.count n:Nat)) H
def dJ{a:List Uw}{n:Bool}(r:bL [V.bl n] a):a=[.bool n]:=by
 cases r with
 |cons r t=>cases t;cases r;rfl
def kM:MtM X "list.index" (IB X.K):=by
 intro aa s σ H x vs v D Q I t u h;obtain⟨l,ns,n,j,rfl,rfl,A,C,q⟩:=h;cases t;obtain rfl:=dJ u;obtain⟨w,r,⟨o,c,e,hc,g,k⟩,hz⟩:=I.list A;obtain⟨cls,dd,data,p⟩:=o;simp only at hc g k;subst hc g k;have hl:=r.length;obtain rfl:=MB r;obtain⟨h1,h2⟩:=KN C;have a:j<ns.length:=(Ai.mp h1).1;have hsz:ns.length<=16777216:=by rw[Ce]at hz;rw[<-Cf];exact hz
 refine Gk Qj ⟨_,e,rfl⟩ Pf (Op _ _) (Pg l (ns.map Ib).toArray c bb p (.bool n) (ET n) j (by simpa using a) (by lia) ?_ ?_) ⟨e,?_,?_⟩
 ·have : ns[j] = n := by have := Bm a;rw [h1]at this;exact (Cv this).symm
  simp[ET,this]
 ·intro m B d
  have f:m<ns.length:=by simpa using B
  have:=h2 m d
  rw[Bm f]at this;simp only[List.getElem_toArray,List.getElem_map,ET];exact beq_eq_false_iff_ne.mpr λz=>this (by rw[z])
 ·intro y b
  have b:y∈ns.map Ib:=by simpa using b
  obtain⟨i,_,rfl⟩:=Dw.mp b;exact Oa i n
 ·exact⟨.int j,H,I.tok _,⟨_,rfl⟩,q⟩
def iS:MtM X "list.count" (IA X.K):=by
 intro aa s σ H x vs v t Q I g j h;obtain⟨l,ns,n,rfl,rfl,p,q⟩:=h;cases g;obtain rfl:=dJ j;obtain⟨m,r,⟨o,c,e,hc,b,d⟩,hz⟩:=I.list p;obtain⟨cls,dd,data,f⟩:=o;simp only at hc b d;subst hc b d;obtain rfl:=MB r;refine Gk F.slot_list_count ⟨_,e,rfl⟩ F.entry_list_count (F.args_list_count_2 _ _) (SeqAt.list_countAt l (ns.map Ib).toArray c bb f (.bool n) (ET n)) ⟨e,?_,?_⟩
 ·intro y a
  have a:y∈ns.map Ib:=by simpa using a
  obtain⟨i,_,rfl⟩:=Dw.mp a;exact Oa i n
 ·have k:(ns.map Ib).toArray.toList.countP (ET n)=ns.count n:=by rw[List.toList_toArray,List.countP_map];rfl
  refine⟨.int (ns.count n:Nat),H,I.tok _,⟨s.toks,?_⟩,q⟩;rw[k]
def HS:cV->cV->Option cV
 |.lst ds,.bl n=>(WQ ds).bind λns=>(DL n ns).map λj=>.int j
 |_,_=>bb
def HQ:cV->cV->Option cV
 |.lst ds,.bl n=>(WQ ds).map λns=>.int (ns.count n:Nat)
 |_,_=>bb
def Zk{aj af:Pos}{name:Va}{id:String}{r:V->List V->Hp->VK->Prop}{o:cV->cV->Option cV}(v:X.K=K)(m:Slot "list" name id)(ty:Qu (.builtin id)=pure (.type "method_descriptor"))(mt:MtM X id r)(s:∀{x y d:cV},o x y=ba d->∃ds n ns i,x=.lst ds/\y=.bl n/\WQ ds=ba ns/\d=.int i/\∀(H:Hp) (l:Ux) (Q:VK),X8 K H l (ns.map V.bl)->Q (.int i) H->r (.ref l) [.bl n] H Q)(u:PE X a (TV K ml pa ta ia fa))(t:PE X b (TV K ml pb tb ib fb))(F:Hn a name X.env (eval a X.env)=eval a X.env:=by rfl)(E:((Em af (Uz (b::[]) X.env)).all (λx=> !x.1)&&(Ff af (Cw [] X.env)).all (λx=>x.1.isSome)&&decide ((b::([]:List Vc)).length+([]:List Ia).length+(if([]:List Ia).isEmpty then 0 else 1)<30))=bc:=by rfl)(G:(aj.endLine==af.line)=bc:=by rfl)(f:Uz (b::[]) X.env=(bd,eval b X.env)::Uz [] X.env:=by rfl)(I:(Em af (Uz [] X.env)).any (·.1)=bd:=by rfl)(hl:(pb || (ta&&ia))=bc:=by rfl):PE X (.Call (.Attribute a name aj) [b] [] af) (TV K ml (pa&&pb) bc bc (f2 o fa fb)):=
 (kBm (K := K) v Iu m ty mt u (bN t aD f) F E G f I).imp λσ H Q q0 => by
  obtain⟨B,O,δ,d,δ2,S,q,k⟩:=q0;obtain⟨x,δ1,y,h1,h2,C⟩:=RL q;obtain⟨ds,n,ns,i,rfl,rfl,A,rfl,w⟩:=s C;refine⟨B,O,δ,_,δ1,S,h1,λL H1 c=>?_⟩;obtain⟨l,xs,rfl,sq,_⟩:=c.rep.lstE;refine⟨.inl ⟨rfl,xs,sq⟩,B,O,δ1,_,δ2,c.sta,h2,λJ H2 R2=>?_⟩;have p:=R2.rep;cases p;obtain⟨M,j,D,e,r'⟩:=(R2.live hl c.rep).lstE;cases D;have:=JH r' A
  subst this;exact w H2 l Q e (k _ H2 ⟨R2.sta,c.frm.trans R2.frm,λz=>by obtain⟨h,g⟩:=(Af _ _).mp z;exact(c.pur h).trans (R2.pur g),.int _⟩)
def fA{x y d:cV}(h:HS x y=ba d):∃ds n ns i,x=.lst ds/\y=.bl n/\WQ ds=ba ns/\d=.int i/\∀(H:Hp) (l:Ux) (Q:VK),X8 K H l (ns.map V.bl)->Q (.int i) H->IB K (.ref l) [.bl n] H Q:=by
 unfold HS at h;split at h
 ·rename_i ds n
  cases h1:WQ ds with
  |none=>rw[h1]at h;cases h
  |some ns=>
   rw[h1,Av]at h;cases h2:DL n ns with
   |none=>rw[h2]at h;cases h
   |some j=>
    rw[h2]at h;cases h;exact⟨ds,n,ns,j,rfl,rfl,h1,rfl,λH l Q sq q=>⟨l,ns,n,j,rfl,rfl,sq,h2,q⟩⟩
 ·cases h
def p3{x y d:cV}(h:HQ x y=ba d):∃ds n ns i,x=.lst ds/\y=.bl n/\WQ ds=ba ns/\d=.int i/\∀(H:Hp) (l:Ux) (Q:VK),X8 K H l (ns.map V.bl)->Q (.int i) H->IA K (.ref l) [.bl n] H Q:=by
 unfold HQ at h;split at h
 ·rename_i ds n
  cases h1:WQ ds with
  |none=>rw[h1]at h;cases h
  |some ns=>
   rw[h1]at h;cases h;exact⟨ds,n,ns,_,rfl,rfl,h1,rfl,λH l Q sq q=>⟨l,ns,n,rfl,rfl,sq,q⟩⟩
 ·cases h
def jl(h:X.K=K:=by rfl):MtM X "list.index" (IB K):=by subst h;exact kM
def nZ(h:X.K=K:=by rfl):MtM X "list.count" (IA K):=by subst h;exact iS
def rIsx(K:Ah):RC:=λxs H Q=>∃a C b u k,xs=[.ref a,u]/\H a=ba (.ext b)/\(∀h,b h->AA h a C)/\XA K C/\(Tz K C).isSome=bc/\((∃D,u=.ref D/\Hx K (.ref C) (.ref D)=ba k)∨∃n,u=.ty n/\Hx K (.ref C) (.type n)=ba k)/\Q (.bl k) H
def eM:aB X (.builtin "isinstance") (rIsx X.K):=by
 intro aa s σ H xs t Q I r h;obtain⟨a,C,p,u,k,rfl,m,e,f,hc,b,q⟩:=h;obtain⟨v,c,rfl,l,g⟩:=F8 r;cases l;obtain⟨o,vs,j,i,_⟩:=e _ (I.hok a _ m).1;have d:∀tk,EP X aa σ Q (.bool k) {s with toks:=tk}:=λtk=>⟨.bl k,H,I.tok tk,rfl,q⟩;rcases b with⟨D,rfl,b⟩|⟨n,rfl,b⟩
 ·cases g
  exact Fj (EV f hc) I.kIn ⟨o,j,i⟩ b (λz=>nomatch z) d
 ·cases g
  exact Fj (EV f hc) I.kIn ⟨o,j,i⟩ b (λz=>nomatch z) d
def RW(h:X.K=K:=by rfl):aB X (.builtin "isinstance") (rIsx K):=by subst h;exact eM
structure XI(K:Ah)(cs all:List Va):Prop where
 own:∀c∈cs,∃C,XC K c C
 isi:∀c∈cs,∀C,Gs K Vd c=ba (ba (.ref C))->∀x∈all,∃D,Gs K Vd x=ba (ba (.ref D))/\Hx K (.ref C) (.ref D)=ba (decide (c=x))
 val:∀c∈cs,∀C,Gs K Vd c=ba (ba (.ref C))->Hx K (.ref C) (.type "ValueError")=ba bc
 pke:∀c∈cs,∀C,Gs K Vd c=ba (ba (.ref C))->∃D,Gs K Vd "PackError"=ba (ba (.ref D))/\Hx K (.ref C) (.ref D)=ba bc
noncomputable def A9(a all:List Va)(c:Va):cV->Option cV
 |.fn x=>if c∈a/\x∈all then ba (.bl (decide (c=x)))else if c∈a/\x= "PackError" then ba (.bl bc)else bb
 |.ty n=>if c∈a/\n= "ValueError" then ba (.bl bc)else bb
 |_=>bb
def UG(a all:List Va):cV->cV->Option cV
 |.exn c,y=>A9 a all c y
 |.exr c _ _,y=>A9 a all c y
 |_,_=>bb
def Zy{p all:List Va}(F:XI K p all){N M:Ux->Prop}{c0:Va}{C a:Ux}{m:Vg->Prop}{y d:cV}{u:V}{Q:VK}(g:Gs K Vd c0=ba (ba (.ref C)))(j:H a=ba (.ext m))(f:∀h,m h->AA h a C)(n:bC K N H M u y)(h:A9 p all c0 y=ba d)(k:∀b:Bool,d=.bl b->Q (.bl b) H):rIsx K [.ref a,u] H Q:=by
 unfold A9 at h;split at h
 ·rename_i r
  cases n with
  |fn o=>
   split at h
   ·rename_i c
    cases h;obtain⟨q,e⟩:=F.own _ c.1;have:=g.symm.trans e.at_
    cases this;obtain⟨D,l,i⟩:=F.isi _ c.1 _ g _ c.2;have:=o.symm.trans l
    cases this;exact⟨_,_,_,_,_,rfl,j,f,e.att,e.cls,.inl ⟨_,rfl,i⟩,k _ rfl⟩
   ·split at h
    ·rename_i c
     cases h;obtain⟨c,rfl⟩:=c;obtain⟨q,e⟩:=F.own _ c;have:=g.symm.trans e.at_
     cases this;obtain⟨D,l,i⟩:=F.pke _ c _ g;have:=o.symm.trans l
     cases this;exact⟨_,_,_,_,_,rfl,j,f,e.att,e.cls,.inl ⟨_,rfl,i⟩,k _ rfl⟩
    ·cases h
 ·rename_i s
  cases n;split at h
  ·rename_i c
   cases h;obtain⟨c,rfl⟩:=c;obtain⟨q,e⟩:=F.own _ c;have:=g.symm.trans e.at_
   cases this;exact⟨_,_,_,_,_,rfl,j,f,e.att,e.cls,.inr ⟨_,rfl,F.val _ c _ g⟩,k _ rfl⟩
  ·cases h
 ·cases h
def WT{l all:List Va}(F:XI K l all):LY K (rIsx K) (UG l all):=by
 intro H N N' M M' x y d e c Q j i h k;unfold UG at h;split at h
 ·cases j with
  |exn f g a=>exact Zy F f g a i h λb e=>k (.bl b) λ_ _ _=>by rw[e];exact .bl b
 ·cases j with
  |exr f g a _ _=>exact Zy F f g (λh z=>by obtain⟨o,vs,p,n,m,_⟩:=a h z;exact⟨o,vs,p,n,m⟩) i h λb e=>k (.bl b) λ_ _ _=>by rw[e];exact .bl b
 ·cases h
end
end L2
namespace L2
open PySem PySem.Spec PyProof.Rows PySem.W
end L2
namespace L2
open PySem PySem.Spec PyProof.Rows
noncomputable def em2(e it2:Vc)(acc:Uw)(env:Env):Vo Unit:=do
 let x<-eval it2 env
 Oj it2.pos
 let x<-Vh it2 env x
 let _<-runOwn (.compStart e 1 (<-Px [x] (Ry x)) acc env) env
noncomputable def twoG(tg iter it2:Vc)(ifs:List Vc)(e:Vc)(it acc:Uw)(env:Env):Vo Ph:=do
 Oj iter.pos
 match<-pyNext it with
 |none=>pure (.done .next)
 |some v=>
  Hk tg it v
  Hs tg env v
  let mut ok:=bc
  for c in ifs do
   if ok then ok<-isTrue c env (eval c env)
  if ok then
   let x<-eval it2 env
   Oj it2.pos
   let x<-Vh it2 env x
   let _<-runOwn (.compStart e 1 (<-Px [x] (Ry x)) acc env) env
  Ot (.compLoop e 0 it acc env)
section
variable{e tg iter tg2 it2:Vc}{ifs aw:List Vc}{acc:Uw}{env:Env}
def gP{it:Uw}:twoG tg iter it2 ifs e it acc env=Wx iter.pos tg ifs (em2 e it2 acc env) e 0 it acc env:=by unfold twoG Wx em2;simp only[bind_assoc,pure_bind]<;>rfl
def lpL2{elt:Vc}{scope:Vk}{pos:Pos}{D:Ux}:CK (.ListComp elt [⟨tg,iter,ifs,0⟩,⟨tg2,it2,aw,0⟩] scope pos) 0 tg ifs (em2 (.ListComp elt [⟨tg,iter,ifs,0⟩,⟨tg2,it2,aw,0⟩] scope pos) it2 (.ref D) env) (.ref D) env:=⟨⟨iter.pos,λ_=>gP (e:=.ListComp elt [⟨tg,iter,ifs,0⟩,⟨tg2,it2,aw,0⟩] scope pos)⟩,λ_ _ _ _ _ _ _ h=>h,λ_ _ _ _ _ _ _ h=>h,λ_=>rfl,_,rfl,rfl⟩
def lpL3{elt:Vc}{scope:Vk}{pos:Pos}{D:Ux}:CK (.ListComp elt [⟨tg,iter,ifs,0⟩,⟨tg2,it2,aw,0⟩] scope pos) 1 tg2 aw (emL D elt env) (.ref D) env:=⟨⟨it2.pos,λ_=>rfl⟩,λ_ _ _ _ _ _ _ h=>h,λ_ _ _ _ _ _ _ h=>h,λ_=>rfl,_,rfl,rfl⟩
end
section
variable{Y:Cx}{e it2 tg2:Vc}{aw:List Vc}{wi:TI}{g:TG}{tt:TT}{em:Vo Unit}{tm:TM}{acc:Uw}
inductive TM2(wi:TI)(g:TG)(tt:TT)(tm:TM)(N:St->Hp->Prop)(σ:St)(J:It)(H0:Hp):Prop
 |mk (W:Nat->Nat->St->Hp->Prop) (m:Nat) (h0:W 0 m σ H0) (h1:∀i m σ1 H1,W i m σ1 H1->(J.stop i H1/\N σ1 H1)∨
  (J.go i H1/\ ∃N2:St->Hp->Prop,(∀σ' H',N2 σ' H'-> ∃m',m'<m/\W (i+1) m' σ' H')∧
   ∀x H2,J.yld i H1 x H2->g x σ1 H2 λσ2 H3=>tt σ2 H3 λb H4=>if b=bc then tm σ2 H4 N2 else N2 σ2 H4)):TM2 wi g tt tm N σ J H0
def tm2(wi:TI)(g:TG)(tt:TT)(tm:TM):TM:=λσ H N=>wi σ H (TM2 wi g tt tm N σ)
def nF(O:Y.xe=λ_ _=>False)(hc:Y.calm=bc)(hi:PI Y tg2 it2 wi)(hg:PG Y tg2 g)(ht:PTs Y aw tt)(L:CK e 1 tg2 aw em acc Y.env)(he:PM Y em tm)(hs:∀x,Vh it2 Y.env x=pure x):PM Y (em2 e it2 acc Y.env) (tm2 wi g tt tm):=by
 intro aa s σ H N I h;have nx:∀{α:Sort _}{x:Uw}{s:Ae},Y.xe x s->α:=λz=>by rw[O]at z;exact z.elim
 refine Aa (Bj (hi aa s σ H _ I h) (λv s1 h1=>Aa (Fm (Aa (Es (hs v) (Aa (Bv (Bj h1 (λitv s2 h2=>?_) λ_ _ z=>nx z))))))) λ_ _ z=>nx z);obtain⟨it,fp,S,J,H2,ei,I2,T,F,f2,W,m0,w0,turn⟩:=h2;subst ei;have stat:∀{H':Hp},(∀b∈fp,H' b=bb)->∀b∈fp,WK Y aa H' b:=λhn b l=>⟨hn b l,(f2 b l).2⟩;refine Aa (wpAny_runOwn ?_);have loop:∀k:Ae,k=s2->Hg (Vb Y.prog Y.w) Y.A (.compLoop e 1 (.ref it) acc Y.env) (λr C=>match r with|.ok _=>∃a H',cF Y aa a H' C/\N a H'|.error _=>False) k:=by
  rintro k rfl;refine cW L (λn s'=>∃i a H',cF Y aa a H' s'/\S i s'.heap/\(∀b∈fp,H' b=bb)/\W i n a H') ?_ m0 ⟨0,σ,H2,I2,F,λb l=>(f2 b l).1,w0⟩;rintro n s3 ⟨i,j,K,Z,E,G,w3⟩;rcases turn i n j K w3 with⟨D,qn⟩|⟨go,N2,hN,step⟩
  ·refine Bj (T.done Y rfl rfl rfl hc i aa s3 j K (λ_ _ => False) Z (stat G) E D) (λr s4 ⟨P,I4⟩ => ?_) λ_ _ z => z
   subst P;exact⟨j,K,I4,qn⟩
  ·refine Bj (T.item Y rfl rfl rfl hc i aa s3 j K (λ_ _ => False) Z (stat G) E go) (λr s4 ⟨u,P,h4⟩ => ?_) λ_ _ z => z
   subst P;refine Bj h4 (λ_ s5 ⟨x,H5,I5,r5,y5,p,Q⟩=>?_) λ_ _ z=>z;have R:=I5.pinned (stat Q) (T.obj _ _ p);refine Bj (hg _ s5 j H5 x u _ R r5 (step x H5 y5)) (λ_ U ⟨B,H6,I6,q6⟩=>?_) λ_ _ z=>nx z;have again:∀{c:St}{q:Hp}{t:Ae},cF Y (aa++P0 fp s5.heap) c q t->N2 c q->∃m,m<n/\∃i a H',cF Y aa a H' t/\S i t.heap/\(∀b∈fp,H' b=bb)/\W i m a H':=λ{c q t} y n7=>by obtain⟨m',hm,w7⟩:=hN c q n7;refine⟨m',hm,i+1,c,q,y.unpinned,T.keep _ _ _ p λb l o e=>(y.pin (b,o) (At _ (At _ (X0 l e)))).1,λb l=>?_,w7⟩;obtain⟨o,e,d⟩:=T.obj _ _ p b l;exact(y.pin (b,o) (At _ (At _ (X0 l e)))).2.1
   refine Bj (ht _ U B H6 _ I6 q6) (λM t ⟨q,y,V⟩=>?_) λ_ _ z=>nx z;cases M with
   |false=>exact again y V
   |true=>exact Bj (he _ t B q _ y V) (λ_ s8 ⟨σ8,H8,I8,n8⟩=>again I8 n8) λ_ _ z=>z
 refine Gr (Yt L (loop _ rfl) (T.self _ 0 _ _ _ F (loop _ rfl))) λr U X=>?_;cases r with
 |ok f=>exact Ag X
 |error e=>exact X.elim
end
structure Blk2(Y:Cx)(tg:Vc)(ifs:List Vc)(tg2 it2:Vc)(aw:List Vc)(elt:Vc)(g:TG)(tt:TT)(wi2:TI)(g2:TG)(tt2:TT)(te:TE):Prop where
 tg:PG Y tg g
 ts:PTs Y ifs tt
 it:PI Y tg2 it2 wi2
 tg2:PG Y tg2 g2
 ts2:PTs Y aw tt2
 el:PE Y elt te
abbrev gM(ix:List Nat)(nl:Nat)(wi:TI)(g:TG)(tt:TT)(a:TI)(c:TG)(b:TT)(te:TE):TE:=IL ix nl wi g tt λD=>tm2 a c b (tmL te D)
def Blk2.g{X:Cx}{N':List Va}{scope:Vk}{tg iter tg2 it2 elt:Vc}{ifs aw:List Vc}{pos:Pos}{g l:TG}{tt b:TT}{a:TI}{te:TE}(hc:X.calm=bc)(c:∀(env:Env) (x:Uw),Vh it2 env x=pure x)(i:∀(cl:List (Va×Ux)) (s1:Ae) (H1:Hp) (fp:List Ux),Blk2 (Z8 X N' scope cl s1 H1 fp) tg ifs tg2 it2 aw elt g tt a l b te)(cl:List (Va×Ux))(s1:Ae)(H1:Hp)(fp:List Ux):BlkG (Z8 X N' scope cl s1 H1 fp) (.ListComp elt [⟨tg,iter,ifs,0⟩,⟨tg2,it2,aw,0⟩] scope pos) tg ifs g tt λD=>tm2 a l b (tmL te D):=
 let ⟨e,d,j,f,h,k⟩:=i cl s1 H1 fp
 ⟨e,d,λD=>⟨_,lpL2,nF rfl hc j f h lpL3 (BL rfl k) λx=>c _ x⟩⟩
noncomputable def inrV(gg:VG)(tb:VB)(fe:VF):List cV->List cV->Ev->Option (List cV×Ev)
 |[],acc,δ=>ba (acc,δ)
 |d::r,acc,δ=>(gg d δ).bind λδ1=>(tb δ1).bind λp=>if p.1=bc then(fe p.2).bind λq=>if acc.length<16777216 then inrV gg tb fe r (acc++[q.1]) q.2 else bb else inrV gg tb fe r acc p.2
def RJ(n nl:Nat)(gg:VG)(tb:VB)(c:VI)(b:VG)(a:VB)(fe:VF):List cV->List cV->Ev->Option (List cV×Ev)
 |[],acc,δ=>ba (acc,δ)
 |d::r,acc,δ=>(gg d (δ++KH nl)).bind λδ1=>(tb δ1).bind λp=>if p.1=bc then(c p.2).bind λu=>(inrV b a fe u.1 acc u.2).bind λq=>RJ n nl gg tb c b a fe r q.1 (q.2.take n)else RJ n nl gg tb c b a fe r acc (p.2.take n)
def T6(ix:List Nat)(nl:Nat)(fi:VI)(gg:VG)(tb:VB)(c:VI)(b:VG)(a:VB)(fe:VF):VF:=λδ=>(fi δ).bind λp=>(RJ ix.length nl gg tb c b a fe p.1 [] (aQ ix p.2)).map λq=>(.lst q.1,ZM ix q.2 p.2)
section
variable{X:Cx}{K:Ah}{ml:List Nat}{e a b c:Vc}{es:List Vc}{pi pt pe pi2 pt2 pu bt bi ps bs:Bool}{f:VF}{B B':Bs}{O:Nat->Option Ux}{H H0 H1 H':Hp}{σ:St}{δ δ':Ev}{v:V}{d:cV}{p:Ux}{pos:Pos}{ix:List Nat}{nl:Nat}
def F6{fi G:VI}{gg s:VG}{tb r:VB}{fe:VF}(hnd:ix.Nodup){Q:VK}(h:TN K ml (pi&&(pt&&pi2&&pt2&&pe)) (T6 ix nl fi gg tb G s r fe) σ H Q):gM ix nl (EB K ml pi fi) (CM K (Au ix.length) gg) (TB K (Au ix.length) pt tb) (EB K (Au ix.length) pi2 G) (CM K (Au ix.length) s) (TB K (Au ix.length) pt2 r) (TV K (Au ix.length) pe bc bc fe) σ H Q:=by
 obtain⟨B,O,δ,d,δ2,S,q,k⟩:=h;unfold T6 at q;obtain⟨⟨ds,δ1⟩,h1,q⟩:=Ac.mp q;have q:((RJ ix.length nl gg tb G s r fe ds [] (aQ ix δ1)).map λq=>(cV.lst q.1,ZM ix q.2 δ1))=ba (d,δ2):=q;obtain⟨⟨res,δf⟩,h2,q⟩:=Ao.mp q;cases q;refine⟨B,O,δ,ds,δ1,S,h1,λJ g H0 S0 f0 p0 wk D hD=>?_⟩;have hDO:∀j,Oc ix O j≠ba D:=λj e=>by unfold Oc at e;obtain⟨i,hi,e⟩:=Ac.mp e;obtain⟨o,q⟩:=S0.nin (.inr ⟨i,e⟩);rw[hD]at q;cases q
 have dn:∀kp j,ix.length<=j->(Bc ix B O H0 D kp).mu j=bb:=λkp j hj=>by show(ix[j]?).bind O=bb;rw[Dv hj];rfl
 refine⟨λi m H1=>m=ds.length-i/\i<=ds.length/\∃(acc:List V) (I:List cV) (n:Ev),n.length=ix.length/\acc.length=I.length∧
   aR K (Au ix.length) (Bc ix B O H0 D (g++acc.zip I)) (Oc ix O) H1 (Y6 ix σ++As nl bb) (n++KH nl)/\H1 D=ba (.lst acc)/\((pt&&pi2&&pt2&&pe)=bc->bF H0 H1)∧
   RJ ix.length nl gg tb G s r fe (ds.drop i) I n=ba (res,δf),
  ds.length,⟨rfl,Df _,[],[],aQ ix δ1,by simp[aQ],rfl,by rw[Qg,Ep];exact S0.unkeep.inner hD hnd λp L=>S0.kep p (Bt _ L),b9,λ_=>cM hD,h2⟩,?_⟩
 rintro i m H1 ⟨rfl,hi,acc,I,n,hlc,az,S1,hD1,ci,hc⟩;have w:=wk (Nn (Bc ix B O H0 D (g++acc.zip I)) (Oc ix O)) H1 λp L=>S1.kep p (Bt _ L);by_cases Y:i<ds.length
 ·obtain ⟨go,yl⟩ := w.1 i ds[i] (by simp [Y])
  rw[Dn Y]at hc;simp only[RJ]at hc;obtain⟨δ3,g1,hc⟩:=Ac.mp hc;obtain⟨⟨kk,P⟩,g2,hc⟩:=Ac.mp hc;refine .inr ⟨go,λH'=>∃(Z:List V) (I:List cV) (n:Ev),n.length=ix.length/\Z.length=I.length∧
   aR K (Au ix.length) (Bc ix B O H0 D (g++Z.zip I)) (Oc ix O) H' (Y6 ix σ++As nl bb) (n++KH nl)/\H' D=ba (.lst Z)/\((pt&&pi2&&pt2&&pe)=bc->bF H0 H')∧
   RJ ix.length nl gg tb G s r fe (ds.drop (i+1)) I n=ba (res,δf),λH' w'=>⟨ds.length-(i+1),by lia,rfl,Y,w'⟩,λx H2 hy=>?_⟩
  obtain⟨sm,rx⟩:=yl x H2 hy;refine⟨_,_,_,ds[i],δ3,S1.same sm,rx,g1,λσ3 O3 S3 m3=>?_⟩;have X:=AG m3;have E:=K5 X m3;refine⟨E,_,_,δ3,kk,P,S3,g2,λH4 T=>?_⟩;have hD4:H4 D=ba (.lst acc):=T.frm _ _ (sm _ _ hD1) λz=>by
   obtain⟨j,e⟩:=z;have:=(T.sta.old j D e).1
   exact absurd (.inl (.inr rfl)) this
  have ln4:ix.length<=P.length:=by rw[<-T.sta.len];exact X
  cases kk with
  |false=>
   rw[if_neg Cr]at hc;refine PP ⟨acc,I,P.take ix.length,by rw[Cn];lia,az,T.sta.turn (dn _) (XT ix σ) E ln4,hD4,λz=>?_,hc⟩;simp only[Af]at z;exact((ci (by simp[z.1.1.1,z.1.1.2,z.1.2,z.2])).trans sm).trans (T.pur z.1.1.1)
  |true=>
   rw[if_pos rfl]at hc;obtain⟨⟨f,δ5⟩,g3,hc⟩:=Ac.mp hc;obtain⟨⟨eg,y⟩,g4,hc⟩:=Ac.mp hc;refine PQ ⟨_,_,P,f,δ5,T.sta,g3,λJ2 df H5 S5 f5 p5 wk2=>?_⟩;have hD5:H5 D=ba (.lst acc):=f5 _ _ hD4 λz=>by
    obtain⟨j,e⟩:=z;have:=(T.sta.old j D e).1
    exact absurd (.inl (.inr rfl)) this
   refine⟨λA m2 M H6=>m2=f.length-A/\A<=f.length/\∃(t:List V) (u:List cV) (l:Ev) (O1:Nat->Option Ux),t.length=u.length∧
     aR K (Au ix.length) (Bc ix B O H0 D (df++(g++t.zip u))) O1 H6 M l/\M.take ix.length=Y6 ix σ/\ix.length<=M.length/\H6 D=ba (.lst t)/\((pt&&pi2&&pt2&&pe)=bc->bF H0 H6)∧
     inrV s r fe (f.drop A) u l=ba (eg,y),
    f.length,⟨rfl,Df _,acc,I,δ5,_,az,S5,E,X,hD5,λz=>by simp only[Af]at z;exact(((ci (by simp[z.1.1.1,z.1.1.2,z.1.2,z.2])).trans sm).trans (T.pur z.1.1.1)).trans (p5 z.1.1.2),g4⟩,?_⟩
   rintro A m2 M H6 ⟨rfl,hi2,t,u,l,O1,cy,S6,F,ln1,hD6,fj,c⟩;have w2:=wk2 (Nn (Bc ix B O H0 D (df++(g++t.zip u))) O1) H6 λp L=>S6.kep p (Bt _ L);by_cases cw:A<f.length
   ·obtain ⟨go2,yl2⟩ := w2.1 A f[A] (by simp [cw])
    rw[Dn cw]at c;simp only[inrV]at c;obtain⟨δ7,k1,c⟩:=Ac.mp c;obtain⟨⟨kk2,W⟩,k2,c⟩:=Ac.mp c;refine .inr ⟨go2,λN H'=>∃(Z:List V) (u:List cV) (l:Ev) (O1:Nat->Option Ux),Z.length=u.length∧
     aR K (Au ix.length) (Bc ix B O H0 D (df++(g++Z.zip u))) O1 H' N l/\N.take ix.length=Y6 ix σ/\ix.length<=N.length/\H' D=ba (.lst Z)/\((pt&&pi2&&pt2&&pe)=bc->bF H0 H')∧
     inrV s r fe (f.drop (A+1)) u l=ba (eg,y),λN H' w'=>⟨f.length-(A+1),by lia,rfl,cw,w'⟩,λx2 H7 hy2=>?_⟩
    obtain⟨R,rx2⟩:=yl2 x2 H7 hy2;refine⟨_,_,_,f[A],δ7,S6.same R,rx2,k1,λU O7 S7 m7=>?_⟩;have C:U.take ix.length=Y6 ix σ:=by
     rw[<-F];refine Lz λj=>?_;rw[Pn,Pn];split
     ·rename_i hj
      exact m7 j (Dm.mpr hj)
     ·rfl
    have ln7:ix.length<=U.length:=by
     have:(U.take ix.length).length=ix.length:=by rw[C,XT]
     rw[Cn]at this;lia
    refine⟨_,_,δ7,kk2,W,S7,k2,λH8 R8=>?_⟩;have hD8:H8 D=ba (.lst t):=R8.frm _ _ (R _ _ hD6) λz=>by
     obtain⟨j,e⟩:=z;have:=(R8.sta.old j D e).1
     exact absurd (.inl (.inr rfl)) this
    cases kk2 with
    |false=>
     rw[if_neg Cr]at c;refine PP ⟨t,u,W,_,cy,R8.sta,C,ln7,hD8,λz=>?_,c⟩;have z0:=z;simp only[Af]at z;exact((fj z0).trans R).trans (R8.pur z.1.2)
    |true=>
     rw[if_pos rfl]at c;obtain⟨⟨dv,δ9⟩,k3,c⟩:=Ac.mp c;split at c
     ·rename_i hz
      refine PQ ⟨_,_,W,dv,δ9,R8.sta,k3,λv H9 R9=>?_⟩;have hD9:H9 D=ba (.lst t):=R9.frm _ _ hD8 λz=>by
       obtain⟨j,e⟩:=z;have:=(R9.sta.old j D e).1
       exact absurd (.inl (.inr rfl)) this
      have hv:bC K (Nn (Bc ix B O H0 D (df++(g++t.zip u))) O7) H9 (Nn (Bc ix B O H0 D (df++(g++t.zip u))) O7) v dv:=R9.rep.mono (λa h=>by
       rcases h with h|h
       ·exact .inl h
       ·exact .inr h) (λa h=>by
       rcases h with h|h
       ·exact .inl h
       ·exact .inr h)
      have S10:=R9.sta.withKp (kp:=df++(g++(t++[v]).zip (u++[dv]))) λp L=>by
       rw[Se cy,<-Ay,<-Ay]at L;rcases Dh.mp L with z|z
       ·exact R9.sta.kep p (by rw[<-Ay];exact z)
       ·rw[Ba.mp (show p∈[(v,dv)] from z)]
        exact hv
      refine⟨t,hD9,by rw[cy,Cf];exact hz,t++[v],u++[dv],δ9,O7,by simp[cy],?_,C,ln7,b9,λz=>?_,c⟩
      ·exact S10.writeZ (.inl (.inr rfl)) hD9 hD
      ·intro b o e
       have hb:b≠D:=λz=>by rw[z,hD]at e;cases e
       rw[bV hb];have z0:=z;simp only[Af]at z;exact(((fj z0).trans R).trans ((R8.pur z.1.2).trans (R9.pur z.2))) b o e
     ·cases c
   ·have e : A = f.length := by lia
    subst e;rw[Fw]at c;cases c;refine .inl ⟨w2.2,F,t,eg,y.take ix.length,by rw[Cn,<-S6.len];lia,cy,?_,hD6,fj,hc⟩;have S11:=S6.turn (nl:=nl) (dn _) (XT ix σ) F (by rw[<-S6.len];exact ln1);exact S11.withKp (kp:=g++t.zip eg) λp L=>S11.kep p (At _ L)
 ·have e : i = ds.length := by lia
  subst e;rw[Fw]at hc;cases hc;refine .inl ⟨w.2,k D H1 ?_⟩;exact EJ S0 hD f0 p0 S1 az hlc hD1 ci
def GF{tg iter tg2 it2 elt:Vc}{ifs aw:List Vc}{scope:Vk}{N':List Va}{fi c:VI}{gg b:VG}{tb a:VB}{fe:VF}(hc:X.calm=bc)(k:scope.kind=.function)(e:T5 X.N N' ix scope.names X.env.kindOf=bc)(f:N'.length=ix.length+nl)(hnd:ix.Nodup)(hi:PI X tg iter (EB K ml pi fi))(i:∀(cl:List (Va×Ux)) (s1:Ae) (H1:Hp) (fp:List Ux),Blk2 (Z8 X N' scope cl s1 H1 fp) tg ifs tg2 it2 aw elt (CM K (Au ix.length) gg) (TB K (Au ix.length) pt tb) (EB K (Au ix.length) pi2 c) (CM K (Au ix.length) b) (TB K (Au ix.length) pt2 a) (TV K (Au ix.length) pe bc bc fe))(j:∀x,Vh iter X.env x=pure x:=by intro _;rfl)(d:∀(env:Env) (x:Uw),Vh it2 env x=pure x:=by intro _ _;rfl):PE X (.ListComp elt [⟨tg,iter,ifs,0⟩,⟨tg2,it2,aw,0⟩] scope pos) (TN K ml (pi&&(pt&&pi2&&pt2&&pe)) (T6 ix nl fi gg tb c b a fe)):=
 (FJ hc (YZ k e) f hi (Blk2.g hc d i) j).imp λ_ _ _ h=>F6 hnd h
end
section
variable{X:Cx}{K:Ah}{ml:List Nat}{pi pt pe pi2 pt2 pu:Bool}{pos:Pos}{ix:List Nat}{nl:Nat}{f:VF}
def GH{i:Nat}{y:Va}{py c8:Pos}{tg iter tg2 it2 elt:Vc}{ifs aw:List Vc}{scope:Vk}{N':List Va}{fi c:VI}{gg b:VG}{tb a:VB}{fe:VF}(o:Bool)(r:X.N.Nodup)(k:X.N[i]?=ba y)(m:X.env.scope.names.lookup y=ba .local)(hc:X.calm=bc)(q:scope.kind=.function)(f:T5 X.N N' ix scope.names X.env.kindOf=bc)(j:N'.length=ix.length+nl)(hnd:ix.Nodup)(hi:PI X tg iter (EB K ml pi fi))(l:∀(cl:List (Va×Ux)) (s1:Ae) (H1:Hp) (fp:List Ux),Blk2 (Z8 X N' scope cl s1 H1 fp) tg ifs tg2 it2 aw elt (CM K (Au ix.length) gg) (TB K (Au ix.length) pt tb) (EB K (Au ix.length) pi2 c) (CM K (Au ix.length) b) (TB K (Au ix.length) pt2 a) (TV K (Au ix.length) pe bc bc fe))(p:i∉ml:=by decide)(d:Hj (.ListComp elt [⟨tg,iter,ifs,0⟩,⟨tg2,it2,aw,0⟩] scope pos) (ba (.Name y py)) c8.line X.env=pure bc:=by rfl)(n:∀x,Vh iter X.env x=pure x:=by intro _;rfl)(e:∀(env:Env) (x:Uw),Vh it2 env x=pure x:=by intro _ _;rfl):PS X (.Assign [.Name y py] (.ListComp elt [⟨tg,iter,ifs,0⟩,⟨tg2,it2,aw,0⟩] scope pos) c8) (WL K ml (bH i (if o then xO (T6 ix nl fi gg tb c b a fe)else xV (T6 ix nl fi gg tb c b a fe)))):=
 (HY r k m hc (YZ q f) j hi (Blk2.g hc e l) d n).imp λD σ H h=>DX (λσ H Q z=>F6 hnd (Vz (pu:=pi&&(pt&&pi2&&pt2&&pe)) z)) p h
end
end L2
namespace TS
open PySem PySem.W PyProof.Rows
structure En where
 prog:Aw
 w:Ve
 A:Bw
 s:Ae
 κ:Ru
 it:Array Keyed
def En.Ok(n:Nat)(ck:Nat->Nat->Bool)(e:En):Prop:=∀i j,i<n->j<n->∀C:Bool->Ae->Prop,C (ck i j) e.s->kas_cmp e.prog e.w e.A e.κ e.it i j C e.s
abbrev En.at(e:En)(i:Nat):Keyed:=Ke e.it i
abbrev En.of(e:En)(p:Array Nat):Array Keyed:=p.map (Ke e.it)
structure Pu where
 p:Array Nat
 pd:Array (Nat×Nat×Nat)
 g:Nat
def stO(e:En)(x:Pu):Fk:=Kg e.κ (e.of x.p) x.pd x.g bb
section
variable{n:Nat}{ck:Nat->Nat->Bool}
def D(n:Nat)(ck:Nat->Nat->Bool){α:Type}(f:En->StateT Fk Vo α)(x:Pu)(a:En->α)(y:Pu):Prop:=
 ∀e:En,e.Ok n ck->∀(E:Uw->Ae->Prop) (Q:α->Fk->Ae->Prop),Q (a e) (stO e y) e.s->kasC (Vb e.prog e.w) e.A E (f e) Q (stO e x) e.s
def X(n:Nat)(ck:Nat->Nat->Bool){α a:Type}(f:En->StateT Fk Vo α)(x:Pu)(v:a->En->α)(R:a->Pu->Prop):Prop:=∃t y,R t y/\D n ck f x (v t) y
def D.pure{α:Type}{a:En->α}{x:Pu}:D n ck (λe=>Hm (a e)) x a x:=λe _ E Q h=>kasC_pure h
def D.bind{α β:Type}{f:En->StateT Fk Vo α}{k:En->α->StateT Fk Vo β}{x y z:Pu}{a:En->α}{b:En->β}(h1:D n ck f x a y)(h2:D n ck (λe=>k e (a e)) y b z):D n ck (λe=>f e>>=k e) x b z:=
 λe o E Q h=>Sk (h1 e o E _ (h2 e o E Q h))
def D.get{x:Pu}:D n ck (λ_=>MonadState.get) x (λe=>stO e x) x:=λe _ E Q h=>kasC_get h
def D.modify{F:En->Fk->Fk}{x y:Pu}(h:∀e,F e (stO e x)=stO e y):D n ck (λe=>modify (F e)) x (λ_=>⟨⟩) y:=λe _ E Q q=>Sm (by rw[h e];exact q)
def D.rule{r:String}{x:Pu}:D n ck (λ_=>(liftM (PySem.rule r):StateT Fk Vo Unit)) x (λ_=>()) x:=λe _ E Q q=>kasC_lift (Hc q)
theorem D.elem{q:Array Nat}{i:Nat}{x:Pu}(hi:i<q.size):D n ck (λe=>elem' (e.of q) i) x (λe=>e.at (q.getD i 0)) x:=λe _ E Q h=>by
 have b:(e.of q)[i]?=ba (e.at (q.getD i 0)):=by
  have a:q.getD i 0=q[i]:=by simp[Mc,hi]
  rw[a];simp[En.of,En.at,hi]
 show kasC _ _ _ (elem' (e.of q) i) Q _ _;rw[elem'_eq,b];exact kasC_pure h
theorem D.lt{i j:Nat}{x:Pu}(hi:i<n)(a:j<n):D n ck (λe=>lt' (e.at i) (e.at j)) x (λ_=>ba (ck i j)) x:=λe o E Q h=>by show kasC _ _ _ (lt' (e.at i) (e.at j)) Q _ _;rw[lt'_eq];refine Sk (kasC_get ?_);refine Sk (kasC_lift (Kc (Bj (o i j hi a (λc s'=>c=ck i j/\s'=e.s) ⟨rfl,rfl⟩) (λc s' hc=>?_) λ_ _ b=>b.elim)));obtain⟨rfl,rfl⟩:=hc;exact kasC_pure h
theorem D.ltAt{i j:Nat}{x:Pu}(hi:i<x.p.size)(a:j<x.p.size)(bi:x.p.getD i 0<n)(b:x.p.getD j 0<n):D n ck (λ_=>ltAt' i j) x (λ_=>ba (ck (x.p.getD i 0) (x.p.getD j 0))) x:=λe o E Q h=>by show kasC _ _ _ (ltAt' i j) Q _ _;rw[ltAt'_eq];refine Sk (kasC_get ?_);exact(D.bind (D.elem hi) (D.bind (D.elem a) (D.lt bi b)):D n ck (λe=>elem' (e.of x.p) i>>=λu=>elem' (e.of x.p) j>>=λv=>lt' u v) x _ x) e o E Q h
def D.rev{i j:Nat}{x:Pu}:D n ck (λ_=>reverseSlice' i j) x (λ_=>()) {x with p:=kas_rev x.p i j}:=λe o E Q h=>by show kasC _ _ _ (reverseSlice' i j) Q _ _;rw[reverseSlice'_eq];refine Sm ?_;have a:mirror (e.of x.p) i j ((j-i)/2)=e.of (mirror x.p i j ((j-i)/2)):=kas_swaps_map (Ke e.it) (λk=>i+k) (λk=>j-1-k) _ x.p;show Q () (Kg e.κ (mirror (e.of x.p) i j ((j-i)/2)) x.pd x.g bb) e.s;rw[a];exact h
def D.move{k l:Nat}{x:Pu}:D n ck (λ_=>moveDown' k l) x (λ_=>()) {x with p:=bubble x.p k (k-l)}:=λe o E Q h=>by show kasC _ _ _ (moveDown' k l) Q _ _;rw[moveDown'_eq];refine Sm ?_;have a:bubble (e.of x.p) k (k-l)=e.of (bubble x.p k (k-l)):=kas_swaps_map (Ke e.it) (λi=>k-i) (λi=>k-i-1) _ x.p;show Q () (Kg e.κ (bubble (e.of x.p) k (k-l)) x.pd x.g bb) e.s;rw[a];exact h
def X.ret{α b:Type}{a:En->α}{x:Pu}{v:b->En->α}{R:b->Pu->Prop}(t:b)(h:R t x)(c:∀e,a e=v t e:=by intro e;rfl):X n ck (λe=>Hm (a e)) x v R:=
 ⟨t,x,h,by rw[show a=v t from funext c];exact D.pure⟩
def X.go{α β b:Type}{f:En->StateT Fk Vo α}{k:En->α->StateT Fk Vo β}{x y:Pu}{a:En->α}{v:b->En->β}{R:b->Pu->Prop}(h1:D n ck f x a y)(h2:X n ck (λe=>k e (a e)) y v R):X n ck (λe=>f e>>=k e) x v R:=by obtain⟨t,z,h,d⟩:=h2;exact⟨t,z,h,D.bind h1 d⟩
def X.bind{α β b a:Type}{f:En->StateT Fk Vo α}{k:En->α->StateT Fk Vo β}{x:Pu}{u:a->En->α}{S:a->Pu->Prop}{v:b->En->β}{R:b->Pu->Prop}(h1:X n ck f x u S)(h2:∀t y,S t y->X n ck (λe=>k e (u t e)) y v R):X n ck (λe=>f e>>=k e) x v R:=by obtain⟨t,y,h,d⟩:=h1;exact X.go d (h2 t y h)
noncomputable def sv{β a:Type}(v:a->En->β):a ⊕ a->En->ForInStep β
 |.inl t,e=>.yield (v t e)
 |.inr t,e=>.done (v t e)
def sR{a:Type}(I J:a->Pu->Prop):a ⊕ a->Pu->Prop
 |.inl t,x=>I t x
 |.inr t,x=>J t x
theorem X.loop{β a:Type}{v:a->En->β}{I:Nat->a->Pu->Prop}{J:a->Pu->Prop}{f:En->Nat->β->StateT Fk Vo (ForInStep β)}(g:∀t x,I 0 t x->J t x):∀(l:List Nat) (t:a) (x:Pu),(∀i∈l,∀(k:Nat) (t:a) (x:Pu),I (k+1) t x->X n ck (λe=>f e i (v t e)) x (sv v) (sR (I k) J))->I l.length t x->X n ck (λe=>forIn l (v t e) (f e)) x v J
 |[],t,x,_,h=>⟨t,x,g t x h,λe o E Q q=>kasC_nil q⟩
 | i :: l,t,x,b,h => by
  obtain⟨r,y,c,d⟩:=b i Ax l.length t x h;cases r with
  |inr t'=>exact⟨t',y,c,λe o E Q q=>kasC_cons (d e o E _ q)⟩
  |inl t'=>
   obtain⟨u,z,j,m⟩:=X.loop g l t' y (λi hi=>b i (Ap _ hi)) c;exact⟨u,z,j,λe o E Q q=>kasC_cons (d e o E _ (m e o E Q q))⟩
def X.range{β g:Type}{v:g->En->β}{I:Nat->g->Pu->Prop}{J:g->Pu->Prop}{f:En->Nat->β->StateT Fk Vo (ForInStep β)}{a b:Nat}{t:g}{x:Pu}{c:En->β}(l:∀t x,I 0 t x->J t x)(m:I (b-a) t x)(j:∀i,a<=i->i<b->∀(k:Nat) (t:g) (x:Pu),I (k+1) t x->X n ck (λe=>f e i (v t e)) x (sv v) (sR (I k) J))(hc:∀e,c e=v t e:=by intro e;rfl):X n ck (λe=>forIn [a:b] (c e) (f e)) x v J:=by
 rw[show c=v t from funext hc];obtain⟨u,z,h,d⟩:=X.loop l (List.range' a (b-a)) t x (λi hi=>by
  have:=List.mem_range'_1.mp hi
  exact j i this.1 (by omega)) (by rw[List.length_range'];exact m)
 exact⟨u,z,h,λe o E Q q=>kasC_range (d e o E Q q)⟩
def X.yield{β b:Type}{v:b->En->β}{I J:b->Pu->Prop}{a:En->β}{x:Pu}(t:b)(h:I t x)(c:∀e,a e=v t e:=by intro e;rfl):X n ck (λe=>Hm (Ed (a e))) x (sv v) (sR I J):=
 X.ret (.inl t) h λe=>by rw[c e];rfl
def X.done{β b:Type}{v:b->En->β}{I J:b->Pu->Prop}{a:En->β}{x:Pu}(t:b)(h:J t x)(c:∀e,a e=v t e:=by intro e;rfl):X n ck (λe=>Hm (ForInStep.done (a e))) x (sv v) (sR I J):=
 X.ret (.inr t) h λe=>by rw[c e];rfl
end
section
variable{n:Nat}{ck:Nat->Nat->Bool}
def X.ite{α d:Type}{c:Prop}{f:En->Decidable c}{a b:En->StateT Fk Vo α}{x:Pu}{v:d->En->α}{R:d->Pu->Prop}(h1:c->X n ck a x v R)(h2:¬c->X n ck b x v R):X n ck (λe=> @_root_.ite _ c (f e) (a e) (b e)) x v R:=by
 by_cases h:c
 ·simpa only[if_pos h]using h1 h
 ·simpa only[if_neg h]using h2 h
def Pm(n:Nat)(p:Array Nat):Prop:=p.toList.Perm (Au n)
def Pm.sz{p:Array Nat}(h:Pm n p):p.size=n:=by
 have:=h.length_eq
 simpa using this
def Pm.lt{p:Array Nat}(h:Pm n p){i:Nat}(hi:i<n):p.getD i 0<n:=by
 have b:=h.sz;have a:i<p.size:=by lia
 have e:p.getD i 0=p[i]:=by simp[Mc,a]
 rw[e];exact Dm.mp (h.mem_iff.mp (by simp))
def Pm.rev{p:Array Nat}(h:Pm n p)(i j:Nat):Pm n (kas_rev p i j):=Kv (Lk.mp (mirror_perm p i j _)) h
def Pm.move{p:Array Nat}(h:Pm n p)(i j:Nat):Pm n (bubble p i j):=Kv (Lk.mp (bubble_perm p i j)) h
def Pm.cmp{x:Pu}(h:Pm n x.p){i j:Nat}(hi:i<n)(a:j<n):D n ck (λ_=>ltAt' i j) x (λ_=>ba (ck (x.p.getD i 0) (x.p.getD j 0))) x:=
 D.ltAt (by rw[h.sz];exact hi) (by rw[h.sz];exact a) (h.lt hi) (h.lt a)
def X.st{α a:Type}{f:En->StateT Fk Vo α}{x z:Pu}{v:a->En->α}{R:a->Pu->Prop}{P:Pu->Pu->Prop}(h:∀z,P x z->X n ck f z v R)(hz:P x z):X n ck f z v R:=h z hz
def Kp(n:Nat)(x y:Pu):Prop:=Pm n y.p/\y.pd=x.pd
def count{lo m:Nat}{x:Pu}(d:Pm n x.p)(h1:1<=m)(e:lo+m<=n):X n ck (λ_=>countRun' lo m) x (λt _=>ba t) (λt y=>1<=t/\t<=m/\Kp n x y):=by
 refine X.bind (u:=λ(t:Nat) _=>(bb,t)) (S:=λt y=>1<=t/\t<=m/\y=x) ?_ ?_
 ·refine X.range (I := λk t y => 1 <= t /\ t + k = m /\ y = x) (t := 1) (λt y h => ⟨h.1,by lia,h.2.2⟩) ⟨by lia,by lia,rfl⟩ λi _ _ k t y ⟨b,c,a⟩ => ?_
  subst a;refine X.go (d.cmp (by lia) (by lia)) ?_;refine X.ite (λ_=>X.done t ⟨b,by lia,rfl⟩) λ_=>X.yield (t+1) ⟨by lia,by lia,rfl⟩
 ·rintro t y ⟨b,c,rfl⟩
  have k0:Kp n y y:=⟨d,rfl⟩;refine X.ite (λ_=>X.ret t ⟨b,c,k0⟩) λq0=>?_;have q1:t+1<=m:=by
   have:t≠m:=λz=>q0 (by rw[z];exact beq_self_eq_true _)
   lia
  refine X.ite (λq2=>X.go (d.cmp (by lia) (by lia)) (X.ite (λ_=>X.ret t ⟨b,c,k0⟩) λ_=>X.go D.rev (X.st (P:=Kp n) (x:=y) ?_ ⟨d.rev _ _,rfl⟩))) λq2=>X.st (P:=Kp n) (x:=y) ?_ k0
  all_goals
   intro z hz;refine X.go D.rule ?_;refine X.bind (u:=λ(t:Nat×Nat) _=>(bb,t)) (S:=λt z=>1<=t.1/\t.1<=m/\Kp n y z) ?_ ?_
   ·refine X.range (I := λk t z => 1 <= t.1 /\ t.1 + k = m /\ Kp n y z) (t := (t + 1,0)) (λt y h => ⟨h.1,by lia,h.2.2⟩) ⟨by lia,by dsimp only;lia,hz⟩ λi _ _ k t y ⟨b,c,a⟩ => ?_
    obtain⟨t,q⟩:=t;dsimp only at b c;refine X.go (a.1.cmp (by dsimp only;lia) (by dsimp only;lia)) ?_;refine X.ite (λ_=>X.ite (λ_=>X.go D.rev (X.yield (t+1,0) ⟨by dsimp only;lia,by dsimp only;lia,a.1.rev _ _,a.2⟩)) λ_=>X.yield (t+1,0) ⟨by dsimp only;lia,by dsimp only;lia,a⟩) λ_=>?_;refine X.go (a.1.cmp (by dsimp only;lia) (by dsimp only;lia)) ?_;exact X.ite (λ_=>X.done (t,q) ⟨b,by dsimp only;lia,a⟩) λ_=>X.yield (t+1,q+1) ⟨by dsimp only;lia,by dsimp only;lia,a⟩
   ·rintro ⟨t,q⟩ z ⟨b,c,a⟩
    dsimp only at b c;refine X.ite (λ_=>X.go D.rev (X.st (P:=Kp n) (x:=y) ?_ ⟨a.1.rev _ _,a.2⟩)) λ_=>X.st (P:=Kp n) (x:=y) ?_ a
    all_goals
     intro z hz;refine X.go D.rev ?_;refine X.bind (u:=λ(t:Nat) _=>(bb,t)) (S:=λt z=>1<=t/\t<=m/\Kp n y z) ?_ λt z h=>X.ret t h;refine X.range (I:=λk t z=>1<=t/\t+k=m/\Kp n y z) (t:=t) (λt y h=>⟨h.1,by lia,h.2.2⟩) ⟨by lia,by dsimp only;lia,hz.1.rev _ _,hz.2⟩ λi _ _ k t y ⟨b,c,a⟩=>?_;refine X.go (a.1.cmp (by lia) (by lia)) ?_;exact X.ite (λ_=>X.done t ⟨b,by lia,a⟩) λ_=>X.yield (t+1) ⟨by lia,by lia,a⟩
def bin{lo m ok:Nat}{x:Pu}(c:Pm n x.p)(g:lo+m<=n):X n ck (λ_=>binarySort' lo m ok) x (λ(_:Unit) _=>bc) (λ_ y=>Kp n x y):=by
 refine X.bind (u:=λ(_:Unit) _=>(bb,())) (S:=λ_ y=>Kp n x y) ?_ λt z h=>X.ret () h;refine X.range (I:=λ_ _ z=>Kp n x z) (t:=()) (λt y h=>h) ⟨c,rfl⟩ λj f e k t y b=>?_;refine X.bind (u:=λ(t:Nat×Nat) _=>(bb,t)) (S:=λt z=>t.2<=j/\z=y) ?_ ?_
 ·refine X.range (I := λ_ t z => t.2 <= j /\ z = y) (t := (0,j)) (λt y h => h) ⟨Am _,rfl⟩ λi _ _ k t z ⟨a,d⟩ => ?_
  obtain⟨l,r⟩:=t;dsimp only at a;subst d;refine X.ite (λ_=>X.done (l,r) ⟨a,rfl⟩) λq=>?_;refine X.go (b.1.cmp (by dsimp only at q⊢;lia) (by dsimp only at q⊢;lia)) ?_;exact X.ite (λ_=>X.yield (l,(l+r)/2) ⟨by dsimp only at q⊢;lia,rfl⟩) λ_=>X.yield ((l+r)/2+1,r) ⟨a,rfl⟩
 ·rintro ⟨l,r⟩ z ⟨a,rfl⟩
  exact X.go D.move (X.yield () ⟨b.1.move _ _,b.2⟩)
end
def AQ:Bool->Keyed->Array Keyed->Nat->Nat->Nat->StateT Fk Vo (Option Nat):=sortPriv% PySem.Builtin.gallop
def E7:Array Keyed->Array Keyed->StateT Fk Vo (Array Keyed):=sortPriv% PySem.Builtin.mergeLo
def E6:Array Keyed->Array Keyed->StateT Fk Vo (Array Keyed):=sortPriv% PySem.Builtin.mergeHi
section
variable{n:Nat}{ck:Nat->Nat->Bool}
noncomputable def bey(left:Bool)(key:Nat)(q:Array Nat)(i:Nat)(e:En):StateT Fk Vo (Option Bool):=
 elem' (e.of q) i>>=λz=>if left=bc then lt' z (e.at key)else lt' (e.at key) z>>=λr=>pure (r.map (λb=> !b))
def iT{left:Bool}{key:Nat}{q:Array Nat}{x:Pu}(b:key<n){i:Nat}(hi:i<q.size)(a:q.getD i 0<n):∃c,D n ck (bey left key q i) x (λ_=>ba c) x:=by
 cases left with
 |true=>exact⟨_,D.bind (D.elem hi) (D.lt a b)⟩
 |false=>exact⟨_,D.bind (D.elem hi) (D.bind (D.lt b a) D.pure)⟩
def gal{left:Bool}{key:Nat}{q:Array Nat}{b m h:Nat}{x:Pu}(j:key<n)(p:h<m)(r:b+m<=q.size)(f:∀i,i<q.size->q.getD i 0<n):X n ck (λe=>AQ left (e.at key) (e.of q) b m h) x (λt _=>ba t) (λt y=>t<=m/\y=x):=by
 have ask:∀i,i<m->∃c,D n ck (bey left key q (b+i)) x (λ_=>ba c) x:=λi hi=>iT j (by lia) (f _ (by lia));obtain⟨c,hc⟩:=ask h p;refine X.go hc ?_;refine X.ite (λ_=>?_) λ_=>?_
 ·refine X.bind (u := λ(t : Nat × Nat) _ => (bb,t)) (S := λt z => z = x) ?_ ?_
  ·refine X.range (I := λ_ t z => z = x) (t := (0,1)) (λt y h => h) rfl λi _ _ k t z g => ?_
   obtain⟨l,o⟩:=t;subst g;refine X.ite (λ_=>X.done (l,o) rfl) λq=>?_;obtain⟨c,hc⟩:=ask (h+o) (by dsimp only at q;lia);exact X.go hc (X.ite (λ_=>X.done (l,o) rfl) λ_=>X.yield (o,2*o+1) rfl)
  ·rintro ⟨l,o⟩ z rfl
   refine X.bind (u:=λ(t:Nat×Nat) _=>(bb,t)) (S:=λt y=>t.2<=m/\y=z) ?_ λt y h=>X.ret t.2 h;refine X.range (I:=λ_ t y=>t.2<=m/\y=z) (t:=(h+l+1,h+min o (m-h))) (λt y h=>h) ⟨by dsimp only;lia,rfl⟩ λi _ _ k t y ⟨a,d⟩=>?_;obtain⟨lo,hi⟩:=t;subst d;dsimp only at a;refine X.ite (λ_=>X.done (lo,hi) ⟨a,rfl⟩) λq=>?_;obtain⟨c,hc⟩:=ask (lo+(hi-lo)/2) (by dsimp only at q;lia);exact X.go hc (X.ite (λ_=>X.yield (lo+(hi-lo)/2+1,hi) ⟨a,rfl⟩) λ_=>X.yield (lo,lo+(hi-lo)/2) ⟨by dsimp only at q⊢;lia,rfl⟩)
 ·refine X.bind (u := λ(t : Nat × Nat) _ => (bb,t)) (S := λt z => z = x) ?_ ?_
  ·refine X.range (I := λ_ t z => z = x) (t := (0,1)) (λt y h => h) rfl λi _ _ k t z g => ?_
   obtain⟨l,o⟩:=t;subst g;refine X.ite (λ_=>X.done (l,o) rfl) λq=>?_;obtain⟨c,hc⟩:=ask (h-o) (by lia);exact X.go hc (X.ite (λ_=>X.done (l,o) rfl) λ_=>X.yield (o,2*o+1) rfl)
  ·rintro ⟨l,o⟩ z rfl
   refine X.bind (u:=λ(t:Nat×Nat) _=>(bb,t)) (S:=λt y=>t.2<=m/\y=z) ?_ λt y h=>X.ret t.2 h;refine X.range (I:=λ_ t y=>t.2<=m/\y=z) (t:=(h+1-min o (h+1),h-l)) (λt y h=>h) ⟨by dsimp only;lia,rfl⟩ λi _ _ k t y ⟨a,d⟩=>?_;obtain⟨lo,hi⟩:=t;subst d;dsimp only at a;refine X.ite (λ_=>X.done (lo,hi) ⟨a,rfl⟩) λq=>?_;obtain⟨c,hc⟩:=ask (lo+(hi-lo)/2) (by dsimp only at q;lia);exact X.go hc (X.ite (λ_=>X.yield (lo+(hi-lo)/2+1,hi) ⟨a,rfl⟩) λ_=>X.yield (lo,lo+(hi-lo)/2) ⟨by dsimp only at q⊢;lia,rfl⟩)
def galE{left:Bool}{key:Nat}{q:Array Nat}{b h:Nat}{m:En->Nat}{x:Pu}(m0:Nat)(c:∀e,m e=m0)(d:key<n)(f:h<m0)(g:b+m0<=q.size)(a:∀i,i<q.size->q.getD i 0<n):X n ck (λe=>AQ left (e.at key) (e.of q) b (m e) h) x (λt _=>ba t) (λt y=>t<=m0/\y=x):=by rw[show m=λ_=>m0 from funext c];exact gal d f g a
def X.eqSize{α c:Type}{m:Nat}{q:Array Nat}{a b:En->StateT Fk Vo α}{x:Pu}{v:c->En->α}{R:c->Pu->Prop}(h1:m=q.size->X n ck a x v R)(h2:m≠q.size->X n ck b x v R):X n ck (λe=>if(m==(e.of q).size)=bc then a e else b e) x v R:=by simp only[En.of,Array.size_map];exact X.ite (λh=>h1 (by simpa using h)) λh=>h2 (by simpa using h)
def X.rangeE{β a:Type}{v:a->En->β}{I:Nat->a->Pu->Prop}{J:a->Pu->Prop}{f:En->Nat->β->StateT Fk Vo (ForInStep β)}{b:En->Nat}{t:a}{x:Pu}{c:En->β}(g:Nat)(o:∀e,b e=g)(m:∀t x,I 0 t x->J t x)(p:I g t x)(l:∀(k:Nat) (t:a) (x:Pu),k<g->I (k+1) t x->∀i,X n ck (λe=>f e i (v t e)) x (sv v) (sR (I k) J))(hc:∀e,c e=v t e:=by intro e;rfl):X n ck (λe=>forIn [0:b e] (c e) (f e)) x v J:=by
 rw[show b=λ_=>g from funext o];refine X.range (I:=λk t x=>k<=g/\I k t x) (λt x h=>m t x h.2) ⟨by lia,p⟩ (λi _ _ k t x h=>?_) hc;obtain⟨r,y,j,d⟩:=l k t x (by lia) h.2 i;refine⟨r,y,?_,d⟩;cases r with
 |inl t=>exact⟨by lia,j⟩
 |inr t=>exact j
def nO:Nat->StateT Fk Vo Unit:=sortPriv% PySem.Builtin.setMinGallop
def D.setMin{g:Nat}{x:Pu}:D n ck (λ_=>nO g) x (λ_=>()) {x with g:=g}:=D.modify (F:=λ_ s=>_) λe=>rfl
def Iv(a b o:Array Nat)(ia ib:Nat):Prop:=o.toList.Perm (a.toList.take ia++b.toList.take ib)
def F3{a:Array Nat}{i:Nat}(h:i<a.size):a.toList.take (i+1)=a.toList.take i++[a.getD i 0]:=by
 have e:a.getD i 0=a[i]:=by simp[Mc,h]
 rw[e,Sy];simp[h]
def Iv.pushB{a b o:Array Nat}{ia ib:Nat}(h:Iv a b o ia ib)(c:ib<b.size):Iv a b (o.push (b.getD ib 0)) ia (ib+1):=by unfold Iv at h⊢;rw[F3 c,Hr,<-Ay];exact h.append_right _
def Iv.pushA{a b o:Array Nat}{ia ib:Nat}(h:Iv a b o ia ib)(c:ia<a.size):Iv a b (o.push (a.getD ia 0)) (ia+1) ib:=by unfold Iv at h⊢;rw[F3 c,Hr,Ay];refine(h.append_right _).trans ?_;rw[Ay];exact Dx _ Ct
def K6(l:List Nat)(i k:Nat):l.take (i+k)=l.take i++(l.take (i+k)).drop i:=by have e:=Dy i (l.take (i+k));rw[Oi,Iy (by lia)]at e;exact e.symm
def XU(a:Array Nat)(i j:Nat):(a.extract i j).toList=(a.toList.take j).drop i:=by simp[Sz]
def Iv.extB{a b o:Array Nat}{ia ib:Nat}(h:Iv a b o ia ib)(k:Nat):Iv a b (o++b.extract ib (ib+k)) ia (ib+k):=by unfold Iv at h⊢;rw[K6 b.toList ib k,By,XU,<-Ay];exact h.append_right _
def Iv.extA{a b o:Array Nat}{ia ib:Nat}(h:Iv a b o ia ib)(k:Nat):Iv a b (o++a.extract ia (ia+k)) (ia+k) ib:=by unfold Iv at h⊢;rw[K6 a.toList ia k,By,XU,Ay];refine(h.append_right _).trans ?_;rw[Ay];exact Dx _ Ct
def NO(a:Array Nat)(i:Nat):(a.extract i a.size).toList=a.toList.drop i:=by rw[XU,show a.size=a.toList.length from rfl,List.take_length]
def Iv.all{a b o:Array Nat}{ia ib:Nat}(h:Iv a b o ia ib):(o.toList++(a.toList.drop ia++b.toList.drop ib)).Perm (a.toList++b.toList):=by refine(h.append_right _).trans ?_;have d:=Dy ia a.toList;have c:=Dy ib b.toList;generalize a.toList.take ia=i at*;generalize a.toList.drop ia=g at*;generalize b.toList.take ib=f at*;generalize b.toList.drop ib=e at*;rw[<-d,<-c,Ay,Ay];refine Dx _ ?_;rw[<-Ay,<-Ay];exact Hi _ Ct
def Iv.done{a b o:Array Nat}{ia ib:Nat}(h:Iv a b o ia ib):(o++a.extract ia a.size++b.extract ib b.size).toList.Perm (a.toList++b.toList):=by rw[By,By,NO,NO,Ay];exact h.all
def Iv.lastA{a b o:Array Nat}{ia ib:Nat}(h:Iv a b o ia ib):(o++b.extract ib b.size++a.extract ia a.size).toList.Perm (a.toList++b.toList):=by rw[By,By,NO,NO,Ay];exact(Dx _ Ct).trans h.all
end
section
variable{n:Nat}{ck:Nat->Nat->Bool}
def Sd(x y:Pu):Prop:=y.p=x.p/\y.pd=x.pd
def Al(n:Nat)(a:Array Nat):Prop:=∀i,i<a.size->a.getD i 0<n
def Lf(a b:Array Nat)(x:Pu)(m:Nat)(r:Option (Array Nat))(o:Array Nat)(ia ib:Nat)(y:Pu):Prop:=r=bb/\Iv a b o ia ib/\ia+1<a.size/\ib<b.size/\m<=ia+ib/\Sd x y
def Td(a b:Array Nat)(x:Pu)(r:Option (Array Nat))(y:Pu):Prop:=∃t,r=ba t/\t.toList.Perm (a.toList++b.toList)/\Sd x y
noncomputable def vG{β:Type}(t:Option (Array Nat)×Array Nat×β)(e:En):Option (Array Keyed)×Array Keyed×β:=(t.1.map e.of,e.of t.2.1,t.2.2)
def aJ(e:En)(o:Array Nat)(i:Nat):(e.of o).push (e.at i)=e.of (o.push i):=by simp[En.of,En.at]
def Y3(e:En)(o:Array Nat)(q:Array Nat):e.of o++e.of q=e.of (o++q):=by simp[En.of]
def ZR(e:En)(o:Array Nat)(i j:Nat):(e.of o).extract i j=e.of (o.extract i j):=by simp[En.of]
def UJ(e:En)(o:Array Nat):(e.of o).size=o.size:=by simp[En.of]
def R6(e:En)(o:Array Nat):(e.of o).reverse=e.of o.reverse:=by simp[En.of]
def PZ(e:En)(i:Nat): #[e.at i]=e.of #[i]:=by simp[En.of,En.at]
def X.yieldG{β:Type}{tail:β}{o:Array Nat}{O:En->Array Keyed}{I J:Option (Array Nat)×Array Nat×β->Pu->Prop}{y:Pu}(h:I (bb,o,tail) y)(a:∀e,O e=e.of o):X n ck (λe=>Hm (Ed (bb,O e,tail))) y (sv vG) (sR I J):=
 X.yield (bb,o,tail) h λe=>by rw[a];rfl
def X.doneG{β:Type}{tail:β}{o:Array Nat}{O:En->Array Keyed}{I J:Option (Array Nat)×Array Nat×β->Pu->Prop}{y:Pu}(h:J (bb,o,tail) y)(a:∀e,O e=e.of o):X n ck (λe=>Hm (ForInStep.done (bb,O e,tail))) y (sv vG) (sR I J):=
 X.done (bb,o,tail) h λe=>by rw[a];rfl
def X.tellD{β:Type}{tail:β}{a b o:Array Nat}{ia ib:Nat}{O:En->Array Keyed}{I J:Option (Array Nat)×Array Nat×β->Pu->Prop}{x y:Pu}(q:Iv a b o ia ib)(c:Sd x y)(d:∀e,O e=e.of o)(f:∀t,Td a b x t.1 y->J t y):X n ck (λe=>Hm (ForInStep.done (ba (O e++(e.of a).extract ia (e.of a).size++(e.of b).extract ib (e.of b).size),O e,tail))) y (sv vG) (sR I J):=
 X.done (ba (o++a.extract ia a.size++b.extract ib b.size),o,tail) (f _ ⟨_,rfl,q.done,c⟩) λe=>by rw[d,UJ,UJ,ZR,ZR,Y3,Y3];rfl
def X.tellL{β:Type}{tail:β}{a b o:Array Nat}{ia ib:Nat}{O:En->Array Keyed}{I J:Option (Array Nat)×Array Nat×β->Pu->Prop}{x y:Pu}(q:Iv a b o ia ib)(c:Sd x y)(d:∀e,O e=e.of o)(f:∀t,Td a b x t.1 y->J t y):X n ck (λe=>Hm (ForInStep.done (ba (O e++(e.of b).extract ib (e.of b).size++(e.of a).extract ia (e.of a).size),O e,tail))) y (sv vG) (sR I J):=
 X.done (ba (o++b.extract ib b.size++a.extract ia a.size),o,tail) (f _ ⟨_,rfl,q.lastA,c⟩) λe=>by rw[d,UJ,UJ,ZR,ZR,Y3,Y3];rfl
def all5{A B C D E:Type}{P:A×B×C×D×E->Prop}(h:∀a b c d e,P (a,b,c,d,e)):∀t,P t:=λ⟨a,b,c,d,e⟩=>h a b c d e
def all6{A B C D E F:Type}{P:A×B×C×D×E×F->Prop}(h:∀a b c d e f,P (a,b,c,d,e,f)):∀t,P t:=λ⟨a,b,c,d,e,f⟩=>h a b c d e f
def all7{A B C D E F G:Type}{P:A×B×C×D×E×F×G->Prop}(h:∀a b c d e f g,P (a,b,c,d,e,f,g)):∀t,P t:=λ⟨a,b,c,d,e,f,g⟩=>h a b c d e f g
def X.join1{α b:Type}{c:Prop}{f:En->Decidable c}{a:En->StateT Fk Vo α}{F:Nat->En->StateT Fk Vo α}{p g:Nat}{x:Pu}{v:b->En->α}{R:b->Pu->Prop}(key:∀g,X n ck (F g) x v R)(d:∀e,a e=F p e):X n ck (λe=> @_root_.ite _ c (f e) (a e) (F g e)) x v R:=X.ite (λ_=>by rw[show a=F p from funext d];exact key p) λ_=>key g
def X.join2{α b:Type}{c:Prop}{g:En->Decidable c}{a:En->StateT Fk Vo α}{F:Array Nat->Nat->En->StateT Fk Vo α}{o:Array Nat}{j:Nat}{x:Pu}{v:b->En->α}{R:b->Pu->Prop}(P:Array Nat->Nat->Prop)(key:∀o j,P o j->X n ck (F o j) x v R)(f:(∀o j,P o j->X n ck (F o j) x v R)->c->X n ck a x v R)(d:P o j):X n ck (λe=> @_root_.ite _ c (g e) (a e) (F o j e)) x v R:=X.ite (f key) λ_=>key _ _ d
def X.cg{α c:Type}{a b:En->StateT Fk Vo α}{x:Pu}{v:c->En->α}{R:c->Pu->Prop}(e:∀e,a e=b e)(h:X n ck b x v R):X n ck a x v R:=by rw[show a=b from funext e];exact h
def l9{a b:Array Nat}{x:Pu}(P:Al n a)(N:Al n b)(a1:1<=a.size)(b1:1<=b.size):X n ck (λe=>E7 (e.of a) (e.of b)) x (λt e=>e.of t) (λt y=>t.toList.Perm (a.toList++b.toList)/\Sd x y):=by
 have L:Iv a b #[b.getD 0 0] 0 1:=by
  have e:Iv a b #[] 0 0:=by unfold Iv;simp
  exact e.pushB (by lia)
 refine X.go D.rule ?_;refine X.go (D.elem (q:=b) (i:=0) (by lia)) ?_;refine X.eqSize (λh=>X.ret (#[b.getD 0 0]++a.extract 0 a.size++b.extract 1 b.size) ⟨L.done,rfl,rfl⟩ λe=>?_) λh=>?_
 ·simp only[<-Y3,<-ZR,UJ,PZ]
 refine X.eqSize (λh=>X.ret (#[b.getD 0 0]++b.extract 1 b.size++a.extract 0 a.size) ⟨L.lastA,rfl,rfl⟩ λe=>?_) λh2=>?_
 ·simp only[<-Y3,<-ZR,UJ,PZ]
 refine X.go D.get ?_;have G:∀e:En,(e.of a).size+(e.of b).size=a.size+b.size:=λe=>by simp only[UJ]
 refine X.bind (u:=vG) (S:=λt y=>Td a b x t.1 y) ?_ ?_
 ·refine X.rangeE (v := vG) (I := λk t y => Lf a b x (a.size + b.size-k) t.1 t.2.1 t.2.2.1 t.2.2.2.1 y) (t := (bb,#[b.getD 0 0],0,1,x.g)) (a.size + b.size) G ?_ ⟨rfl,L,by dsimp only;lia,by dsimp only;lia,by dsimp only;lia,rfl,rfl⟩ ?_ λe => ?_
  ·rintro t y ⟨_,_,T,R,Q,_⟩
   exact absurd Q (by lia)
  ·refine λk => all5 λr o ia ib g y H c i => ?_
   obtain rfl:=c.1;have h2:=c.2.1;have T:=c.2.2.1;have R:=c.2.2.2.1;have Q:=c.2.2.2.2.1;have Z:=c.2.2.2.2.2;dsimp only at h2 T R Q;dsimp only[vG];refine X.bind (u:=vG) (S:=λt z=>Td a b x t.1 z∨Lf a b x (ia+ib+1) t.1 t.2.1 t.2.2.1 t.2.2.2.1 z) ?_ ?_
   ·refine X.rangeE (v := vG) (I := λk t y => Lf a b x (ia + ib + if k < a.size + b.size then 1 else 0) t.1 t.2.1 t.2.2.1 t.2.2.2.1 y) (t := (bb,o,ia,ib,0,0)) (a.size + b.size) G ?_ ⟨rfl,h2,T,R,by rw [if_neg (by lia)];exact Am _,Z⟩ ?_
    ·intro t y h
     rw[if_pos (by lia)]at h;exact .inr h
    ·refine λk => all6 λr o f s ac J y H c i => ?_
     obtain rfl:=c.1;have A:=c.2.1;have C:=c.2.2.1;have m:=c.2.2.2.1;have E:=c.2.2.2.2.1;have l:=c.2.2.2.2.2;dsimp only at A C m E;dsimp only[vG];have g5':ia+ib<=f+s:=by split at E<;>lia
     refine X.go (D.elem (q:=b) (i:=s) m) (X.go (D.elem (q:=a) (i:=f) (by lia)) (X.go (D.lt (N _ m) (P _ (by lia))) ?_));refine X.ite (λ_=>?_) λ_=>?_
     ·refine X.go (D.elem (q:=b) (i:=s) m) ?_
      have q:=A.pushB m;refine X.eqSize (λ_=>X.tellD q l (λe=>aJ e _ _) λt h=>.inl h) λz=>?_;exact X.ite (λ_=>X.doneG (.inr ⟨rfl,q,C,by dsimp only;lia,by dsimp only;lia,l⟩) λe=>aJ e _ _) λ_=>X.yieldG ⟨rfl,q,C,by dsimp only;lia,by dsimp only;rw[if_pos H];lia,l⟩ λe=>aJ e _ _
     ·refine X.go (D.elem (q := a) (i := f) (by lia)) ?_
      have q:=A.pushA (show f<a.size by lia);refine X.eqSize (λ_=>X.tellL q l (λe=>aJ e _ _) λt h=>.inl h) λz=>?_;exact X.ite (λ_=>X.doneG (.inr ⟨rfl,q,by dsimp only;lia,m,by dsimp only;lia,l⟩) λe=>aJ e _ _) λ_=>X.yieldG ⟨rfl,q,by dsimp only;lia,m,by dsimp only;rw[if_pos H];lia,l⟩ λe=>aJ e _ _
   ·refine all6 λr o f s ac J z c => c.elim (λc => ?_) λc => ?_
    ·obtain⟨t,B,M⟩:=c
     dsimp only at B;subst B;exact X.done (ba t,o,f,s,g) ⟨t,rfl,M⟩
    ·have B:=c.1
     have A:=c.2.1;have C:=c.2.2.1;have m:=c.2.2.2.1;have E:=c.2.2.2.2.1;have l:=c.2.2.2.2.2;dsimp only at B A C m E;subst B;dsimp only[vG];refine X.go D.rule ?_;refine X.bind (u:=vG) (S:=λt z=>Td a b x t.1 z∨Lf a b x (ia+ib+1) t.1 t.2.1 t.2.2.1 t.2.2.2.1 z) ?_ ?_
     ·refine X.rangeE (v := vG) (I := λ_ t y => Lf a b x (ia + ib + 1) t.1 t.2.1 t.2.2.1 t.2.2.2.1 y) (t := (bb,o,f,s,g + 1,ac,J)) (a.size + b.size) G (λt y h => .inr h) ⟨rfl,A,C,m,E,l⟩ ?_
      refine λk=>all7 λr o f s g ac J y H c i=>?_;obtain rfl:=c.1;have A:=c.2.1;have C:=c.2.2.1;have m:=c.2.2.2.1;have E:=c.2.2.2.2.1;have l:=c.2.2.2.2.2;dsimp only at A C m E;dsimp only[vG];apply X.join1 (p:=g-1) (g:=g);rotate_left
      ·exact λ_=>rfl
      intro g;refine X.go D.setMin (X.go (D.elem (q:=b) (i:=s) m) (X.bind (galE (a.size-f) (λe=>by simp only[UJ]) (N _ m) (by lia) (by lia) P) ?_));rintro d z ⟨hd,rfl⟩;dsimp only;apply X.join2 (o:=o) (j:=f) (λo j=>Iv a b o j s/\j+1<a.size/\ia+ib+1<=j+s)
      ·rintro o f ⟨A,C,E⟩
       refine X.go (D.elem (q:=b) (i:=s) m) ?_;have r:=A.pushB m;have K:∀e:En,(e.of o).push (e.at (b.getD s 0))=e.of (o.push (b.getD s 0)):=λe=>aJ e _ _;refine X.eqSize (λ_=>X.tellD r l K λt h=>.inl h) λz3=>?_;refine X.go (D.elem (q:=a) (i:=f) (by lia)) (X.bind (galE (b.size-(s+1)) (λe=>by simp only[UJ]) (P _ (by lia)) (by lia) (by lia) N) ?_);rintro V z ⟨Y,rfl⟩;refine X.ite (λ_=>?_) λ_=>?_
       ·have u:=r.extB V
        have U:∀e:En,_=e.of _:=λe=>((congrArg (λO=>O++(e.of b).extract (s+1) (s+1+V)) (K e)).trans (by rw[ZR])).trans (Y3 e _ _);refine X.eqSize (λ_=>X.tellD u l U λt h=>.inl h) λz4=>?_;refine X.go (D.elem (q:=a) (i:=f) (by lia)) ?_;have w:=u.pushA (show f<a.size by lia);have F:∀e:En,_=e.of _:=λe=>(congrArg (λO=>O.push (e.at (a.getD f 0))) (U e)).trans (aJ e _ _);refine X.eqSize (λ_=>X.tellL w l F λt h=>.inl h) λW=>?_;exact X.ite (λ_=>X.doneG (.inr ⟨rfl,w,by dsimp only;lia,by dsimp only;lia,by dsimp only;lia,l⟩) F) λ_=>X.yieldG ⟨rfl,w,by dsimp only;lia,by dsimp only;lia,by dsimp only;lia,l⟩ F
       ·refine X.go (D.elem (q := a) (i := f) (by lia)) ?_
        have w:=r.pushA (show f<a.size by lia);have F:∀e:En,_=e.of _:=λe=>(congrArg (λO=>O.push (e.at (a.getD f 0))) (K e)).trans (aJ e _ _);refine X.eqSize (λ_=>X.tellL w l F λt h=>.inl h) λW=>?_;exact X.ite (λ_=>X.doneG (.inr ⟨rfl,w,by dsimp only;lia,by dsimp only;lia,by dsimp only;lia,l⟩) F) λ_=>X.yieldG ⟨rfl,w,by dsimp only;lia,by dsimp only;lia,by dsimp only;lia,l⟩ F
      ·intro key _
       have q:=A.extA d;have qO:∀e:En,e.of o++(e.of a).extract f (f+d)=e.of (o++a.extract f (f+d)):=λe=>by rw[ZR,Y3]
       refine X.eqSize (λ_=>X.tellL q l qO λt h=>.inl h) λz1=>X.eqSize (λ_=>X.tellD q l qO λt h=>.inl h) λz2=>?_;exact X.cg (λe=>by rw[qO e];rfl) (key (o++a.extract f (f+d)) (f+d) ⟨q,by lia,by lia⟩)
      ·exact⟨A,C,E⟩
     ·refine all7 λr o f s g ac J z c => c.elim (λc => ?_) λc => ?_
      ·obtain⟨t,B,M⟩:=c
       dsimp only at B;subst B;exact X.done (ba t,o,f,s,g) ⟨t,rfl,M⟩
      ·have B:=c.1
       have A:=c.2.1;have C:=c.2.2.1;have m:=c.2.2.2.1;have E:=c.2.2.2.2.1;have l:=c.2.2.2.2.2;dsimp only at B A C m E;subst B;dsimp only[vG];refine X.go D.setMin ?_;exact X.yieldG ⟨rfl,A,C,m,by dsimp only;lia,l⟩ λe=>rfl
  ·simp only[PZ]
   rfl
 ·refine all5 λr o ia ib g y c => ?_
  obtain⟨t,B,h⟩:=c;dsimp only at B;subst B;exact X.ret t h
end
section
variable{n:Nat}{ck:Nat->Nat->Bool}
def Iw(a b o:Array Nat)(d c:Nat):Prop:=o.toList.Perm (a.toList.drop d++b.toList.drop c)
def EM{a:Array Nat}{i:Nat}(b:0<i)(h:i<=a.size):a.toList.drop (i-1)=a.getD (i-1) 0::a.toList.drop i:=by
 have h1:i-1<a.size:=by lia
 have e:a.getD (i-1) 0=a[i-1]:=by simp[Mc,h1]
 rw[e,Dn (by simpa using h1),show i-1+1=i by lia];simp
def Iw.pushA{a b o:Array Nat}{c d:Nat}(h:Iw a b o c d)(e:0<c)(h1:c<=a.size):Iw a b (o.push (a.getD (c-1) 0)) (c-1) d:=by unfold Iw at h⊢;rw[EM e h1,Hr,Hz];exact Ct.trans (Ta _ h)
def Iw.pushB{a b o:Array Nat}{d c:Nat}(h:Iw a b o d c)(e:0<c)(h1:c<=b.size):Iw a b (o.push (b.getD (c-1) 0)) d (c-1):=by unfold Iw at h⊢;rw[EM e h1,Hr];exact(Ct.trans (Ta _ h)).trans List.perm_middle.symm
def PC(l:List Nat)(i j:Nat)(h:i<=j):l.drop i=(l.take j).drop i++l.drop j:=by have e:=Dy (j-i) (l.drop i);rw[Tb,show i+(j-i)=j by lia,<-Sz]at e;exact e.symm
def Iw.extA{a b o:Array Nat}{c d:Nat}(h:Iw a b o c d){t:Nat}(e:t<=c):Iw a b (o++(a.extract t c).reverse) t d:=by unfold Iw at h⊢;rw[PC a.toList t c e,By,Hu,XU,Ay];exact Ct.trans (Rl (Md _) h)
def Iw.extB{a b o:Array Nat}{d c:Nat}(h:Iw a b o d c){t:Nat}(e:t<=c):Iw a b (o++(b.extract t c).reverse) d t:=by unfold Iw at h⊢;rw[PC b.toList t c e,By,Hu,XU];generalize (b.toList.take c).drop t=u at*;refine(Rl h (Md u)).trans ?_;rw[Ay];exact Dx _ Ct
def Iw.all{a b o:Array Nat}{d c:Nat}(h:Iw a b o d c):((a.toList.take d++b.toList.take c)++o.toList.reverse).Perm (a.toList++b.toList):=by refine(Dx _ ((Md _).trans h)).trans ?_;have f:=Dy d a.toList;have e:=Dy c b.toList;generalize a.toList.take d=k at*;generalize a.toList.drop d=j at*;generalize b.toList.take c=i at*;generalize b.toList.drop c=g at*;rw[<-f,<-e,Ay,Ay];refine Dx _ ?_;rw[<-Ay,<-Ay];exact Hi _ Ct
def HB(a:Array Nat)(i:Nat):(a.extract 0 i).toList=a.toList.take i:=by rw[XU];rfl
def Iw.done{a b o:Array Nat}{d c:Nat}(h:Iw a b o d c):(a.extract 0 d++b.extract 0 c++o.reverse).toList.Perm (a.toList++b.toList):=by rw[By,By,HB,HB,Hu];exact h.all
def Iw.first{a b o:Array Nat}{d c:Nat}(h:Iw a b o d c):(b.extract 0 c++a.extract 0 d++o.reverse).toList.Perm (a.toList++b.toList):=by rw[By,By,HB,HB,Hu];exact(Hi _ Ct).trans h.all
def Lh(a b:Array Nat)(x:Pu)(m:Nat)(r:Option (Array Nat))(o:Array Nat)(d c:Nat)(y:Pu):Prop:=r=bb/\Iw a b o d c/\0<d/\d<=a.size/\1<c/\c<=b.size/\d+c<=m/\Sd x y
abbrev HT(β:Type):=Option (Array Nat)×Nat×Nat×Array Nat×β
noncomputable def vH{β:Type}(t:HT β)(e:En):Option (Array Keyed)×Nat×Nat×Array Keyed×β:=(t.1.map e.of,t.2.1,t.2.2.1,e.of t.2.2.2.1,t.2.2.2.2)
def X.yieldH{β:Type}{tail:β}{o:Array Nat}{b a:Nat}{O:En->Array Keyed}{I J:HT β->Pu->Prop}{y:Pu}(h:I (bb,b,a,o,tail) y)(c:∀e,O e=e.of o):X n ck (λe=>Hm (Ed (bb,b,a,O e,tail))) y (sv vH) (sR I J):=
 X.yield (bb,b,a,o,tail) h λe=>by rw[c];rfl
def X.doneH{β:Type}{tail:β}{o:Array Nat}{b a:Nat}{O:En->Array Keyed}{I J:HT β->Pu->Prop}{y:Pu}(h:J (bb,b,a,o,tail) y)(c:∀e,O e=e.of o):X n ck (λe=>Hm (ForInStep.done (bb,b,a,O e,tail))) y (sv vH) (sR I J):=
 X.done (bb,b,a,o,tail) h λe=>by rw[c];rfl
def X.tellE{β:Type}{tail:β}{a b o:Array Nat}{d c:Nat}{O:En->Array Keyed}{I J:HT β->Pu->Prop}{x y:Pu}(q:Iw a b o d c)(f:Sd x y)(g:∀e,O e=e.of o)(h:∀t,Td a b x t.1 y->J t y):X n ck (λe=>Hm (ForInStep.done (ba ((e.of a).extract 0 d++(e.of b).extract 0 c++(O e).reverse),d,c,O e,tail))) y (sv vH) (sR I J):=
 X.done (ba (a.extract 0 d++b.extract 0 c++o.reverse),d,c,o,tail) (h _ ⟨_,rfl,q.done,f⟩) λe=>by rw[g,ZR,ZR,R6,Y3,Y3];rfl
def X.tellF{β:Type}{tail:β}{a b o:Array Nat}{d c:Nat}{O:En->Array Keyed}{I J:HT β->Pu->Prop}{x y:Pu}(q:Iw a b o d c)(f:Sd x y)(g:∀e,O e=e.of o)(h:∀t,Td a b x t.1 y->J t y):X n ck (λe=>Hm (ForInStep.done (ba ((e.of b).extract 0 c++(e.of a).extract 0 d++(O e).reverse),d,c,O e,tail))) y (sv vH) (sR I J):=
 X.done (ba (b.extract 0 c++a.extract 0 d++o.reverse),d,c,o,tail) (h _ ⟨_,rfl,q.first,f⟩) λe=>by rw[g,ZR,ZR,R6,Y3,Y3];rfl
def X.is{α c:Type}{m k:Nat}{d:En->Decidable ((m==k)=bc)}{a b:En->StateT Fk Vo α}{x:Pu}{v:c->En->α}{R:c->Pu->Prop}(h1:m=k->X n ck a x v R)(h2:m≠k->X n ck b x v R):X n ck (λe=> @_root_.ite _ ((m==k)=bc) (d e) (a e) (b e)) x v R:=
 X.ite (λh=>h1 (by simpa using h)) λh=>h2 (by simpa using h)
def X.iteE{α d:Type}{c:En->Prop}{f:(e:En)->Decidable (c e)}{a b:En->StateT Fk Vo α}{x:Pu}{v:d->En->α}{R:d->Pu->Prop}{c0:Prop}(hc:∀e,c e=c0)(h1:c0->X n ck a x v R)(h2:¬c0->X n ck b x v R):X n ck (λe=> @_root_.ite _ (c e) (f e) (a e) (b e)) x v R:=by obtain rfl:c=λ_=>c0:=funext hc;exact X.ite h1 h2
def gF{a b:Array Nat}{x:Pu}(T:Al n a)(R:Al n b)(a1:1<=a.size)(b1:1<=b.size):X n ck (λe=>E6 (e.of a) (e.of b)) x (λt e=>e.of t) (λt y=>t.toList.Perm (a.toList++b.toList)/\Sd x y):=by
 have Y:Iw a b #[a.getD (a.size-1) 0] (a.size-1) b.size:=by
  have e:Iw a b #[] a.size b.size:=by unfold Iw;rw[show a.size=a.toList.length from rfl,show b.size=b.toList.length from rfl,Fw,Fw];exact .refl _
  exact e.pushA (by lia) (Am _)
 refine X.go D.rule ?_;simp only[UJ];refine X.go (D.elem (q:=a) (i:=a.size-1) (by lia)) ?_;refine X.is (λh=>X.ret (a.extract 0 (a.size-1)++b.extract 0 b.size++ #[a.getD (a.size-1) 0].reverse) ⟨Y.done,rfl,rfl⟩ λe=>?_) λh=>?_
 ·simp only[<-Y3,<-ZR,<-R6,PZ]
 refine X.is (λh=>X.ret (b.extract 0 b.size++a.extract 0 (a.size-1)++ #[a.getD (a.size-1) 0].reverse) ⟨Y.first,rfl,rfl⟩ λe=>?_) λh2=>?_
 ·simp only[<-Y3,<-ZR,<-R6,PZ]
 refine X.go D.get ?_;refine X.bind (u:=vH) (S:=λt y=>Td a b x t.1 y) ?_ ?_
 ·refine X.rangeE (v := vH) (I := λk t y => Lh a b x k t.1 t.2.2.2.1 t.2.1 t.2.2.1 y) (t := (bb,a.size-1,b.size,#[a.getD (a.size-1) 0],x.g)) (a.size + b.size) (λe => rfl) ?_ ⟨rfl,Y,by dsimp only;lia,by dsimp only;lia,by dsimp only;lia,by dsimp only;lia,by dsimp only;lia,rfl,rfl⟩ ?_ λe => ?_
  ·rintro t y ⟨_,_,h3,h4,h5,h6,h7,_⟩
   exact absurd h7 (by lia)
  ·refine λk => all5 λr na nb o g y Q c i => ?_
   obtain rfl:=c.1;have h2:=c.2.1;have h3:=c.2.2.1;have P:=c.2.2.2.1;have h4:=c.2.2.2.2.1;have N:=c.2.2.2.2.2.1;have h5:=c.2.2.2.2.2.2.1;have h6:=c.2.2.2.2.2.2.2;dsimp only at h2 h3 P h4 N h5;dsimp only[vH];refine X.bind (u:=vH) (S:=λt z=>Td a b x t.1 z∨Lh a b x k t.1 t.2.2.2.1 t.2.1 t.2.2.1 z) ?_ ?_
   ·refine X.rangeE (v := vH) (I := λj t y => Lh a b x (if j < a.size + b.size then k else k + 1) t.1 t.2.2.2.1 t.2.1 t.2.2.1 y) (t := (bb,na,nb,o,0,0)) (a.size + b.size) (λe => rfl) ?_ ⟨rfl,h2,h3,P,h4,N,by rw [if_neg (by lia)];exact h5,h6⟩ ?_
    ·intro t y h
     rw[if_pos (by lia)]at h;exact .inr h
    ·refine λj => all6 λr A s o ac U y Q c i => ?_
     obtain rfl:=c.1;have E:=c.2.1;have F:=c.2.2.1;have m:=c.2.2.2.1;have G:=c.2.2.2.2.1;have l:=c.2.2.2.2.2.1;have H:=c.2.2.2.2.2.2.1;have f:=c.2.2.2.2.2.2.2;dsimp only at E F m G l H;dsimp only[vH];have g5':A+s<=k+1:=by split at H<;>lia
     refine X.go (D.elem (q:=b) (i:=s-1) (by lia)) (X.go (D.elem (q:=a) (i:=A-1) (by lia)) (X.go (D.lt (R _ (by lia)) (T _ (by lia))) ?_));refine X.ite (λ_=>?_) λ_=>?_
     ·refine X.go (D.elem (q := a) (i := A-1) (by lia)) ?_
      have q:=E.pushA F m;refine X.is (λ_=>X.tellE q f (λe=>aJ e _ _) λt h=>.inl h) λz=>?_;exact X.ite (λ_=>X.doneH (.inr ⟨rfl,q,by dsimp only;lia,by dsimp only;lia,G,l,by dsimp only;lia,f⟩) λe=>aJ e _ _) λ_=>X.yieldH ⟨rfl,q,by dsimp only;lia,by dsimp only;lia,G,l,by dsimp only;rw[if_pos Q];lia,f⟩ λe=>aJ e _ _
     ·refine X.go (D.elem (q := b) (i := s-1) (by lia)) ?_
      have q:=E.pushB (by lia) l;refine X.is (λ_=>X.tellF q f (λe=>aJ e _ _) λt h=>.inl h) λz=>?_;exact X.ite (λ_=>X.doneH (.inr ⟨rfl,q,F,m,by dsimp only;lia,by dsimp only;lia,by dsimp only;lia,f⟩) λe=>aJ e _ _) λ_=>X.yieldH ⟨rfl,q,F,m,by dsimp only;lia,by dsimp only;lia,by dsimp only;rw[if_pos Q];lia,f⟩ λe=>aJ e _ _
   ·refine all6 λr A s o ac U z c => c.elim (λc => ?_) λc => ?_
    ·obtain⟨t,C,Z⟩:=c
     dsimp only at C;subst C;exact X.done (ba t,A,s,o,g) ⟨t,rfl,Z⟩
    ·have C:=c.1
     have E:=c.2.1;have F:=c.2.2.1;have m:=c.2.2.2.1;have G:=c.2.2.2.2.1;have l:=c.2.2.2.2.2.1;have H:=c.2.2.2.2.2.2.1;have f:=c.2.2.2.2.2.2.2;dsimp only at C E F m G l H;subst C;dsimp only[vH];refine X.go D.rule ?_;refine X.bind (u:=vH) (S:=λt z=>Td a b x t.1 z∨Lh a b x k t.1 t.2.2.2.1 t.2.1 t.2.2.1 z) ?_ ?_
     ·refine X.rangeE (v := vH) (I := λ_ t y => Lh a b x k t.1 t.2.2.2.1 t.2.1 t.2.2.1 y) (t := (bb,A,s,o,g + 1,ac,U)) (a.size + b.size) (λe => rfl) (λt y h => .inr h) ⟨rfl,E,F,m,G,l,H,f⟩ ?_
      refine λj=>all7 λr A s o g ac U y Q c i=>?_;obtain rfl:=c.1;have E:=c.2.1;have F:=c.2.2.1;have m:=c.2.2.2.1;have G:=c.2.2.2.2.1;have l:=c.2.2.2.2.2.1;have H:=c.2.2.2.2.2.2.1;have f:=c.2.2.2.2.2.2.2;dsimp only at E F m G l H;dsimp only[vH];apply X.join1 (p:=g-1) (g:=g);rotate_left
      ·exact λ_=>rfl
      intro g;refine X.go D.setMin (X.go (D.elem (q:=b) (i:=s-1) (by lia)) (X.bind (gal (R _ (by lia)) (by lia) (by lia) T) ?_));rintro d z ⟨hd,rfl⟩;refine X.ite (λ_=>?_) λ_=>?_
      ·have q:=E.extA hd
       have qO:∀e:En,e.of o++((e.of a).extract d A).reverse=e.of (o++(a.extract d A).reverse):=λe=>by rw[ZR,R6,Y3]
       refine X.is (λ_=>X.tellE q f qO λt h=>.inl h) λz1=>?_;refine X.go (D.elem (q:=b) (i:=s-1) (by lia)) ?_;have r:=q.pushB (show 0<s by lia) l;have K:∀e:En,_=e.of _:=λe=>(congrArg (λO=>O.push (e.at (b.getD (s-1) 0))) (qO e)).trans (aJ e _ _);refine X.is (λ_=>X.tellF r f K λt h=>.inl h) λz3=>?_;refine X.go (D.elem (q:=a) (i:=d-1) (by lia)) (X.bind (gal (T _ (by lia)) (by lia) (by lia) R) ?_);rintro M z ⟨L,rfl⟩;refine X.ite (λ_=>?_) λ_=>?_
       ·have u:=r.extB L
        have J:∀e:En,_=e.of _:=λe=>((congrArg (λO=>O++((e.of b).extract M (s-1)).reverse) (K e)).trans (by rw[ZR,R6])).trans (Y3 e _ _);refine X.is (λ_=>X.tellF u f J λt h=>.inl h) λz4=>X.is (λ_=>X.tellE u f J λt h=>.inl h) λW=>?_;refine X.go (D.elem (q:=a) (i:=d-1) (by lia)) ?_;have w:=u.pushA (show 0<d by lia) (by lia);have B:∀e:En,_=e.of _:=λe=>(congrArg (λO=>O.push (e.at (a.getD (d-1) 0))) (J e)).trans (aJ e _ _);refine X.is (λ_=>X.tellE w f B λt h=>.inl h) λV=>?_;exact X.iteE (c0:=(decide (A-d<7)&&decide (s-1-M<7))=bc) (λe=>rfl) (λ_=>X.doneH (.inr ⟨rfl,w,by dsimp only;lia,by dsimp only;lia,by dsimp only;lia,by dsimp only;lia,by dsimp only;lia,f⟩) B) λ_=>X.yieldH ⟨rfl,w,by dsimp only;lia,by dsimp only;lia,by dsimp only;lia,by dsimp only;lia,by dsimp only;lia,f⟩ B
       ·skip
        refine X.go (D.elem (q:=a) (i:=d-1) (by lia)) ?_;have w:=r.pushA (show 0<d by lia) (by lia);have B:∀e:En,_=e.of _:=λe=>(congrArg (λO=>O.push (e.at (a.getD (d-1) 0))) (K e)).trans (aJ e _ _);refine X.is (λ_=>X.tellE w f B λt h=>.inl h) λV=>?_;exact X.iteE (c0:=(decide (A-d<7)&&decide (s-1-M<7))=bc) (λe=>rfl) (λ_=>X.doneH (.inr ⟨rfl,w,by dsimp only;lia,by dsimp only;lia,by dsimp only;lia,by dsimp only;lia,by dsimp only;lia,f⟩) B) λ_=>X.yieldH ⟨rfl,w,by dsimp only;lia,by dsimp only;lia,by dsimp only;lia,by dsimp only;lia,by dsimp only;lia,f⟩ B
      ·have qO : ∀ e : En,e.of o = e.of o := λe => rfl
       refine X.go (D.elem (q:=b) (i:=s-1) (by lia)) ?_;have r:=E.pushB (show 0<s by lia) l;have K:∀e:En,_=e.of _:=λe=>(congrArg (λO=>O.push (e.at (b.getD (s-1) 0))) (qO e)).trans (aJ e _ _);refine X.is (λ_=>X.tellF r f K λt h=>.inl h) λz3=>?_;refine X.go (D.elem (q:=a) (i:=A-1) (by lia)) (X.bind (gal (T _ (by lia)) (by lia) (by lia) R) ?_);rintro M z ⟨L,rfl⟩;refine X.ite (λ_=>?_) λ_=>?_
       ·have u:=r.extB L
        have J:∀e:En,_=e.of _:=λe=>((congrArg (λO=>O++((e.of b).extract M (s-1)).reverse) (K e)).trans (by rw[ZR,R6])).trans (Y3 e _ _);refine X.is (λ_=>X.tellF u f J λt h=>.inl h) λz4=>X.is (λ_=>X.tellE u f J λt h=>.inl h) λW=>?_;refine X.go (D.elem (q:=a) (i:=A-1) (by lia)) ?_;have w:=u.pushA (show 0<A by lia) (by lia);have B:∀e:En,_=e.of _:=λe=>(congrArg (λO=>O.push (e.at (a.getD (A-1) 0))) (J e)).trans (aJ e _ _);refine X.is (λ_=>X.tellE w f B λt h=>.inl h) λV=>?_;exact X.iteE (c0:=(decide (A-d<7)&&decide (s-1-M<7))=bc) (λe=>rfl) (λ_=>X.doneH (.inr ⟨rfl,w,by dsimp only;lia,by dsimp only;lia,by dsimp only;lia,by dsimp only;lia,by dsimp only;lia,f⟩) B) λ_=>X.yieldH ⟨rfl,w,by dsimp only;lia,by dsimp only;lia,by dsimp only;lia,by dsimp only;lia,by dsimp only;lia,f⟩ B
       ·skip
        refine X.go (D.elem (q:=a) (i:=A-1) (by lia)) ?_;have w:=r.pushA (show 0<A by lia) (by lia);have B:∀e:En,_=e.of _:=λe=>(congrArg (λO=>O.push (e.at (a.getD (A-1) 0))) (K e)).trans (aJ e _ _);refine X.is (λ_=>X.tellE w f B λt h=>.inl h) λV=>?_;exact X.iteE (c0:=(decide (A-d<7)&&decide (s-1-M<7))=bc) (λe=>rfl) (λ_=>X.doneH (.inr ⟨rfl,w,by dsimp only;lia,by dsimp only;lia,by dsimp only;lia,by dsimp only;lia,by dsimp only;lia,f⟩) B) λ_=>X.yieldH ⟨rfl,w,by dsimp only;lia,by dsimp only;lia,by dsimp only;lia,by dsimp only;lia,by dsimp only;lia,f⟩ B
     ·refine all7 λr A s o g ac U z c => c.elim (λc => ?_) λc => ?_
      ·obtain⟨t,C,Z⟩:=c
       dsimp only at C;subst C;exact X.done (ba t,A,s,o,g) ⟨t,rfl,Z⟩
      ·have C:=c.1
       have E:=c.2.1;have F:=c.2.2.1;have m:=c.2.2.2.1;have G:=c.2.2.2.2.1;have l:=c.2.2.2.2.2.1;have H:=c.2.2.2.2.2.2.1;have f:=c.2.2.2.2.2.2.2;dsimp only at C E F m G l H;subst C;dsimp only[vH];refine X.go D.setMin ?_;exact X.yieldH ⟨rfl,E,F,m,G,l,H,f⟩ λe=>rfl
  ·simp only[PZ]
   rfl
 ·refine all5 λr na nb o g y c => ?_
  obtain⟨t,C,h⟩:=c;dsimp only at C;subst C;exact X.ret t h
end
section
variable{n:Nat}{ck:Nat->Nat->Bool}
def Ch:List (Nat×Nat×Nat)->Nat->Nat->Prop
 |[],s,e=>s=e
 |u::l,s,e=>u.1=s/\1<=u.2.1/\Ch l (s+u.2.1) e
theorem Ch.le:∀{l:List (Nat×Nat×Nat)}{s e:Nat},Ch l s e->s<=e
 |[],s,e,h=>Nat.le_of_eq h
 |u::l,s,e,h=>by have:=Ch.le h.2.2;lia
theorem Ch.two:∀{l:List (Nat×Nat×Nat)}{s e i:Nat}{u v:Nat×Nat×Nat},Ch l s e->l[i]?=ba u->l[i+1]?=ba v->v.1=u.1+u.2.1/\1<=u.2.1/\1<=v.2.1/\v.1+v.2.1<=e
 |[],s,e,i,u,v,h,h1,h2=>by simp at h1
 |[w],s,e,i,u,v,h,h1,h2=>by simp at h2
 |w::a::l,s,e,0,u,v,h,h1,h2=>by
  simp at h1 h2;subst h1 h2;obtain⟨f,c,d,a4,b⟩:=h;have:=b.le
  exact⟨by lia,c,a4,by lia⟩
 |w::a::l,s,e,i+1,u,v,h,h1,h2=>by exact Ch.two (l:=a::l) h.2.2 (by simpa using h1) (by simpa using h2)
theorem Ch.join:∀{l:List (Nat×Nat×Nat)}{s e i:Nat}{u v:Nat×Nat×Nat},Ch l s e->l[i]?=ba u->l[i+1]?=ba v->Ch ((l.set i (u.1,u.2.1+v.2.1,u.2.2)).eraseIdx (i+1)) s e
 |[],s,e,i,u,v,h,h1,h2=>by simp at h1
 |[w],s,e,i,u,v,h,h1,h2=>by simp at h2
 |w::a::l,s,e,0,u,v,h,h1,h2=>by simp at h1 h2;subst h1 h2;obtain⟨d,g,f,a4,b⟩:=h;exact⟨d,by dsimp only;lia,by rw[Uc]at b;exact b⟩
 |w::a::l,s,e,i+1,u,v,h,h1,h2=>by have c:=Ch.join (l:=a::l) h.2.2 (by simpa using h1) (by simpa using h2);exact⟨h.1,h.2.1,c⟩
theorem Ch.more:∀{l:List (Nat×Nat×Nat)}{s e m:Nat},Ch l s e->1<=m->Ch (l++[(e,m,0)]) s (e+m)
 |[],s,e,m,h,h1=>⟨h.symm,h1,by rw[h];rfl⟩
 |u::l,s,e,m,h,h1=>⟨h.1,h.2.1,Ch.more h.2.2 h1⟩
theorem Ch.mod{f:Nat×Nat×Nat->Nat×Nat×Nat}(a:∀u,(f u).1=u.1/\(f u).2.1=u.2.1):∀{l:List (Nat×Nat×Nat)}{s e:Nat}(i:Nat),Ch l s e->Ch (l.modify i f) s e
 |[],s,e,i,h=>by simpa using h
 |u::l,s,e,0,h=>by rw[List.modify_zero_cons];exact⟨(a u).1.trans h.1,by rw[(a u).2];exact h.2.1,by rw[(a u).2];exact h.2.2⟩
 |u::l,s,e,i+1,h=>by rw[List.modify_succ_cons];exact⟨h.1,h.2.1,Ch.mod a i h.2.2⟩
def put{α:Type}(p:Array α)(s:Nat)(l:List α)(k:Nat):Array α:=(l.zipIdx k).foldl (λa x=>a.setIfInBounds (s+x.2) x.1) p
theorem BP{α β:Type}(f:α->β)(s:Nat):∀(l:List α) (k:Nat) (p:Array α),put (p.map f) s (l.map f) k=(put p s l k).map f
 |[],k,p=>rfl
 |q::l,k,p=>by
  have e:(p.map f).setIfInBounds (s+k) (f q)=(p.setIfInBounds (s+k) q).map f:=by simp
  show put ((p.map f).setIfInBounds (s+k) (f q)) s (l.map f) (k+1)=_;rw[e];exact BP f s l (k+1) _
theorem FM{α:Type}(s:Nat):∀(l:List α) (k:Nat) (p:Array α),s+k+l.length<=p.size->(put p s l k).toList=p.toList.take (s+k)++l++p.toList.drop (s+k+l.length)
 |[],k,p,h=>by simp[put]
 | q :: l,k,p,h => by
  simp only[Bu]at h;have a:=FM s l (k+1) (p.setIfInBounds (s+k) q) (by simp;lia);show(put (p.setIfInBounds (s+k) q) s l (k+1)).toList=_;have b:s+k<p.toList.length:=by simp;lia
  rw[a,Array.toList_setIfInBounds,show s+(k+1)=s+k+1 by lia,List.drop_set_of_lt (by lia),List.take_set,Sy,Bm b];simp only[Bu,Option.toList_some];rw[show s+k+(l.length+1)=s+k+1+l.length by lia];have c:(p.toList.take (s+k)++[p.toList[s+k]]).set (s+k) q=p.toList.take (s+k)++[q]:=by
   have d:(p.toList.take (s+k)).length=s+k:=by rw[Cn];lia
   rw[Ga _ _ (by lia),d,Nat.sub_self];rfl
  rw[c];simp
def Wf(n:Nat)(lo:Nat)(x:Pu):Prop:=Pm n x.p/\Ch x.pd.toList 0 lo/\lo<=n
def Pm.put{p:Array Nat}(b:Pm n p){s m e:Nat}{t:Array Nat}(h1:s<=m)(h2:m<=e)(i:e<=n)(a:t.toList.Perm ((p.extract s m).toList++(p.extract m e).toList)):Pm n (TS.put p s t.toList 0):=by
 have h:=b.sz;have hl:t.toList.length=e-s:=by rw[a.length_eq];simp;lia
 unfold Pm;rw[FM s t.toList 0 p (by lia)];refine Kv ?_ b;rw[hl,show s+0+(e-s)=e by lia,Nat.add_zero];have g:=Dy e p.toList;have d:=Dy s (p.toList.take e);have c:=PC (p.toList.take e) s m h1;rw[Oi,Iy h2]at c;rw[Oi,Iy (by lia)]at d;rw[XU,XU,<-c]at a;have f:p.toList=p.toList.take s++(p.toList.take e).drop s++p.toList.drop e:=by rw[d,g]
 refine Kv (Hi _ (Dx _ a)) ?_;rw[<-f]
def D.set{F:En->Fk}{x y:Pu}(h:∀e,F e=stO e y):D n ck (λe=>(MonadStateOf.set (F e):StateT Fk Vo PUnit)) x (λ_=>⟨⟩) y:=λe _ E Q q=>by show kasC _ _ _ (MonadStateOf.set (F e):StateT Fk Vo PUnit) Q _ _;rw[h e];unfold kasC;exact Ag q
def fD{a b:Array Nat}{x:Pu}{A B:En->Array Keyed}(g:∀e,A e=e.of a)(f:∀e,B e=e.of b)(d:Al n a)(c:Al n b)(i:1<=a.size)(h:1<=b.size):X n ck (λe=>E7 (A e) (B e)) x (λt e=>e.of t) (λt y=>t.toList.Perm (a.toList++b.toList)/\Sd x y):=by rw[show A=λe=>e.of a from funext g,show B=λe=>e.of b from funext f];exact l9 d c i h
def mJ{a b:Array Nat}{x:Pu}{A B:En->Array Keyed}(g:∀e,A e=e.of a)(f:∀e,B e=e.of b)(d:Al n a)(c:Al n b)(i:1<=a.size)(h:1<=b.size):X n ck (λe=>E6 (A e) (B e)) x (λt e=>e.of t) (λt y=>t.toList.Perm (a.toList++b.toList)/\Sd x y):=by rw[show A=λe=>e.of a from funext g,show B=λe=>e.of b from funext f];exact gF d c i h
def Pm.al{p:Array Nat}(h:Pm n p):Al n p:=λi hi=>h.lt (by rw[<-h.sz];exact hi)
def Al.ext{p:Array Nat}(h:Al n p)(i j:Nat):Al n (p.extract i j):=λk b=>by
 have a:k<min j p.size-i:=by simpa using b
 have e:(p.extract i j).getD k 0=p.getD (i+k) 0:=by
  have h1:i+k<p.size:=by lia
  have d:p.getD (i+k) 0=p[i+k]:=by simp[Mc,h1]
  have c:(p.extract i j).getD k 0=(p.extract i j)[k]:=by simp[Mc,a]
  rw[d,c,Array.getElem_extract]
 rw[e];exact h _ (by lia)
def Wr{i lo:Nat}{x:Pu}(h:Wf n lo x)(hi:i+1<x.pd.size):X n ck (λ_=>mergeAt' i) x (λ(_:Unit) _=>bc) (λ_ y=>Wf n lo y):=by
 obtain⟨f,hc,hl⟩:=h;have hsz:=f.sz;obtain⟨c,j,pw,I⟩:∃c j pw,x.pd[i]'(by lia)=(c,j,pw):=⟨_,_,_,rfl⟩;obtain⟨d,l,qw,H⟩:∃d l qw,x.pd[i+1]'hi=(d,l,qw):=⟨_,_,_,rfl⟩;have G:x.pd[i]?=ba (c,j,pw):=by rw[<-I];simp
 have F:x.pd[i+1]?=ba (d,l,qw):=by rw[<-H];simp
 have r:x.pd.toList[i]?=ba (c,j,pw):=by rw[<-G];simp
 have o:x.pd.toList[i+1]?=ba (d,l,qw):=by rw[<-F];simp
 obtain⟨O,N,M,L⟩:=hc.two r o;dsimp only at O N M L;have E:=hc.join r o;dsimp only at E;have u:Wf n lo {x with pd:=(x.pd.setIfInBounds i (c,j+l,pw)).eraseIdxIfInBounds (i+1)}:=⟨f,by show Ch ((x.pd.setIfInBounds i (c,j+l,pw)).eraseIdxIfInBounds (i+1)).toList 0 lo;rw[show((x.pd.setIfInBounds i (c,j+l,pw)).eraseIdxIfInBounds (i+1)).toList=(x.pd.toList.set i (c,j+l,pw)).eraseIdx (i+1) by simp[Ma,hi]];exact E,hl⟩
 generalize C:({x with pd:=(x.pd.setIfInBounds i (c,j+l,pw)).eraseIdxIfInBounds (i+1)}:Pu)=y at u;refine X.go D.get ?_;have B:∀e:En,pendingOf (stO e x)=x.pd:=λe=>rfl;simp only[B,G,F];refine X.go (D.set (y:=y) λe=>by rw[<-C];rfl) ?_;have v:y.p=x.p:=by rw[<-C]
 refine X.go (D.elem (q:=x.p) (i:=d) (by lia)) (X.bind (gal (f.lt (by lia)) (by lia) (by lia) f.al) ?_);rintro k z ⟨Q,rfl⟩;refine X.is (λ_=>X.ret () u) λK=>?_;refine X.go (D.elem (q:=x.p) (i:=c+k+(j-k)-1) (by lia)) (X.bind (gal (f.lt (by lia)) (by lia) (by lia) f.al) ?_);rintro m z ⟨P,rfl⟩;refine X.is (λ_=>X.ret () u) λJ=>?_;have A:∀(t:Array Nat) (z':Pu),t.toList.Perm ((x.p.extract (c+k) d).toList++(x.p.extract d (d+m)).toList)->Sd z z'->Wf n lo {z' with p:=TS.put z'.p (c+k) t.toList 0}:=λt z' w s=>by refine⟨?_,by rw[s.2];exact u.2.1,hl⟩;rw[s.1,v];exact f.put (by lia) (by lia) (by lia) w
 have WM:∀(e:En) (t:Array Nat) (z':Pu),((e.of t).toList.zipIdx.foldl (λa x=>a.setIfInBounds (c+k+x.2) x.1) (e.of z'.p))=e.of (TS.put z'.p (c+k) t.toList 0):=λe t z'=>by have h:=BP (Ke e.it) (c+k) t.toList 0 z'.p;rw[show t.toList.map (Ke e.it)=(e.of t).toList by simp[En.of]]at h;exact h
 refine X.ite (λ_=>X.bind (fD (a:=x.p.extract (c+k) d) (b:=x.p.extract d (d+m)) (λe=>ZR e _ _ _) (λe=>ZR e _ _ _) (f.al.ext _ _) (f.al.ext _ _) (by simp;lia) (by simp;lia)) ?_) λ_=>X.bind (mJ (a:=x.p.extract (c+k) d) (b:=x.p.extract d (d+m)) (λe=>ZR e _ _ _) (λe=>ZR e _ _ _) (f.al.ext _ _) (f.al.ext _ _) (by simp;lia) (by simp;lia)) ?_
 all_goals
  rintro t z' ⟨w,s⟩;refine X.go (D.modify (y:={z' with p:=TS.put z'.p (c+k) t.toList 0}) λe=>?_) (X.go D.get (X.ret () (A t z' w s)));show Kg e.κ ((e.of t).toList.zipIdx.foldl (λa x=>a.setIfInBounds (c+k+x.2) x.1) (e.of z'.p)) z'.pd z'.g bb=_;rw[WM];rfl
end
section
variable{n:Nat}{ck:Nat->Nat->Bool}
theorem Wf.pw{x:Pu}{lo:Nat}(h:Wf n lo x)(i pw:Nat):Wf n lo {x with pd:=x.pd.modify i λu=>(u.1,u.2.1,pw)}:=by refine⟨h.1,?_,h.2.2⟩;show Ch (x.pd.modify i λu=>(u.1,u.2.1,pw)).toList 0 lo;rw[Array.toList_modify];exact Ch.mod (f:=λu=>(u.1,u.2.1,pw)) (λu=>⟨rfl,rfl⟩) i h.2.1
def Wf.more{x:Pu}{lo m:Nat}(h:Wf n lo x)(h1:1<=m)(h2:lo+m<=n):Wf n (lo+m) {x with pd:=x.pd.push (lo,m,0)}:=by refine⟨h.1,?_,h2⟩;show Ch (x.pd.push (lo,m,0)).toList 0 (lo+m);rw[Hr];exact h.2.1.more h1
def runs{x:Pu}(h:Wf n 0 x):X n ck (λ_=>sortRuns') x (λ(_:Unit) _=>()) (λ_ y=>Pm n y.p):=by
 refine X.go D.get ?_;have G:∀e:En,(arrOf (stO e x)).size=n:=λe=>by show(e.of x.p).size=n;rw[UJ,h.1.sz]
 have f:∀(e:En) (y:Pu),pendingOf (stO e y)=y.pd:=λe y=>rfl;simp only[G];generalize (sortPriv% PySem.Builtin.minRun) n n 0=o;refine X.bind (u:=λ(t:Nat) _=>(bb,t)) (S:=λt y=>Wf n t y) ?_ ?_
 ·refine X.range (I := λ_ t y => Wf n t y) (t := 0) (λt y h => h) h λi _ _ k lo y hw => ?_
  refine X.ite (λ_=>X.done lo hw) λq=>?_;dsimp only at q;refine X.bind (count hw.1 (by dsimp only;omega) (by dsimp only;omega)) ?_;rintro m z ⟨m1,m2,hz⟩;have g:Wf n lo z:=⟨hz.1,by rw[hz.2];exact hw.2.1,hw.2.2⟩;dsimp only at m2;have last:∀(m:Nat) (z:Pu),1<=m->lo+m<=n->Wf n lo z->1<=m/\lo+m<=n/\Wf n lo z:=λm z a b c=>⟨a,b,c⟩;refine X.ite (λ_=>X.go D.rule (X.bind (bin g.1 (by dsimp only;omega)) λ_ C A=>X.ite (λl=>absurd l (by simp)) λ_=>?_)) λ_=>?_
  ·have w := last (min (n-lo) o) C (by omega) (by omega) ⟨A.1,by rw [A.2];exact g.2.1,g.2.2⟩
   obtain⟨v,s,r⟩:=w;refine X.go D.get ?_;simp only[f];cases M:C.pd.back? with
   |none=>exact X.go (D.modify (y:={C with pd:=C.pd.push (lo,(min (n-lo) o),0)}) λe=>rfl) (X.yield (lo+(min (n-lo) o)) (r.more v s))
   |some u=>
    obtain⟨s1,j,q1⟩:=u;dsimp only;generalize E:(sortPriv% PySem.Builtin.power) n (2*s1+j) (2*s1+j+j+min (n-lo) o) n=pw;refine X.bind (u:=λ(_:Unit) _=>(bb,())) (S:=λ_ y=>Wf n lo y) ?_ λ_ y d=>?_
    ·refine X.range (I := λ_ _ y => Wf n lo y) (t := ()) (λt y h => h) r λi _ _ k _ y d => ?_
     refine X.go D.get ?_;simp only[f];by_cases B:y.pd.size>1
     ·rw[if_pos B]
      cases L:y.pd[y.pd.size-2]? with
      |none=>exact X.done () d
      |some u=>
       obtain⟨K,J,H⟩:=u;dsimp only;exact X.ite (λ_=>X.done () d) λ_=>X.bind (Wr d (by omega)) λ_ y h=>X.ite (λl=>absurd l (by simp)) λ_=>X.yield () h
     ·rw[if_neg B]
      exact X.done () d
    ·refine X.go (D.modify (y := { y with pd := y.pd.modify (y.pd.size-1) λu => (u.1,u.2.1,pw) }) λe => rfl) ?_
     exact X.go (D.modify (y:={y with pd:=(y.pd.modify (y.pd.size-1) λu=>(u.1,u.2.1,pw)).push (lo,(min (n-lo) o),0)}) λe=>rfl) (X.yield (lo+min (n-lo) o) ((d.pw _ pw).more v s))
  ·have w := last m z m1 (by omega) g
   obtain⟨v,s,r⟩:=w;refine X.go D.get ?_;simp only[f];cases M:z.pd.back? with
   |none=>exact X.go (D.modify (y:={z with pd:=z.pd.push (lo,m,0)}) λe=>rfl) (X.yield (lo+m) (r.more v s))
   |some u=>
    obtain⟨s1,j,q1⟩:=u;dsimp only;generalize E:(sortPriv% PySem.Builtin.power) n (2*s1+j) (2*s1+j+j+m) n=pw;refine X.bind (u:=λ(_:Unit) _=>(bb,())) (S:=λ_ y=>Wf n lo y) ?_ λ_ y d=>?_
    ·refine X.range (I := λ_ _ y => Wf n lo y) (t := ()) (λt y h => h) r λi _ _ k _ y d => ?_
     refine X.go D.get ?_;simp only[f];by_cases B:y.pd.size>1
     ·rw[if_pos B]
      cases L:y.pd[y.pd.size-2]? with
      |none=>exact X.done () d
      |some u=>
       obtain⟨K,J,H⟩:=u;dsimp only;exact X.ite (λ_=>X.done () d) λ_=>X.bind (Wr d (by omega)) λ_ y h=>X.ite (λl=>absurd l (by simp)) λ_=>X.yield () h
     ·rw[if_neg B]
      exact X.done () d
    ·refine X.go (D.modify (y := { y with pd := y.pd.modify (y.pd.size-1) λu => (u.1,u.2.1,pw) }) λe => rfl) ?_
     exact X.go (D.modify (y:={y with pd:=(y.pd.modify (y.pd.size-1) λu=>(u.1,u.2.1,pw)).push (lo,m,0)}) λe=>rfl) (X.yield (lo+m) ((d.pw _ pw).more v s))
 ·intro lo y hw
  refine X.bind (u:=λ(_:Unit) _=>(bb,())) (S:=λ_ y=>Wf n lo y) ?_ λ_ y h=>X.ret () h.1;refine X.range (I:=λ_ _ y=>Wf n lo y) (t:=()) (λt y h=>h) hw λi _ _ k _ y hw=>?_;refine X.go D.get ?_;simp only[f];refine X.ite (λ_=>X.done () hw) λq=>?_;have F:∀(c:Prop) [Decidable c],(if c then y.pd.size-2-1 else y.pd.size-2)+1<y.pd.size:=by intro c _;split<;>omega
  exact X.bind (Wr hw (F _)) λ_ y h=>X.ite (λl=>absurd l (by simp)) λ_=>X.yield () h
end
def Pm.id(n:Nat):Pm n (Au n).toArray:=by unfold Pm;simp
def xS(n:Nat):Pu:=⟨(Au n).toArray,#[],7⟩
def FR(n:Nat)(ck:Nat->Nat->Bool):∃y:Pu,Pm n y.p/\D n ck (λ_=>sortRuns') (xS n) (λ_=>()) y:=by obtain⟨t,y,h,d⟩:=runs (n:=n) (ck:=ck) (x:=xS n) ⟨Pm.id n,rfl,Df _⟩;exact⟨y,h,d⟩
noncomputable def srt(n:Nat)(ck:Nat->Nat->Bool):List Nat:=if 2<=n then(FR n ck).choose.p.toList else Au n
def F1(n:Nat)(ck:Nat->Nat->Bool):(srt n ck).Perm (Au n):=by
 unfold srt;split
 ·exact(FR n ck).choose_spec.1
 ·exact .refl _
section
variable{prog:Aw}{w:Ve}{A:Bw}{E:Uw->Ae->Prop}{s:Ae}
def ll(vs:List Uw):(Au vs.length).map (λi=>vs.getD i Value.none)=vs:=by
 refine Lz λi=>?_;by_cases h:i<vs.length
 ·simp[h]
 ·simp[h]
def jJ{a:Ux}{vs:List Uw}{v:Nat}{κ:Ru}{ck:Nat->Nat->Bool}{P:Ph->Ae->Prop}(g:s.heap.get? a=ba (Ig "list" vs.toArray v))(hz:vs.length<=sizeLine)(F:2<=vs.length->∀h':Vg,(∀b o,b≠a->s.heap.get? b=ba o->h'.get? b=ba o)->∀u:Ru->Ae->Prop,u κ {s with heap:=h'}->Uy (Vb prog w) A (keyKind' vs.toArray) u E {s with heap:=h'})(hc:∀h':Vg,(∀b o,b≠a->s.heap.get? b=ba o->h'.get? b=ba o)->∀i j,i<vs.length->j<vs.length->∀C:Bool->Ae->Prop,C (ck i j) {s with heap:=h'}->Uy (Vb prog w) A (keyLt' κ (vs.getD i Value.none) (vs.getD j Value.none)) C (λ_ _=>False) {s with heap:=h'})(h:P (.done (.ret .none)) {s with heap:=sortedHeap s.heap a vs ((srt vs.length ck).map λi=>vs.getD i Value.none).toArray}):Uy (Vb prog w) A (Fi.«list.sort» ⟨[.ref a],[]⟩) P E s:=by
 have lt:=An g;have hsz:vs.toArray.size=vs.length:=by simp
 obtain⟨J,f⟩:∃k,(s.heap.update a (Dt λ_=> #[])).get? a=ba (Ig "list" #[] k):=⟨_,Nq g (λ_=> #[])⟩;have keep:∀b o,b≠a->s.heap.get? b=ba o->(((s.heap.update a (Dt λ_=> #[])).push (Ig "tuple" vs.toArray 0)).push (Ig "list" #[] 0)).get? b=ba o:=λb o I m=>
  Ad _ (Ad _ (by rw[Ow _ _ _ _ I];exact m))
 have c:(((s.heap.update a (Dt λ_=> #[])).push (Ig "tuple" vs.toArray 0)).push (Ig "list" #[] 0)).get? a=ba (Ig "list" #[] J):=Ad _ (Ad _ f);have K:∀l:List Uw,l.length=vs.length->l.toArray.size<=sizeLine+1:=λl hl=>by rw[Aq];lia
 rw[list_sort_plain];refine(Aa (listItems_at g rfl ?_));refine(Aa (Po g rfl ?_ (by rw[Aq];lia) (Df _)));refine(Aa (So f rfl ?_));refine(Aa (wpAny_newTuple ?_ (by show vs.length<=_;exact hz)));refine(Aa (Pp (Bv ?_) (Df _)))
 ·show (Uy (Vb prog w) A _ P E { s with heap := (((s.heap.update a (Dt λ_ => #[])).push (Ig "tuple" vs.toArray 0)).push (Ig "list" #[] 0)) })
  dsimp only;have L:((srt vs.length ck).map λi=>vs.getD i Value.none).length=vs.length:=by rw[Ce,(F1 _ _).length_eq,Hq]
  by_cases h2:vs.toArray.size<2
  ·have H : ((srt vs.length ck).map λi => vs.getD i Value.none) = vs := by unfold srt;rw[if_neg (by lia)];exact ll vs
   rw[H]at h;rw[if_pos h2,if_pos h2];refine(Aa (Ag ?_));rw[StateT.run_pure];refine(Aa (Ag ?_));dsimp only;have D:(vs.toArray.zip vs.toArray).map (·.2)=vs.toArray:=by apply Rm.mp;simp;exact List.map_snd_zip (Am _)
   rw[D];refine(Aa (So c rfl (Aa (Po c rfl ?_ (hsz2:=by rw[Aq];lia)))));simp only[bne_self_eq_false,Fg,if_false];exact Ag h
  ·rw[if_neg h2,if_neg h2]
   refine(Aa (F (by lia) _ keep _ ?_));have z:2<=vs.length:=by lia
   have spec:=(FR vs.length ck).choose_spec;have t:srt vs.length ck=(FR vs.length ck).choose.p.toList:=by unfold srt;rw[if_pos z]
   generalize (FR vs.length ck).choose=y at spec t;let e:En:=⟨prog,w,A,{s with heap:=(((s.heap.update a (Dt λ_=> #[])).push (Ig "tuple" vs.toArray 0)).push (Ig "list" #[] 0))},κ,Qk vs⟩
   have r:e.Ok vs.length ck:=λi j hi G C q=>by show Uy (Vb prog w) A (keyLt' κ (Ke (Qk vs) i).1 (Ke (Qk vs) j).1) C _ _;rw[Sq,Sq];exact hc _ keep i j hi G C q
   have n:Kg κ (vs.toArray.zip vs.toArray) #[] 7 bb=stO e (xS vs.length):=by have q:=kas_range (Qk vs);rw[pairsOf_size]at q;show Kg κ (Qk vs) #[] 7 bb=Kg κ ((List.toArray (Au vs.length)).map (Ke (Qk vs))) #[] 7 bb;rw[q]
   rw[n];have B:(e.of y.p).map (·.2)=((srt vs.length ck).map λi=>vs.getD i Value.none).toArray:=by apply Rm.mp;rw[t,Array.map_map,Array.toList_map];exact Ks λi _=>by show(Ke (Qk vs) i).2=_;rw[Sq]
   have run:=spec.2 e r E (λ_ d s'=>d=stO e y/\s'=e.s) ⟨rfl,rfl⟩;refine(Aa (Bj run ?_ λ_ _ x=>x));rintro ⟨⟨⟩,d⟩ s' ⟨rfl,rfl⟩;show(Uy (Vb prog w) A _ P E {s with heap:=(((s.heap.update a (Dt λ_=> #[])).push (Ig "tuple" vs.toArray 0)).push (Ig "list" #[] 0))});dsimp only;rw[show(arrOf (stO e y))=e.of y.p from rfl,B];refine(Aa (So c rfl (Aa (Po c rfl ?_ (hsz2:=by rw[Aq];lia)))));rw[show failedOf (stO e y)=bb from rfl];simp only[bne_self_eq_false,Fg,if_false];exact Ag h
end
section
variable{prog:Aw}{w:Ve}{A:Bw}{E:Uw->Ae->Prop}{s:Ae}
def FZ{l:Ux}{vs:List Uw}{κ:Ru}{ck:Nat->Nat->Bool}{Q:Uw->Ae->Prop}(hl:s.heap.IsList l vs.toArray)(hz:vs.length<=sizeLine)(g:2<=vs.length->∀(A:Bw) (E:Uw->Ae->Prop) (h':Vg),(∀b o,s.heap.get? b=ba o->h'.get? b=ba o)->∀e:Ru->Ae->Prop,e κ {s with heap:=h'}->Uy (Vb prog w) A (keyKind' vs.toArray) e E {s with heap:=h'})(hc:∀(A:Bw) (h':Vg),(∀b o,s.heap.get? b=ba o->h'.get? b=ba o)->∀i j,i<vs.length->j<vs.length->∀C:Bool->Ae->Prop,C (ck i j) {s with heap:=h'}->Uy (Vb prog w) A (keyLt' κ (vs.getD i Value.none) (vs.getD j Value.none)) C (λ_ _=>False) {s with heap:=h'})(h:Q (.ref (s.heap.objs.size+1)) {s with heap:=sortedAll s.heap vs ((srt vs.length ck).map λi=>vs.getD i Value.none).toArray}):Uy (Vb prog w) A (call (.builtin "sorted") [.ref l]) Q E s:=by
 refine(Calls.call_function_entry kind_sorted plain_sorted entry_sorted (args_sorted1 _) ?_);unfold Fi.«sorted»;refine(Aa (m:=checkCount "sorted" 1 1 _) (Ag (Aa (collect_list hl (Aa (Pp ?_ (by exact hz))) hz))));have c:((s.heap.push (Ig "list" #[] 0)).update s.heap.objs.size (Dt (· ++vs.toArray))).objs.size=s.heap.objs.size+1:=by rw[Heap.size_update,size_push']
 have d:(((s.heap.push (Ig "list" #[] 0)).update s.heap.objs.size (Dt (· ++vs.toArray))).push (Ig "list" vs.toArray 0)).get? (s.heap.objs.size+1)=ba (Ig "list" vs.toArray 0):=by rw[<-c];exact Aj _ rfl
 have keep:∀b o,s.heap.get? b=ba o->(((s.heap.push (Ig "list" #[] 0)).update s.heap.objs.size (Dt (· ++vs.toArray))).push (Ig "list" vs.toArray 0)).get? b=ba o/\b≠s.heap.objs.size+1:=λb o q=>by have a:b<s.heap.objs.size:=An q;refine⟨?_,Bb (Ql a)⟩;rw[Jm _ _ _ (by rw[c];exact(Bb (Ql a))),Ow _ _ _ _ (Bb a),Jm _ _ _ (Bb a)];exact q
 show(Uy _ _ _ _ _ {s with heap:=((s.heap.push (Ig "list" #[] 0)).update s.heap.objs.size (Dt (· ++vs.toArray))).push (Ig "list" vs.toArray 0)});rw[c];refine(Aa (Bv (Dj slot_list_sort ⟨_,d,rfl⟩ entry_list_sort (jJ (κ:=κ) (ck:=ck) d hz (λf h' k'=>g f _ _ h' λb o q=>k' b o (keep b o q).2 (keep b o q).1) (λh' k'=>hc _ h' λb o q=>k' b o (keep b o q).2 (keep b o q).1) ⟨_,rfl,?_⟩) (args_list_sort _))));exact(Ag ⟨_,rfl,h⟩)
def E2(p q:Int×Int):Bool:=if p.1=q.1 then decide (p.2<q.2)else decide (p.1<q.1)
def k7{x y:Ux}{a b c d:Int}{t u t' j:Vp}{C:Bool->Ae->Prop}(i:IsTup s.heap x #[.int a t,.int b u])(g:IsTup s.heap y #[.int c t',.int d j])(h:C (E2 (a,b) (c,d)) s):Uy (Vb prog w) A (keyLt' (tuples' bc) (.ref x) (.ref y)) C E s:=by
 obtain⟨o,i,_,n,dx⟩:=i;obtain⟨l,g,_,m,k⟩:=g;refine kat_lt i dx g k ?_;refine kat_cons (Mp (kat_go (λe=>kat_yes ?_) λe=>kat_no ?_))
 ·have e : a = c := by simpa using e
  refine kat_cons (Mp (kat_go (λf=>kat_yes (kat_nil ?_)) λf=>kat_no ?_))
  ·have f : b = d := by simpa using f
   have:E2 (a,b) (c,d)=bd:=by simp[E2,e,f]
   rw[this]at h;exact h
  ·refine kat_one _ _ (lt_int ?_)
   have:E2 (a,b) (c,d)=decide (b<d):=by simp[E2,e]
   rw[this]at h;exact h
 ·have e : ¬ a = c := by simpa using e
  have:E2 (a,b) (c,d)=decide (a<c):=by simp[E2,e]
  rw[this]at h;exact oneLt_int h
def PrI(h:Vg):List Uw->List (Int×Int)->Prop
 |[],[]=>True
 |v::vs,p::ps=>(∃a t u,v=.ref a/\IsTup h a #[.int p.1 t,.int p.2 u])/\PrI h vs ps
 |_,_=>False
theorem PrI.keep{h h':Vg}(k:∀b o,h.get? b=ba o->h'.get? b=ba o):∀{vs:List Uw}{ps:List (Int×Int)},PrI h vs ps->PrI h' vs ps
 |[],[],_=>trivial
 |_::_,_::_,⟨⟨a,t,u,e,q⟩,r⟩=>⟨⟨a,t,u,e,q.keeps k⟩,PrI.keep k r⟩
 |[],_::_,r=>r.elim
 |_::_,[],r=>r.elim
theorem PrI.at{h:Vg}:∀{vs:List Uw}{ps:List (Int×Int)}{i:Nat},PrI h vs ps->i<vs.length->∃a t u,vs.getD i Value.none=.ref a/\IsTup h a #[.int (ps.getD i (0,0)).1 t,.int (ps.getD i (0,0)).2 u]
 |[],[],i,_,hi=>by simp at hi
 |_::_,_::_,0,r,_=>r.1
 |v::vs,p::ps,i+1,r,hi=>by
  have:=PrI.at (i:=i) r.2 (by simpa using hi)
  simpa using this
 |[],_::_,i,r,_=>r.elim
 |_::_,[],i,r,_=>r.elim
theorem PrI.tups{h:Vg}:∀{vs:List Uw}{ps:List (Int×Int)},PrI h vs ps->∃fs,KatTups h vs fs/\fs.length=vs.length/\∀v∈fs,∃i t,v=.int i t
 |[],[],_=>⟨[],trivial,rfl,λ_ h=>by cases h⟩
 |_::_,_::_,⟨⟨a,t,u,e,o,d,c,n,f⟩,r⟩=>by
  obtain⟨fs,h1,h2,g⟩:=PrI.tups r;subst e;refine⟨.int _ t::fs,KatTups.cons d c f rfl h1,by simp[h2],λv b=>?_⟩;rcases Ak.mp b with rfl|b
  ·exact⟨_,_,rfl⟩
  ·exact g v b
 |[],_::_,r=>r.elim
 |_::_,[],r=>r.elim
def ckP(ps:List (Int×Int))(i j:Nat):Bool:=E2 (ps.getD i (0,0)) (ps.getD j (0,0))
def IK{l:Ux}{vs:List Uw}{ps:List (Int×Int)}{Q:Uw->Ae->Prop}(hl:s.heap.IsList l vs.toArray)(hz:vs.length<=sizeLine)(c:PrI s.heap vs ps)(h:Q (.ref (s.heap.objs.size+1)) {s with heap:=sortedAll s.heap vs ((srt vs.length (ckP ps)).map λi=>vs.getD i Value.none).toArray}):Uy (Vb prog w) A (call (.builtin "sorted") [.ref l]) Q E s:=by
 refine FZ (κ:=tuples' bc) hl hz (λp A E h' k' r q=>?_) (λA h' k' i j hi g C q=>?_) h
 ·obtain⟨fs,h1,h2,k⟩:=(c.keep k').tups
  refine kat_kind (s:={s with heap:=h'}) (T:=.type "int") h1 (by lia) (λv f=>?_) (by decide) q;obtain⟨i,t,rfl⟩:=k v f;exact Looks.now
 ·obtain⟨a,t,u,n,e⟩:=(c.keep k').at hi
  obtain⟨b,t',o,m,d⟩:=(c.keep k').at g;rw[n,m];exact k7 (s:={s with heap:=h'}) e d q
end
end TS
namespace L2
open PySem PySem.Spec PyProof.Rows
variable{X:Cx}{K:Ah}
noncomputable def prD:cV->Option (Int×Int)
 |.tup [.int a,.int b]=>ba (a,b)
 |_=>bb
def M7:List cV->Option (List (Int×Int))
 |[]=>ba []
 |d::ds=>(prD d).bind λp=>(M7 ds).map λps=>p::ps
def PrV(K:Ah)(H:Hp):List V->List (Int×Int)->Prop
 |[],[]=>True
 |v::vs,p::ps=>(∃a,v=.ref a/\WN K H a [.int p.1,.int p.2])/\PrV K H vs ps
 |_,_=>False
def p4{d:cV}{p:Int×Int}(h:prD d=ba p):d=.tup [.int p.1,.int p.2]:=by
 unfold prD at h;split at h
 ·cases h;rfl
 ·cases h
theorem BO{H:Hp}{N:Ux->Prop}:∀{xs:List V}{ds:List cV}{ps:List (Int×Int)},bZ K N H xs ds->M7 ds=ba ps->PrV K H xs ps
 |_,_,_,.nil,h=>by cases h;trivial
 | _,_,ps,@bZ.cons _ _ _ v vs d ds h t,e => by
  have e:(prD d).bind (λp=>(M7 ds).map λps=>p::ps)=ba ps:=e;cases h1:prD d with
  |none=>rw[h1]at e;cases e
  |some p=>
   rw[h1]at e;have e:(M7 ds).map (λps=>p::ps)=ba ps:=e;cases h2:M7 ds with
   |none=>rw[h2]at e;cases e
   |some qs=>
    rw[h2]at e;cases e;have:=p4 h1
    subst this;refine⟨?_,BO t h2⟩;cases h.onT with
    |tup sq r=>
     cases r with
     |cons b r=>
      cases b.onI;cases r with
      |cons a r=>
       cases a.onI;cases r;exact⟨_,rfl,sq⟩
theorem PrV.prI{H:Hp}{aa:List (Ux×Vi)}{σ:St}{s:Ae}(I:cF X aa σ H s):∀{xs:List V}{c:List Uw}{ps:List (Int×Int)},PrV X.K H xs ps->bL xs c->TS.PrI s.heap c ps
 |[],_,[],_,.nil=>trivial
 | _ :: _,_,_ :: _,⟨⟨a,e,q⟩,r⟩,.cons h t => by
  subst e;cases h;obtain⟨j,b,k,_⟩:=I.tuple q;cases b with
  |cons i b=>
   obtain⟨f,rfl⟩:=i;cases b with
   |cons g b=>
    obtain⟨d,rfl⟩:=g;cases b;exact⟨⟨a,f,d,rfl,k⟩,PrV.prI I r t⟩
 |[],_,_::_,h,_=>h.elim
 |_::_,_,[],h,_=>h.elim
theorem PrV.len{H:Hp}:∀{xs:List V}{ps:List (Int×Int)},PrV K H xs ps->xs.length=ps.length
 |[],[],_=>rfl
 |_::_,_::_,r=>by simp[PrV.len r.2]
 |[],_::_,r=>r.elim
 |_::_,[],r=>r.elim
theorem K9{xs:List V}{a:List Uw}(r:bL xs a):∀l:List Nat,(∀i∈l,i<xs.length)->bL (l.map λi=>xs.getD i .non) (l.map λi=>a.getD i Value.none)
 |[],_=>.nil
 |i::l,h=>by
  have hi:=h i Ax;obtain⟨u,h1,h2⟩:=bL.get (i:=i) (x:=xs[i]) r (by simp[hi]);refine .cons ?_ (K9 r l λj b=>h j (Ap _ b));have d:xs.getD i .non=xs[i]:=by simp[hi]
  have c:a.getD i Value.none=u:=by simp[h1]
  show bE (xs.getD i .non) (a.getD i Value.none);rw[d,c];exact h2
noncomputable def F0(ps:List (Int×Int)):List Nat:=TS.srt ps.length (TS.ckP ps)
def TL(ps:List (Int×Int)):(F0 ps).Perm (Au ps.length):=TS.F1 _ _
def Zo(K:Ah):RC:=λxs H Q=>∃(p:Ux) (ys:List V) (ps:List (Int×Int)),xs=[.ref p]/\X8 K H p ys/\PrV K H ys ps/\∀l:Ux,H l=bb->Q (.ref l) (upd H l (.lst ((F0 ps).map λi=>ys.getD i .non)))
def C6(h:X.K=K:=by rfl):aB X (.builtin "sorted") (Zo K):=by
 subst h;intro aa s σ H xs t Q I r h;obtain⟨p,ys,ps,rfl,k,f,q⟩:=h;obtain⟨u,rfl,g⟩:=U0 r;cases g;obtain⟨c,d,j,hz⟩:=I.list k;have v:=d.length;have l:=f.len;have m:H (s.heap.objs.size+1)=bb:=I.hok.fresh (Jn _);refine TS.IK j.isList (by lia) (f.prI I d) ?_;rw[show c.length=ps.length by lia];obtain⟨e,n⟩:=sortedAll_at s.heap c ((TS.srt ps.length (TS.ckP ps)).map λi=>c.getD i Value.none).toArray;refine⟨.ref (s.heap.objs.size+1),_,I.laid (a:=s.heap.objs.size+1) (o:=.lst ((F0 ps).map λi=>ys.getD i .non)) (t':=s.toks) (λb o=>sortedAll_old) (Jn _) ?_,rfl,q _ m⟩;refine⟨by rw[Ce,(TL ps).length_eq,Hq];lia,(F0 ps).map λi=>c.getD i Value.none,e,K9 d _ λi hi=>?_,?_⟩
 ·have:=Dm.mp ((TL ps).mem_iff.mp hi)
  lia
 ·rw[n]
  rfl
noncomputable def M0:cV->Option cV
 |.lst ds=>(M7 ds).bind λps=>ba (.lst ((F0 ps).map λi=>ds.getD i .non))
 |_=>bb
theorem KU{H:Hp}{N:Ux->Prop}{xs:List V}{ds:List cV}(r:bZ K N H xs ds):∀l:List Nat,bZ K N H (l.map λi=>xs.getD i .non) (l.map λi=>ds.getD i .non)
 |[]=>.nil
 | i :: l => by
  have one:∀{xs:List V}{ds:List cV}(i:Nat),bZ K N H xs ds->bC K N H N (xs.getD i .non) (ds.getD i .non):=by
   intro xs ds i r;induction r using bZ.rec (motive_1:=λ_ _ _ _=>True) generalizing i with
   |nil=>simpa using bC.non
   |cons h t _ a=>cases i with
    |zero=>simpa using h
    |succ i=>simpa using a i
   |_=>trivial
  exact .cons (one i r) (KU r l)
def HN:CalN K (Zo K) M0:=by
 intro H N M x d c Q e h k;cases d with
 |lst ds=>
  have h:((M7 ds).bind λps=>ba (cV.lst ((F0 ps).map λi=>ds.getD i .non)))=ba c:=h;cases h1:M7 ds with
  |none=>rw[h1]at h;cases h
  |some ps=>
   rw[h1]at h;cases h;obtain⟨a,xs,rfl,sq,r⟩:=e.lstE;exact⟨a,xs,ps,rfl,sq,BO r h1,λl b=>k l _ _ b (KU r _) rfl⟩
 |_=>cases h
def eW:typeLookup (.type "list") ("keys":Va)=pure bb:=am_miss_of_fast (by decide+kernel)
section
variable{prog:Aw}{w:Ve}{A:Bw}{E:Uw->Ae->Prop}{s:Ae}
def eP{a:Ux}{o:Vi}{xs:Array Uw}{k:Nat}{Q:Option Uw->Ae->Prop}(l:s.heap.get? a=ba o)(hc:o.cls=.type "list")(p:o.data=.seq xs k)(m:o.dict=bb)(t:A.handled=bb)(h:∀h' tk,(∀b j,s.heap.get? b=ba j->h'.get? b=ba j)->Q bb {s with heap:=h',toks:=tk}):Uy (Vb prog w) A (Ub (.ref a) "keys") Q E s:=by
 obtain⟨c,dct,u,q⟩:=o;simp only at hc p m;subst hc p m;obtain⟨r,g,d,tk,os⟩:=s;have n:∀f,(⟨r,g,d,f,os⟩:Ae).TypeIs (.ref a) "list":=λ_=>⟨_,l,rfl⟩;have f1:=sub_AttributeError;have f3:=F.slot_list_getattribute.lookup;have B:=F.slot_list_getattribute.bind (.ref a);have z:=am_list_getattr_none;unfold Ub getAttrBy? getAttrBy
 (repeat (any_goals (first|assumption|exact n _|((with_reducible show Uy _ _ (call (Ud "list.__getattribute__") _ _) _ _ _);refine Gk F.slot_list_getattribute (n _) am_entry_list_getattribute (F.args_list_getattribute_2 _ _) (meets_getattribute_miss_list a xs k q "keys" _ eW (by decide) (by size_fits)) ⟨l,t,λh' f e i=>?_⟩)|wp_step)))
 obtain⟨x,v,y⟩:=i.there;show(Uy _ _ (Pq _ _ _ _ _ _ _) _ _ _);unfold Pq
 (repeat (any_goals (first|assumption|wp_step)))
 exact h _ _ i.keeps
end
def JP:entryFor table "dict.update.loop"=ba Fi.«dict.update.loop» :=entryFor_of_tree (by kernel_rfl)
def TH:plainId "dict.update.loop"=bc:=by decide+kernel
def PrK(prog:Aw)(w:Ve)(h:Vg):List Uw->List (aK×Uw)->Prop
 |[],[]=>True
 |v::vs,p::ps=>(∃a key,v=.ref a/\IsTup h a #[key,p.2]/\(aT prog w).is p.1 key=bc)/\PrK prog w h vs ps
 |_,_=>False
section
variable{prog:Aw}{w:Ve}{A:Bw}{E:Uw->Ae->Prop}{s:Ae}
theorem PrK.keep{h h':Vg}{C:Ux->Prop}(k:∀b o,C b->h.get? b=ba o->h'.get? b=ba o):∀{vs:List Uw}{ps:List (aK×Uw)},(∀a,Br a∈vs->C a)->PrK prog w h vs ps->PrK prog w h' vs ps
 |[],[],_,_=>trivial
 |_::_,_::_,c,⟨⟨a,key,e,⟨o,f,r⟩,q⟩,d⟩=>⟨⟨a,key,e,⟨o,k a o (c a (by rw[e];exact Ax)) f,r⟩,q⟩,PrK.keep k (λa g=>c a (Ap _ g)) d⟩
 |[],_::_,_,r=>r.elim
 |_::_,[],_,r=>r.elim
def DH{a:Ux}{k v:Uw}{Q:List Uw->Ae->Prop}(h:IsTup s.heap a #[k,v])(q:Q [k,v] s):Uy (Vb prog w) A (Na (.ref a)) Q E s:=by obtain⟨o,b,hc,n,c⟩:=h;unfold Na;refine(Aa (Lo (T:= "tuple") ⟨o,b,hc⟩ ?_));rw[if_pos (by decide)];exact(Aa (Ee b c (Ag q)))
theorem dD{R:Ui->Ae->Prop}{I D:Ux}{fp d:List Ux}{items:Array Uw}{St:Nat->Vg->Prop}(W:Walks prog w A.in1 I fp d items.size (λi v=>items[i]?=ba v) St)(c:D∉fp):∀(vs:List Uw) (ps:List (aK×Uw)) (j:Nat) (i:Int) (s:Ae) (kvs:List (aK×Uw)),items.toList.drop j=vs->j+vs.length=items.size->St j s.heap->s.heap.DictOf (aT prog w) D kvs->kvs.length+vs.length<=sizeLine->PrK prog w s.heap vs ps->(∀a,Br a∈vs->a∉d/\a≠D)->(∀g tk,g.DictOf (aT prog w) D (ps.foldl (λl p=>Uj l p.1 p.2) kvs)->(∀b o,b∉d->b≠D->s.heap.get? b=ba o->g.get? b=ba o)->R (.ok (.ret .none)) {s with heap:=g,toks:=tk})->Hg (Vb prog w) A (.builtin "dict.update.loop" ⟨[.ref D,.ref I,rawInt i,.none],[]⟩) R s
 | [],ps,j,i,s,kvs,e,F,k,J,hz,n,x,K => by
  have f:D∉d:=λz=>c (W.sub _ z);cases ps with
  |cons p ps=>exact n.elim
  |nil=>
   refine Fq JP (by rw[Ex TH _];show(Uy _ A.in1 (pyNext (.ref I)>>=_) _ _ s);refine(Aa (W.done s _ _ (by rw[show items.size=j by simpa using F.symm];exact k) λg tk kept=>?_));show(Uy _ A.in1 (Builtin.Dict.addKeywords D []>>=_) _ _ _);refine(Aa (Ag (Ag ?_)));obtain⟨o,es,ep,E,r⟩:=J;exact K g tk ⟨o,es,ep,kept _ _ f E,r⟩ λb o m _ e=>kept b o m e)
 | v :: vs,ps,j,i,s,kvs,e,F,k,J,hz,n,x,K => by
  have f:D∉d:=λz=>c (W.sub _ z);cases ps with
  |nil=>exact n.elim
  |cons p ps=>
   obtain⟨⟨a,key,rfl,Q,S⟩,n⟩:=n;obtain⟨O,Z⟩:=x a Ax;simp only[Bu]at F hz;have X:items[j]?=ba (.ref a):=by
    have:=congrArg (λl=>l[0]?) e
    simpa using this
   have Y:items.toList.drop (j+1)=vs:=by
    have:=congrArg List.tail e
    simpa using this
   refine Fq JP (by
    rw[Ex TH _];show(Uy _ A.in1 (pyNext (.ref I)>>=_) _ _ s);refine(Aa (W.item j s _ _ (by lia) k λv g tk pv P kept=>?_));obtain rfl:v=.ref a:=by rw[X]at pv;cases pv;rfl
    obtain⟨o,E,r⟩:=Q;obtain⟨N,es,ep,B,M⟩:=J;refine(Aa (Bv (Aa (He (DH (s:={s with heap:=g,toks:=tk}) ⟨o,kept _ _ O E,r⟩ ?_)))));refine(Bv (wpAny_dictSet_pairs (s:={s with heap:=g,toks:=tk}) (kvs:=kvs) S ⟨N,es,ep,kept _ _ f B,M⟩ (λV H q=>?_) (by lia)));have L:∀b o,b∉d->b≠D->s.heap.get? b=ba o->V.get? b=ba o:=λb o m t e=>(q.2 b t).trans (kept b o m e);refine(Ag ⟨Ha TH _,dD W c vs ps (j+1) (i+1) _ (Uj kvs p.1 p.2) Y (by lia) (W.frame _ _ _ P λb u o e=>(q.2 b (λz=>c (by rw[<-z];exact u))).trans e) H ?_ (PrK.keep (C:=λb=>b∉d/\b≠D) (λb o u e=>L b o u.1 u.2 e) (λa h=>x a (Ap _ h)) n) (λa h=>x a (Ap _ h)) ?_⟩)
    ·have:=stored_length_le kvs p.1 p.2
     lia
    ·exact λU y G T=>K U y G λb o m t e=>T b o m t (L b o m t e))
end
section
variable{prog:Aw}{w:Ve}{A:Bw}{E:Uw->Ae->Prop}{s:Ae}
def CY{l:Ux}{vs:List Uw}{ps:List (aK×Uw)}{Q:Uw->Ae->Prop}(J:A.handled=bb)(N:PlainL s.heap l vs.toArray)(hz:vs.length<=sizeLine)(u:PrK prog w s.heap vs ps)(h:∀g tk,g.DictOf (aT prog w) s.heap.objs.size (ps.foldl (λl p=>Uj l p.1 p.2) [])->(∀b o,s.heap.get? b=ba o->g.get? b=ba o)->Q (.ref s.heap.objs.size) {s with heap:=g,toks:=tk}):Uy (Vb prog w) A (call (.type "dict") [.ref l]) Q E s:=by
 refine(callType_codes (Q₁:=λobj d=>obj=.ref s.heap.objs.size/\d={s with heap:=s.heap.push {cls:=.type "dict",data:=.dict #[]}}) F.kt_called_dict (F.kt_typeCall_dict_1 _) F.entry_dict_init (kt_code_dict_new _ ⟨rfl,rfl⟩) ?_);rintro obj d ⟨rfl,rfl⟩;have H:(s.heap.push {cls:=.type "dict",data:=.dict #[]}).DictOf (aT prog w) s.heap.objs.size []:=Sc s.heap;obtain⟨o,n,I,hc,S,L⟩:=N;have r:(s.heap.push {cls:=.type "dict",data:=.dict #[]}).get? l=ba o:=Ad _ I;refine⟨H.typeIs,F.args_dict_init_2 _ _,?_⟩;unfold Fi.«dict.__init__»;refine(Aa ?_);unfold Builtin.Dict.selfAndRest;refine(Aa (wpAny_notOrdered_dict H.typeIs ?_));show(Uy _ _ (pure (s.heap.objs.size,[Br l])) _ _ _);refine(Ag ?_);show(Uy _ _ (Mo "dict.__init__" s.heap.objs.size (.ref l) [] .none) _ _ _);unfold Mo;refine(Aa (Lo (T:= "list") ⟨o,r,hc⟩ ?_));rw[if_pos (by decide)];refine(Aa (eP r hc L S (by simp[J]) λf y k1=>?_));simp only[Option.isNone_none,if_true];refine(Aa (Hc ?_));have P:f.get? l=ba o:=k1 _ _ r;have od:f.get? s.heap.objs.size=ba {cls:=.type "dict",data:=.dict #[]}:=k1 _ _ (Aj _ rfl);have j:s.heap.objs.size<f.objs.size:=An od;have k:l<s.heap.objs.size:=An I;have x:f.IsList l vs.toArray:=⟨o,P,hc,n,L⟩;have K:∀b c,s.heap.get? b=ba c->f.get? b=ba c:=λb c q=>k1 b c (Ad _ q);have i:∀b c,s.heap.get? b=ba c->b∉[f.objs.size]/\b≠s.heap.objs.size:=λb c q=>by
  have:=An q
  exact⟨λz=>by rw[Ba.mp z]at this;exact absurd (Qv this j) (Cq _),λz=>by rw[z]at this;exact Cq _ this⟩
 have D:∀{vs:List Uw}{ps:List (aK×Uw)},PrK prog w s.heap vs ps->∀a,Br a∈vs->∃c,s.heap.get? a=ba c:=by
  intro vs;induction vs with
  |nil=>intro ps _ a t;cases t
  |cons v vs R=>
   intro ps u a t;cases ps with
   |nil=>exact u.elim
   |cons p ps=>
    rcases Ak.mp t with e|t
    ·obtain⟨⟨b,key,U,⟨c,m,_⟩,_⟩,_⟩:=u
     rw[U]at e;cases e;exact⟨c,m⟩
    ·exact R u.2 a t
 refine(Aa (Fo (s:={s with heap:=f,toks:=y}) x ?_));have W:=Ti (prog:=prog) (w:=w) (A:=A.in1.in1) (by simp[J]) f.objs.size l (Bb (Qv k j)) vs.toArray;refine(Ag ⟨Ha TH _,dD (A:=A.in1) W (λz=>?_) vs ps 0 0 _ [] (by simp) (by simp) ⟨⟨_,Aj _ rfl,rfl,rfl⟩,x.push _⟩ ?_ (by simpa using hz) (PrK.keep (C:=λ_=>True) (λb c _ q=>Ad _ (K b c q)) (λ_ _=>trivial) u) (λa t=>?_) λg tk G kept=>⟨rfl,h g tk G λb c q=>?_⟩⟩)
 ·rcases Ak.mp z with z|z
  ·exact absurd j (by rw[<-z];exact Cq _)
  ·rw[<- Ba.mp z]at k
   exact Cq _ k
 ·obtain⟨O,es,ep,B,M⟩:=H
  exact⟨O,es,ep,Ad _ (k1 _ _ B),M⟩
 ·obtain⟨c,m⟩:=D u a t
  exact i a c m
 ·exact kept b c (i b c q).1 (i b c q).2 (Ad _ (K b c q))
end
variable{X:Cx}{K:Ah}{H:Hp}{σ:St}{s:Ae}{aa:List (Ux×Vi)}{ml:List Nat}{pa ta ia:Bool}{fa:VF}{a:Vc}{p' pos:Pos}
def kprD:cV->Option (aK×cV)
 |.tup [k,v]=>(VQ k).map λkk=>(kk,v)
 |_=>bb
def QX:List cV->Option (List (aK×cV))
 |[]=>ba []
 |d::ds=>(kprD d).bind λp=>(QX ds).map λps=>p::ps
def GX(K:Ah)(H:Hp):List V->List (aK×V)->Prop
 |[],[]=>True
 |v::vs,p::ps=>(∃a,v=.ref a/\WN K H a [kV p.1,p.2])/\GX K H vs ps
 |_,_=>False
def oP{d:cV}{p:aK×cV}(h:kprD d=ba p):∃k,d=.tup [k,p.2]/\VQ k=ba p.1:=by
 unfold kprD at h;split at h
 ·rename_i k v
  cases e:VQ k with
  |none=>rw[e]at h;cases h
  |some kk=>rw[e]at h;cases h;exact⟨k,rfl,e⟩
 ·cases h
theorem EX{N:Ux->Prop}:∀{xs:List V}{ds:List cV}{kds:List (aK×cV)},bZ K N H xs ds->QX ds=ba kds->∃kvs:List (aK×V),GX K H xs kvs/\kvs.map Dk=kds.map Dk/\bZ K N H (kvs.map Er) (kds.map Er)
 |_,_,_,.nil,h=>by cases h;exact⟨[],trivial,rfl,.nil⟩
 | _,_,kds,@bZ.cons _ _ _ v vs d ds h t,e => by
  have e:(kprD d).bind (λp=>(QX ds).map λps=>p::ps)=ba kds:=e;obtain⟨p,h1,e⟩:=Ac.mp e;have e:(QX ds).map (λps=>p::ps)=ba kds:=e;obtain⟨qs,h2,e⟩:=Ao.mp e;cases e;obtain⟨kvs,g,f,c⟩:=EX t h2;obtain⟨k,rfl,i⟩:=oP h1;cases h.onT with
  |tup sq r=>
   cases r with
   |cons b r=>
    cases r with
    |cons a r=>
     cases r;have j:=b.key i;subst j;exact⟨(p.1,_)::kvs,⟨⟨_,rfl,sq⟩,g⟩,by simp[f],.cons a c⟩
theorem GX.prK(I:cF X aa σ H s):∀{xs:List V}{c:List Uw}{kvs:List (aK×V)},GX X.K H xs kvs->bL xs c->∃ps:List (aK×Uw),KV kvs ps/\PrK X.prog X.w s.heap c ps
 |[],_,[],_,.nil=>⟨[],.nil,trivial⟩
 | _ :: _,_,p :: _,⟨⟨b,e,q⟩,r⟩,.cons h t => by
  subst e;cases h;obtain⟨ps,i,g⟩:=GX.prK I r t;obtain⟨j,a,k,_⟩:=I.tuple q;cases a with
  |cons f a=>
   cases a with
   |cons d a=>
    cases a;exact⟨(p.1,_)::ps,.cons ⟨rfl,d⟩ i,⟨b,_,rfl,k,J0 f⟩,g⟩
 |[],_,_::_,h,_=>h.elim
 |_::_,_,[],h,_=>h.elim
theorem GX.len:∀{xs:List V}{ps:List (aK×V)},GX K H xs ps->xs.length=ps.length
 |[],[],_=>rfl
 |_::_,_::_,r=>by simp[GX.len r.2]
 |[],_::_,r=>r.elim
 |_::_,[],r=>r.elim
def cZ(K:Ah):RC:=λxs H Q=>∃(p:Ux) (ys:List V) (kvs:List (aK×V)),xs=[.ref p]/\X8 K H p ys/\GX K H ys kvs/\(kvs.map Dk).Nodup/\∀l:Ux,H l=bb->Q (.ref l) (upd H l (.dK kvs))
def kF(hc:X.calm=bc)(h:X.K=K:=by rfl):aB X (.type "dict") (cZ K):=by subst h;intro aa s σ H xs w Q I r h;obtain⟨p,ys,kvs,rfl,m,d,k,q⟩:=h;obtain⟨u,rfl,e⟩:=U0 r;cases e;obtain⟨l,c,j,hz⟩:=I.list m;have x:=c.length;have n:=d.len;obtain⟨ps,i,f⟩:=d.prK I c;refine CY (I.ok.hd hc) j (by lia) f λg tk v kept=>?_;have t:MY [] kvs=kvs:=J9 (acc:=[]) (by simpa using k);have b:=KV.merge i (kvs:=[]) (vs:=[]) .nil;rw[t]at b;exact⟨.ref s.heap.objs.size,_,I.laid (a:=s.heap.objs.size) (o:=.dK kvs) (t':=tk) kept (Am _) (Xz (by lia) (beq_eq_false_iff_ne.mpr (Ea (Bb I.big))) b v),rfl,q _ (I.hok.fresh (Am _))⟩
def A7:cV->Option cV
 |.lst ds=>(QX ds).bind λkds=>if(kds.map Dk).Nodup then ba (.dct (kds.map Dk) (kds.map Er))else bb
 |_=>bb
def CalD(K:Ah)(r:RC)(o:cV->Option cV):Prop:=∀(H:Hp) (N M:Ux->Prop) (x:V) (d c:cV) (Q:VK),bC K N H M x d->o d=ba c->
 (∀p (kvs:List (aK×V)) ds,H p=bb->bZ K N H (kvs.map Er) ds->c=.dct (kvs.map Dk) ds->Q (.ref p) (upd H p (.dK kvs)))->r [x] H Q
def mq:CalD K (cZ K) A7:=by
 intro H N M x d c Q j h k;cases d with
 |lst ds=>
  have h:((QX ds).bind λkds=>if(kds.map Dk).Nodup then ba (cV.dct (kds.map Dk) (kds.map Er))else bb)=ba c:=h;obtain⟨kds,h1,h⟩:=Ac.mp h;have h:(if(kds.map Dk).Nodup then ba (cV.dct (kds.map Dk) (kds.map Er))else bb)=ba c:=h;split at h
  ·rename_i i
   cases h;obtain⟨a,xs,rfl,sq,r⟩:=j.lstE;obtain⟨kvs,g,e,f⟩:=EX r h1;exact⟨a,xs,kvs,rfl,sq,g,by rw[e];exact i,λl b=>k l kvs _ b f (by rw[e])⟩
  ·cases h
 |_=>cases h
def mkDK{B:Bs}{O:Nat->Option Ux}{H1:Hp}{δ':Ev}{p:Ux}{pu:Bool}{kvs:List (aK×V)}{ds:List cV}(S:aR K ml B O H1 σ δ')(f:Fr (OA O) H H1)(s:pu=bc->bF H H1)(a:H1 p=bb)(r:bZ K (Nn B O) H1 (kvs.map Er) ds):ResN K ml B O H σ pu (upd H1 p (.dK kvs)) δ' p (.dct (kvs.map Dk) ds):=
 ⟨S.laid a,f.trans (cM a).fr,λz=>(s z).trans (cM a),.dct b9 ((r.away a _ _ WH).same (cM a)),S.new a,S.fresh a⟩
def lS(r:X.K=K)(hc:X.calm=bc)(n:Gl X "dict")(m:X.mg "dict"=bb)(g:Bi "dict"=ba (.type "dict"))(o:PE X a (TV K ml pa ta bc fa))(l:("dict":Va)≠ "__name__":=by decide)(e:(("dict":Va)==("__debug__":Va))=bd:=by decide)(b:SE X a []:=by rfl):PE X (.Call (.Name "dict" p') [a] [] pos) (TN K ml pa (f1 A7 fa)):=
 (WX (kF hc r) n m g (bN o aD b) l e b).imp λσ H Q h=>by obtain⟨B,O,δ,d,δ',S,q,k⟩:=h;obtain⟨x,h1,h2⟩:=MI q;refine⟨B,O,δ,x,δ',S,h1,λf H1 c=>mq H1 _ _ f x d Q c.rep h2 λp kvs ds j i b=>?_⟩;subst b;exact k p _ (mkDK c.sta c.frm c.pur j i)
def iU(l b:Ux)(u v:Array Uw)(n m:Nat)(a:Array (Option Uw))(f:¬(!u.isEmpty&&Gj (u.size+v.size))=bc)(h1:u.size<=sizeLine)(h2:(u++v).size<=sizeLine+1):Meets (Fi.«list.extend» ⟨[.ref l,.ref b],[]⟩) (λ_ R s=>s.heap.get? l=ba ⟨.type "list",bb,.seq u n,#[]⟩/\s.heap.get? b=ba ⟨.type "list",bb,.seq v m,a⟩/\R (.ok (.ret .none)) {s with heap:=s.heap.update l (Dt λx=>x++v)}):=
 .of_wp λprog w A R s h=>by
  obtain⟨e,g,d,tk,os⟩:=s;obtain⟨hl,c,h⟩:=h;have f1:=Mv;have f2:=AutoSeq1.sub_tuple_tuple;have f3:=AutoSeq1.sub_list_list;have j:=AutoSeq1.sub_tuple_list;have i:=AutoSeq1.sub_list_tuple;wp_walk using(Kw hl rfl (hz:=h1) (_hz':=h2)),Db hl,Db c
  exact⟨_,rfl,h⟩
def Vx(K:Ah):V->List V->Hp->VK->Prop:=λx vs H Q=>∃l b xs zs,x=.ref l/\vs=[.ref b]/\H l=ba (.lst xs)/\X8 K H b zs/\xs.length+zs.length<=sizeLine/\Q .non (upd H l (.lst (xs++zs)))
def fK{X:Cx}:MtM X "list.extend" (Vx X.K):=by
 intro aa s σ H x vs v A Q I k m h;obtain⟨l,b,xs,zs,rfl,rfl,g,w,hz,q⟩:=h;cases k;obtain⟨u,rfl,o⟩:=m.one;cases o;obtain⟨z,a,n,r,hl,e⟩:=I.lstM g;obtain⟨c,d,⟨⟨cls,dd,data,j⟩,p,y,hc,f,i⟩,_⟩:=I.list w;simp only at hc f i;subst hc f i;have t:=d.length;have hsz:a.toArray.size+c.toArray.size<=sizeLine:=by rw[Aq,Aq];lia
 refine Gk F.slot_list_extend ⟨_,e,rfl⟩ F.entry_list_extend (F.args_list_extend_2 _ _) (iU l b a.toArray c.toArray n p j (by rw[oM hsz,Bool.and_false];exact Cr) (by rw[Aq];lia) (by rw[Array.size_append];lia)) ⟨e,y,?_⟩
 refine⟨.non,_,I.lset (its':=a++c) g e (by simp) (r.append d) ?_,rfl,q⟩;rw[Cs];lia
def AY{X:Cx}{K:Ah}(h:X.K=K):MtM X "list.extend" (Vx K):=by subst h;exact fK
noncomputable def mExt:List cV->List cV->Option (List cV)
 |ds,[.lst es]=>if ds.length+es.length<=16777216 then ba (ds++es)else bb
 |_,_=>bb
def HM{K:Ah}:MuV K (Vx K) mExt:=by
 intro H N l xs vs ds es f Q hl g a c h k;cases c with
 |nil=>cases h
 | @cons v vs d es e t=>
  cases t with
  |cons _ _=>cases d<;>cases h
  |nil=>
   cases d with
   |lst es=>
    simp only[mExt]at h;split at h
    ·rename_i hz
     cases h;obtain⟨b,zs,rfl,sq,r⟩:=e.lstE;exact⟨l,b,xs,zs,rfl,rfl,hl,sq,by rw[a.length,r.length,Cf];exact hz,k _ _ (a.append r)⟩
    ·cases h
   |_=>cases h
def LJ:Bi "ValueError"=ba (.type "ValueError"):=by decide+kernel
def X7.mark{k:Nat}{A:Bw}(r:X7 k A)(h:Option Uw):X7 k (A.mark h):=⟨r.dp,r.un⟩
noncomputable def xiOk(K:Ah)(a all:List Va):Bool:=a.all λc=>match Gs K Vd c with
 |some (ba (.ref C))=>all.all (λx=>match Gs K Vd x with
  |some (ba (.ref D))=>Hx K (.ref C) (.ref D)==ba (decide (c=x))
  |_=>bd)&&(Hx K (.ref C) (.type "ValueError")==ba bc&&match Gs K Vd "PackError" with
  |some (ba (.ref D))=>Hx K (.ref C) (.ref D)==ba bc
  |_=>bd)
 |_=>bd
def XI.of{K:Ah}{b all:List Va}(own:∀c∈b,∃C,XC K c C)(h:xiOk K b all=bc):XI K b all:=by
 have key:∀c∈b,∀C,Gs K Vd c=ba (ba (.ref C))->(∀x∈all,∃D,Gs K Vd x=ba (ba (.ref D))/\Hx K (.ref C) (.ref D)=ba (decide (c=x)))/\Hx K (.ref C) (.type "ValueError")=ba bc/\∃D,Gs K Vd "PackError"=ba (ba (.ref D))/\Hx K (.ref C) (.ref D)=ba bc:=by
  intro c hc C a;have:=Fy.mp h c hc
  rw[a]at this;simp only[Af,beq_iff_eq]at this;refine⟨λx e=>?_,this.2.1,?_⟩;rotate_left
  ·have h2:=this.2.2
   split at h2
   ·rename_i D d
    exact⟨D,d,beq_iff_eq.mp h2⟩
   ·cases h2
  have h2:=Fy.mp this.1 x e;split at h2
  ·rename_i D d
   exact⟨D,d,beq_iff_eq.mp h2⟩
  ·cases h2
 exact⟨own,λc hc C a=>(key c hc C a).1,λc hc C a=>(key c hc C a).2.1,λc hc C a=>(key c hc C a).2.2⟩
def okZ(P:Aw)(w:Ve)(K:Ah)(mg:Va->Option Uw)(base:Vg){x qual:Va}{st:Vj}{f:Ux}{fd:Ci}(N ps:List Va)(k:Nat)(z:VZ)(F:SO K x qual st f fd)(S:aS N ps (cL st))(d:∀(a:Uw) (A:Bw) (outer:List Env) (s:Ae) (H:Hp) (E:XK) (b:ZZ k (A.deeper (envOfC qual (cL st) s.heap.objs.size f a))) (_:(A.deeper (envOfC qual (cL st) s.heap.objs.size f a)).units+64<cLine) (_:(A.deeper (envOfC qual (cL st) s.heap.objs.size f a)).units+1<cLine),W7 (UT (GQ P w) P w K mg base N qual (cL st) f a A outer s H E) (aY st) (ZS (rE K E) K [] z))(c:ps.length<=N.length:=by decide):YO P w K mg base (GQ P w) (k+1) f fd ps (spX K ps.length (Q7 N.length z)):=
 SO.okX F S c λa A outer s H E b=>d a A outer s H E b b.units (Wt b)
def okWH(P:Aw)(w:Ve)(K:Ah)(mg:Va->Option Uw)(base:Vg){x qual:Va}{st:Vj}{f:Ux}{fd:Ci}(N ps:List Va)(k:Nat)(g:VS)(ml:List Nat)(F:SO K x qual st f fd)(S:aS N ps (cL st))(d:∀(a:Uw) (A:Bw) (outer:List Env) (s:Ae) (H:Hp) (b:X7 k (A.deeper (envOfC qual (cL st) s.heap.objs.size f a))) (_:(A.deeper (envOfC qual (cL st) s.heap.objs.size f a)).units+64<cLine) (_:(A.deeper (envOfC qual (cL st) s.heap.objs.size f a)).units+1<cLine),W7 (cxH P w K mg base N qual (cL st) f a A outer s H) (aY st) (WL K ml g))(c:ps.length<=N.length:=by decide):FnH P w K mg base (k+1) f fd ps (spV K ml ps.length (a9 N.length ml g)):=
 SO.okVH F S c λa A outer s H b=>d a A outer s H b b.units b.unit
def V3{α:Type}(k:Nat)(xs:List α):List α:=(As k xs).flatten
def NA{α:Type}(k:Nat)(xs:List α):(V3 k xs).length=xs.length*k:=by
 unfold V3;induction k with
 |zero=>simp
 |succ k a=>rw[Ei,Gm,Cs,a,Nat.mul_succ,Qw]
def bL.repV{xs:List V}{a:List Uw}(r:bL xs a)(k:Nat):bL (V3 k xs) (V3 k a):=by
 unfold V3;induction k with
 |zero=>exact .nil
 |succ k b=>rw[Ei,Ei,Gm,Gm];exact r.append b
def bZ.rep{K:Ah}{N:Ux->Prop}{H:Hp}{xs:List V}{ds:List cV}(r:bZ K N H xs ds)(k:Nat):bZ K N H (V3 k xs) (V3 k ds):=by
 unfold V3;induction k with
 |zero=>exact .nil
 |succ k a=>rw[Ei,Ei,Gm,Gm];exact r.append a
def PX:fillsNumberSlot (.type "tuple") "mul"=pure bd:=
 PySem.fillsNumberSlot_seq (id:= "tuple.__mul__") (r:=ba (.builtin "tuple.__rmul__")) F.slot_tuple_mul.lookup (by decide+kernel) F.slot_tuple_rmul.lookup (by decide+kernel)
def ID:seqRepeat? (.type "tuple")=pure (ba (.builtin "tuple.__mul__")):=by unfold seqRepeat?;rw[Rn (T:= "tuple") (name:= "__mul__") (id:= "tuple.__mul__") F.slot_tuple_mul.lookup (by decide+kernel),Rn (T:= "tuple") (name:= "__rmul__") (id:= "tuple.__rmul__") F.slot_tuple_rmul.lookup (by decide+kernel)];rfl
def DR(a:Int)(t:Vp)(l:Ux)(u:Array Uw)(n:Nat)(dd:Option Ux)(b:Array (Option Uw)):Meets (Fi.«int.__rmul__» ⟨[.int a t,.ref l],[]⟩) (λ_ R s=>s.heap.get? l=ba ⟨.type "tuple",dd,.seq u n,b⟩/\R (.ok (.ret Value.notImplemented)) s):=
 .of_wp λprog w A R s h=>by obtain⟨c,g,d,tk,os⟩:=s;obtain⟨hl,h⟩:=h;wp_walk;exact⟨_,rfl,h⟩
def C7(l:Ux)(t:Vp)(u:Array Uw)(n:Nat)(dd:Option Ux)(a:Array (Option Uw)):Meets (Fi.«tuple.__mul__» ⟨[.ref l,.int 1 t],[]⟩) (λ_ R s=>s.heap.get? l=ba ⟨.type "tuple",dd,.seq u n,a⟩/\R (.ok (.ret (.ref l))) s):=
 .of_wp λprog w A R s h=>by
  obtain⟨b,g,d,tk,os⟩:=s;obtain⟨hl,h⟩:=h;have f1:=Mv;unfold Fi.«tuple.__mul__»;wp_walk using Db hl
  exact⟨_,rfl,h⟩
def C8(l:Ux)(x:Int)(t:Vp)(u:Array Uw)(n:Nat)(dd:Option Ux)(e:Array (Option Uw))(h1:1<x)(h2:x<2 ^ 62)(f:u.isEmpty=bd)(hz:u.size*x.toNat<=16777216):Meets (Fi.«tuple.__mul__» ⟨[.ref l,.int x t],[]⟩) (λ_ R s=>s.heap.get? l=ba ⟨.type "tuple",dd,.seq u n,e⟩/\R (.ok (.ret (.ref s.heap.objs.size))) {s with heap:=s.heap.push {cls:=.type "tuple",data:=.seq ((As x.toNat u).foldl (· ++ ·) #[])}}):=
 .of_wp λprog w A R s h=>by
  obtain⟨p,g,d,tk,os⟩:=s;obtain⟨hl,h⟩:=h;have f1:=Mv;unfold Fi.«tuple.__mul__»;have o:(decide (x< -2 ^ 63) || decide (x≥2 ^ 63))=bd:=by simp;lia
  have m:(x==1)=bd:=by simp;lia
  have k:decide (x<=0)=bd:=by simp;lia
  have a:(u.size:Int)*x=((u.size*x.toNat:Nat):Int):=by rw[Int.natCast_mul,Int.toNat_of_nonneg (by lia)]
  have j:¬((u.size:Int)*x>(2 ^ 63-1)/8):=by rw[a];lia
  have i:Ll ((u.size:Int)*x)=bd:=by rw[a];unfold Ll;simp only[Cf,decide_eq_false_iff_not];lia
  wp_walk using Db hl
  rw[o];wp_walk using Db hl
  simp only[f,m,k,Tq];wp_walk;rw[i,if_neg j];have q:¬(List.foldl (λc b=>c++b) #[] (As x.toNat u)).size>sizeLine:=by
   have:=NA x.toNat u.toList
   unfold V3 at this;rw[listMul_foldl,Aq];show¬([]++(As x.toNat u.toList).flatten).length>sizeLine;rw[Fs,this,Gu,Cf];lia
  wp_walk;exact⟨_,rfl,h⟩
section
variable{X:Cx}{K:Ah}
def Yh(K:Ah):R2:=λx y H Q=>∃l xs k,x=.ref l/\y=.int k/\X8 K H l xs/\(0<=k/\k<2 ^ 62)/\xs.length*k.toNat<=16777216/\∀p,H p=bb->Q (.ref p) (upd H p (.lst (V3 k.toNat xs)))
def zGJ:WZ X (Fz .Mult) (Yh X.K):=by
 intro aa s σ H x y v u Q I j i h;obtain⟨l,xs,x,rfl,rfl,k,⟨p,m⟩,hz,q⟩:=h;cases j;obtain⟨t,rfl⟩:=i;obtain⟨a,r,⟨⟨cls,dd,data,d⟩,n,c,hc,f,g⟩,_⟩:=I.list k;simp only at hc f g;subst hc f g;have hl:=r.length;have hsz:a.toArray.size*x.toNat<=16777216:=by rw[Aq,<-hl];exact hz
 refine Lu (T:= "list") (U:= "int") (by decide) ⟨_,c,rfl⟩ (λs'=>Nu s' x t) noFill_list_mul Sr Kx repeat_list F.slot_int_index.lookup
  (Gk Kx (Nu s x t) Ro (Qm _ _) (lm_int_rmul_list_any x t l a.toArray n bb d) ⟨c,rfl,⟨_,c,rfl⟩,?_⟩)
 refine Gk F.slot_list_mul ⟨_,c,rfl⟩ F.entry_list_mul (F.args_list_mul_2 _ _) (lm_list_mul_any l a.toArray n bb d x t (by simp[Builtin.List.listFitsIndex];lia) (by lia) (by simp[Gj,sizeLine];lia)) ⟨c,?_⟩;rw[listMul_foldl_if];refine⟨.ref s.heap.objs.size,_,I.laid (t':=s.toks) (o:=.lst (V3 x.toNat xs)) (λb w e=>Ad _ e) (Am _) ?_,rfl,q _ (I.hok.fresh (Am _))⟩;exact⟨by rw[NA,Cf];exact hz,V3 x.toNat a,0,r.repV _,Aj _ rfl⟩
def Xf(K:Ah):R2:=λx y H Q=>∃l xs k,x=.ref l/\y=.int k/\WN K H l xs/\xs≠[]/\(1<=k/\k<2 ^ 62)/\xs.length*k.toNat<=16777216/\(k=1->Q (.ref l) H)/\∀p,H p=bb->Q (.ref p) (upd H p (.tup (V3 k.toNat xs)))
def mP:WZ X (Fz .Mult) (Xf X.K):=by
 intro aa s σ H x y v u Q I m k h;obtain⟨l,xs,x,rfl,rfl,w,g,⟨A,j⟩,hz,q1,q⟩:=h;cases m;obtain⟨t,rfl⟩:=k;obtain⟨c,r,⟨⟨cls,dd,data,f⟩,d,hc,n,i⟩,_⟩:=I.tuple w;simp only at hc i;subst hc i;have hl:=r.length;have hsz:c.toArray.size*x.toNat<=16777216:=by rw[Aq,<-hl];exact hz
 have p:c.toArray.isEmpty=bd:=by
  cases c with
  |nil=>exact absurd (r.nil_iff.mp rfl) g
  |cons a b=>rfl
 refine Lu (T:= "tuple") (U:= "int") (by decide) ⟨_,d,rfl⟩ (λs'=>Nu s' x t) PX Sr Kx ID F.slot_int_index.lookup
  (Gk Kx (Nu s x t) Ro (Qm _ _) (DR x t l c.toArray n dd f) ⟨d,rfl,⟨_,d,rfl⟩,?_⟩)
 by_cases z:x=1
 ·subst z
  exact Gk Rp ⟨_,d,rfl⟩ Qn (Pr _ _) (C7 l t c.toArray n dd f) ⟨d,⟨.ref l,H,I,rfl,q1 rfl⟩⟩
 ·refine Gk Rp ⟨_,d,rfl⟩ Qn (Pr _ _) (C8 l x t c.toArray n dd f (by lia) j p hsz) ⟨d,?_⟩
  rw[listMul_foldl];refine⟨.ref s.heap.objs.size,_,I.laid (t':=s.toks) (o:=.tup (V3 x.toNat xs)) (λb B e=>Ad _ e) (Am _) ?_,rfl,q _ (I.hok.fresh (Am _))⟩;exact⟨by rw[NA,Cf];exact hz,V3 x.toNat c,r.repV _,Ko _ _⟩
def Yc(K:Ah):R2:=λx y H Q=>Yh K x y H Q∨Xf K x y H Q
def kRep(h:X.K=K:=by rfl):WZ X (Fz .Mult) (Yc K):=by subst h;exact zGJ.or mP
noncomputable def WS:cV->cV->Option cV
 |.lst ds,.int k=>if(0<=k/\k<2 ^ 62)/\ds.length*k.toNat<=16777216 then ba (.lst (V3 k.toNat ds))else bb
 |.tup (d::ds),.int k=>if(1<=k/\k<2 ^ 62)/\(ds.length+1)*k.toNat<=16777216 then ba (.tup (V3 k.toNat (d::ds)))else bb
 |_,_=>bb
def JJ:OpC K (Yc K) WS:=by
 intro H N M M' x y d e c Q l j h k;cases d with
 |lst ds=>
  cases e with
  |int i=>
   simp only[WS]at h;split at h
   ·rename_i hz
    cases h;obtain⟨a,xs,rfl,q1,b⟩:=l.lstE;cases j;exact .inl ⟨a,xs,i,rfl,rfl,q1,hz.1,by rw[b.length];exact hz.2,λp f=>k _ _ (cM f) λM g=>.lst b9 (λz=>by obtain⟨o,q⟩:=g _ z;rw[f]at q;cases q) ((b.rep _).same (cM f))⟩
   ·cases h
  |_=>cases h
 |tup ds=>
  cases ds with
  |nil=>cases h
  |cons d ds=>
   cases e with
   |int i=>
    simp only[WS]at h;split at h
    ·rename_i hz
     cases h;obtain⟨a,xs,rfl,q1,b⟩:=l.tupE;cases j;refine .inr ⟨a,xs,i,rfl,rfl,q1,λz=>?_,hz.1,by rw[b.length];exact hz.2,λz=>?_,λp f=>k _ _ (cM f) λM g=>.tup (WN.of b9) ((b.rep _).same (cM f))⟩
     ·subst z
      cases b
     ·subst z
      refine k _ _ (bF.refl _) λM g=>?_;rw[show V3 (1:Int).toNat (d::ds)=d::ds by simp[V3]];exact .tup q1 b
    ·cases h
   |_=>cases h
 |_=>cases h
end
noncomputable def litA:Vc->Option cV
 |.Constant (.int i) _ _=>ba (.int i)
 |.Constant (.bool i) _ _=>ba (.bl i)
 |.Constant (.str i) _ _=>ba (.str i)
 |.Constant .none _ _=>ba .non
 |.UnaryOp .USub (.Constant (.int i) _ _) _=>ba (.int (-i))
 |_=>bb
noncomputable def LN(f:Vc->Option cV):List Vc->Option (List cV)
 |[]=>ba []
 |e::es=>(f e).bind λd=>(LN f es).map λds=>d::ds
def E3:Nat->Vc->Option cV
 |0,e=>litA e
 |k+1,e=>match e with
  |.Tuple es _ _=>(LN (E3 k) es).bind λds=>if ds.length<=16777216 then ba (.tup ds)else bb
  |.List es _=>(LN (E3 k) es).bind λds=>if ds.length<=16777216 then ba (.lst ds)else bb
  |e=>litA e
section
variable{X:Cx}{K:Ah}{ml:List Nat}
def A1{e:Vc}{d:cV}(h:litA e=ba d):PE X e (TV K ml bc bc bc (fC d)):=by
 unfold litA at h;split at h
 ·cases h;exact cS
 ·cases h;exact YV
 ·cases h;exact cD
 ·cases h;exact V5
 ·cases h;exact VL cS
 ·cases h
def J8{e:Vc}{es:List Vc}{d:cV}(h:litA e=ba d):Uz (e::es) X.env=(bd,eval e X.env)::Uz es X.env:=by
 unfold litA at h;split at h<;>first
  |rfl
  |cases h
theorem HL{f:Vc->Option cV}(c:∀e d,f e=ba d->PE X e (TV K ml bc bc bc (fC d))/\∀es,Uz (e::es) X.env=(bd,eval e X.env)::Uz es X.env):∀{es:List Vc}{ds:List cV},LN f es=ba ds->PA X es (TAV K ml bc bc λδ=>ba (ds,δ))
 |[],_,h=>by
  cases h;exact cJ
 | e :: es,ds,h => by
  have h:((f e).bind λd=>(LN f es).map λds=>d::ds)=ba ds:=h;cases h1:f e with
  |none=>rw[h1]at h;cases h
  |some d=>
   rw[h1]at h;have h:(LN f es).map (λds=>d::ds)=ba ds:=h;cases h2:LN f es with
   |none=>rw[h2]at h;cases h
   |some g=>
    rw[h2]at h;cases h;obtain⟨a,b⟩:=c e d h1;exact cT a (HL c h2) (b es)
theorem HK:∀{k:Nat}{e:Vc}{d:cV},E3 k e=ba d->PE X e (TV K ml bc bc bc (fC d))/\∀es,Uz (e::es) X.env=(bd,eval e X.env)::Uz es X.env
 |0,e,d,h=>⟨A1 h,λes=>J8 h⟩
 | k + 1,e,d,h => by
  have hl:∀(es:List Vc) (g:List cV->cV) (c:N0->VF),(∀fs δ,c fs δ=(fs δ).bind λp=>if p.1.length<=16777216 then ba (g p.1,p.2)else bb)->((LN (E3 k) es).bind λds=>if ds.length<=16777216 then ba (g ds)else bb)=ba d->∃ds,PA X es (TAV K ml bc bc λδ=>ba (ds,δ))/\c (λδ=>ba (ds,δ))=fC d:=by
   intro es g c f h;cases h1:LN (E3 k) es with
   |none=>rw[h1]at h;cases h
   |some ds=>
    rw[h1]at h;have h:(if ds.length<=16777216 then ba (g ds)else bb)=ba d:=h;split at h
    ·rename_i hz
     cases h;refine⟨ds,HL (λe d=>HK) h1,funext λδ=>?_⟩;rw[f];show(if ds.length<=16777216 then ba (g ds,δ)else bb)=_;rw[if_pos hz];rfl
    ·cases h
  unfold E3 at h;split at h
  ·rename_i es i pos
   obtain⟨ds,a,b⟩:=hl es .tup aH (λ_ _=>rfl) h;exact⟨b▸bP a,λ_=>rfl⟩
  ·rename_i es pos
   obtain⟨ds,a,b⟩:=hl es .lst ZG (λ_ _=>rfl) h;exact⟨b▸l6 a,λ_=>rfl⟩
  ·exact⟨A1 h,λes=>J8 h⟩
def IP{k:Nat}{e:Vc}{d:cV}(h:E3 k e=ba d):PE X e (TV K ml bc bc bc (fC d)):=(HK h).1
def V6{k:Nat}{es:List Vc}{pos:Pos}{ds:List cV}(h:LN (E3 k) es=ba ds)(hz:ds.length<=16777216):PE X (.List es pos) (TN K ml bc (fC (.lst ds))):=by
 have a:=aX (pos:=pos) (HL (X:=X) (K:=K) (ml:=ml) (λe d=>HK (k:=k)) h);have b:ZG (λδ=>ba (ds,δ))=fC (.lst ds):=funext λδ=>by show(if ds.length<=16777216 then ba (cV.lst ds,δ)else bb)=_;rw[if_pos hz];rfl
 exact b▸a
end
section
variable{X:Cx}{K:Ah}{ml:List Nat}{e a b c:Vc}{es:List Vc}{pa ta ia pb tb ib pc tc ic pu bt bi ps bs:Bool}{fa fb fc f:VF}{B B':Bs}{O:Nat->Option Ux}{H H1 H':Hp}{σ:St}{δ δ':Ev}{v:V}{d:cV}{pos:Pos}{st:Vj}{rest:List Vj}{g g':VS}{z z':VZ}{R:Va->Option Ux->St->Hp->Prop}
def ZJ{a:List Vj}:W7 X a (WL K ml λ_=>bb):=λ_ _ _ _ _ _ ⟨_,_,_,_,_,q,_⟩=>nomatch q
noncomputable def gk(b a:List Uw):List Uw:=match b,a with
 |[u],[w]=>[u,w]
 |_,_=>[]
noncomputable def gkV(b a:List V):List V:=match b,a with
 |[u],[w]=>[u,w]
 |_,_=>[]
def kb1{fd:Ci}{x y:Va}(h:∀u w,bindArgs fd ⟨[u],[(y,w)]⟩=pure [(x,u),(y,w)]):OZ K fd [x,y] [y] gk gkV:=⟨λs b a g hl=>by
 match b,a,hl with
 |[u],[w],_=>exact BindsTo.of_eq (h u w),λ{vs b zs a} r rz=>by
 cases r with
 |nil=>exact .nil
 |cons f e=>
  cases e with
  |nil=>
   cases rz with
   |nil=>exact .nil
   |cons d c=>
    cases c with
    |nil=>exact .cons f (.cons d .nil)
    |cons _ _=>exact .nil
  |cons _ _=>exact .nil⟩
structure Vv(P:Aw)(w:Ve)(K:Ah)(mg:Va->Option Uw)(base:Vg)(x:Va)(k:Nat)(p q:Va)(XF:List cV->Option Xw)(f:Ux):Prop where
 at_:mg x=ba (.ref f)
 ok:∃fd,YO P w K mg base (GQ P w) k f fd [p,q] (spX K 2 XF)/\OZ K fd [p,q] [q] gk gkV
 kp:Hy K (.ref f)=bc
def mi{x p q:Va}{kk:Nat}{sp:Sp}{ff:Ux}{fd:Ci}{p' ax:Pos}{te i:TE}{CX:CXT}(F:YO X.prog X.w X.K X.mg X.base CX kk ff fd [p,q] sp)(D:ZZ kk X.A)(L:Gl X x)(G:X.mg x=ba (.ref ff))(J:Hy X.K (.ref ff)=bc)(z:OZ X.K fd [p,q] [q] gk gkV)(M:PE X a te)(hw:PE X b i)(P:(Ff pos (Cw [⟨ba q,b,ax⟩] X.env)).all (·.1.isSome)=bc:=by rfl)(n:(Ff pos (Cw [⟨ba q,b,ax⟩] X.env)).filterMap (·.1)=[q]:=by rfl)(o:(x==("__debug__":Va))=bd:=by decide)(y:Uz (a::[]) X.env=(bd,eval a X.env)::Uz [] X.env:=by rfl)(m:((Em pos (Uz (a::[]) X.env)).any (·.1) || (Ff pos (Cw [⟨ba q,b,ax⟩] X.env)).any (·.1.isNone))=bd:=by rfl):PE X (.Call (.Name x p') [a] [⟨ba q,b,ax⟩] pos) (λσ H Q=>te σ H λB H1=>i σ H1 λj H2=>∃E,(∀(aa:List (Ux×Vi)) (s:Ae) (c:Uw) (s':Ae),cF X aa σ H2 s->CX X.stack H2 s E c s'->X.xe c s')/\sp [B,j] H2 Q E):=by
 intro aa s σ H Q I h;have pa:PA X [a] (RA te F2):=bN M aD y;have pk:PK X [⟨ba q,b,ax⟩] (RA i F2):=BK hw Xg;refine Ds (WG I L G (W.callWith_KW (h₀:=X.base) I.ok.mod.kin J P (ZH (pa pos aa s σ H (λvs H1=>i σ H1 λj H2=>∃E,(∀(aa:List (Ux×Vi)) (s:Ae) (c:Uw) (s':Ae),cF X aa σ H2 s->CX X.stack H2 s E c s'->X.xe c s')/\sp (gkV vs [j]) H2 Q E) I h) λg s1 d=>?_) m y) o);obtain⟨vs,H1,R,C,d⟩:=d;refine ZH (pk pos aa s1 σ H1 (λzs H2=>∃E,(∀(aa:List (Ux×Vi)) (s:Ae) (c:Uw) (s':Ae),cF X aa σ H2 s->CX X.stack H2 s E c s'->X.xe c s')/\sp (gkV vs zs) H2 Q E) R d) λf k l=>?_;obtain⟨zs,H2,e,rz,E,N,v⟩:=l;have t:=z.rel C rz;have hl:(gk g f).length=[p,q].length:=by rw[<-t.length];exact F.len _ _ _ _ v
 rw[n];refine⟨e.kIn,Lx (Gr (F.run X.A X.stack k H2 ⟨g,[q].zip f⟩ (gk g f) (gkV vs zs) Q E D e.env0 (z.to k g f e.kIn hl) t v) λr s' d=>?_)⟩;cases r with
 |error c=>exact N aa k c s' e d
 |ok O=>cases O with
  |ret u=>exact e.after d
  |next=>cases d
  |brk=>cases d
  |cont=>cases d
def GI{x p q:Va}{kk j:Nat}{l:List cV->Option Xw}{ff:Ux}{p' ax:Pos}(hz:RzF X R)(C:X.K=K)(D:Vv X.prog X.w K X.mg X.base x kk p q l ff)(o:ZZ j X.A)(r:kk<=j)(s:Gl X x)(hex:X.ex=[])(v:PE X a (TV K ml pa bc bc fa))(hw:PE X b (TV K ml pb bc bc fb))(E:(Ff pos (Cw [⟨ba q,b,ax⟩] X.env)).all (·.1.isSome)=bc:=by rfl)(g:(Ff pos (Cw [⟨ba q,b,ax⟩] X.env)).filterMap (·.1)=[q]:=by rfl)(i:(x==("__debug__":Va))=bd:=by decide)(u:Uz (a::[]) X.env=(bd,eval a X.env)::Uz [] X.env:=by rfl)(f:((Em pos (Uz (a::[]) X.env)).any (·.1) || (Ff pos (Cw [⟨ba q,b,ax⟩] X.env)).any (·.1.isNone))=bd:=by rfl):PE X (.Call (.Name x p') [a] [⟨ba q,b,ax⟩] pos) (ZE R K ml (X6 2 l (aE fa (aE fb cE)))):=by
 obtain⟨fd,F,G⟩:=D.ok;subst C;refine(mi F (o.mono r) s D.at_ D.kp G v hw E g i u f).imp λσ H Q h=>?_;have t:=CB (ps:=pa&&(pb&&bc)) (Q:=Q) hz rfl hex h;obtain⟨B,O,δ,as,δ2,S,q,k⟩:=t;unfold aE at q;cases h1:fa δ with
 |none=>rw[h1]at q;cases q
 |some p=>
  obtain⟨x,δ1⟩:=p;rw[h1]at q;have q:((aE fb cE δ1).map λq=>(AV.d x::q.1,q.2))=ba (as,δ2):=q;unfold aE at q;cases h2:fb δ1 with
  |none=>rw[h2]at q;cases q
  |some p2=>
   obtain⟨y,m⟩:=p2;rw[h2]at q;cases q;refine⟨B,O,δ,x,δ1,S,h1,λJ H1 c=>⟨B,O,δ1,y,_,c.sta,h2,λI H2 R2=>k _ H2 ⟨R2.sta,c.frm.trans R2.frm,λz=>?_,.d (c.rep.fr R2.frm (λa z=>.inr z) λa z=>.inr z) (.d R2.rep .nil)⟩⟩⟩;obtain⟨n,e⟩:=(Af _ _).mp z;obtain⟨e,_⟩:=(Af _ _).mp e;exact(c.pur n).trans (R2.pur e)
end
section
variable{prog:Aw}{w:Ve}{A:Bw}{E:Uw->Ae->Prop}{s:Ae}
def P5:isSubtype (.type "range_iterator") (.type "reversed")=pure bd:=by rw[Ju];kernel_rfl
def dP{r:Ux}{n:Int}{t u v:Vp}{Q:Uw->Ae->Prop}(e: -(2 ^ 62)<=n/\n<2 ^ 62)(b:s.heap.get? r=ba {cls:=.type "range",data:=.fields #[.int 0 t,.int n u,.int 1 v]})(h:Q (.ref s.heap.objs.size) {s with heap:=s.heap.push {cls:=.type "range_iterator",data:=.fields #[rawInt ((n.toNat:Int)-1),rawInt (n.toNat:Int),rawInt (-1)]}}):Uy (Vb prog w) A (call (.builtin "range.__reversed__") [.ref r]) Q E s:=by
 refine Dj F.slot_range_reversed ⟨_,b,rfl⟩ F.entry_range_reversed ?_ (F.args_range_reversed_1 _);unfold Fi.«range.__reversed__»;refine Aa (Es (a:=Br r) rfl ?_);have sz:Gx 0 n 1=(n.toNat:Int):=by rw[rangeSize_one];split<;>lia
 have c:(Dd 0&&Dd n&&Dd 1&&Dd (-1)&&Dd (0-1)&&Dd (n.toNat:Int))=bc:=by simp only[Dd,Af,decide_eq_true_eq];lia
 obtain⟨f,g,d,tk,os⟩:=s;unfold Tc;repeat (any_goals (first|with_reducible refine Du b rfl rfl ?_|wp_step))
 dsimp only;rw[sz,c];refine Aa (Cc (Ag ⟨_,rfl,?_⟩));rw[show(0:Int)+((n.toNat:Int)-1)*1=(n.toNat:Int)-1 by lia];exact h
def G9{r:Ux}{n:Int}{t u v:Vp}{Q:Uw->Ae->Prop}(c: -(2 ^ 62)<=n/\n<2 ^ 62)(b:s.heap.get? r=ba {cls:=.type "range",data:=.fields #[.int 0 t,.int n u,.int 1 v]})(h:Q (.ref s.heap.objs.size) {s with heap:=s.heap.push {cls:=.type "range_iterator",data:=.fields #[rawInt ((n.toNat:Int)-1),rawInt (n.toNat:Int),rawInt (-1)]}}):Hg (Vb prog w) A (.call (.builtin "reversed.__new__") ⟨[.type "reversed",.ref r],[]⟩) (wants Q E) s:=by
 refine Np (show Uy _ A.in1 (do Mu "reversed.__new__" ⟨[.type "reversed",.ref r],[]⟩;Ot (.builtin "reversed.__new__" ⟨[.type "reversed",.ref r],[]⟩)) _ _ s from ?_);refine Aa (Es (Ob _) (Ag ⟨Ha Gf _,Fq Od ?_⟩));rw[Ex Gf _];unfold Fi.«reversed.__new__»;refine Aa (Es (Qo _) (Aa (Es (a:=()) (by first|rfl|kernel_rfl) (Aa (Es (a:=()) (by first|rfl|kernel_rfl) ?_)))));refine Aa (Iq (⟨_,b,rfl⟩:s.TypeIs (.ref r) "range") F.slot_range_reversed.lookup ?_);refine Aa (Es (F.slot_range_reversed.bind _) ?_);show Uy _ _ (if(Ud "range.__reversed__"==Value.none)=bc then _ else _) _ _ _;rw[if_neg (by decide)];refine Aa (Hc (Aa (m:=runValue (.call (.builtin "range.__reversed__") ⟨[.ref r],[]⟩)) (show Uy _ _ (call (.builtin "range.__reversed__") [.ref r]) _ _ _ from dP c b ?_)));first
 |exact Ag h
 |exact Aa (Ag (Ag h))
def G6{r:Ux}{n:Int}{t u v:Vp}{Q:Uw->Ae->Prop}(c: -(2 ^ 62)<=n/\n<2 ^ 62)(b:s.heap.get? r=ba {cls:=.type "range",data:=.fields #[.int 0 t,.int n u,.int 1 v]})(h:Q (.ref s.heap.objs.size) {s with heap:=s.heap.push {cls:=.type "range_iterator",data:=.fields #[rawInt ((n.toNat:Int)-1),rawInt (n.toNat:Int),rawInt (-1)]}}):Uy (Vb prog w) A (call (.type "reversed") [.ref r]) Q E s:=
 callType_other (U:= "range_iterator") (Q₁:=λobj a=>a.TypeIs obj "range_iterator" /\Q obj a) (by decide+kernel) Qp ⟨_,_,F.mro_reversed⟩ Ss P5 (Nr _) (G9 c b ⟨⟨_,Aj _ rfl,rfl⟩,h⟩) λ_ _ z=>z
end
def ItB(n:Nat):It:=⟨λi _=>i<n,λi H x H'=>H'=H/\x=.int ((n:Int)-1-i),λi _=>n<=i⟩
def jr{P:Aw}{w:Ve}{K:Ah}{tg:Vc}(it:Ux)(n:Nat):GY P w K tg (ItB n) [it] it (λi h=>Mh h it ((n:Int)-1+(i:Nat)*(-1)) ((n:Int)-(i:Nat)) (-1)) where
 mem:=by simp
 obj:=λi h st b a=>by
  have e:b=it:=by simpa using a
  subst e;exact⟨_,st,λv z=>by have z':Rz _=Data.cell v:=z;cases z'⟩
 keep:=λi h h' st k=>k it (by simp) _ st
 item:=by intro X g hw j hc i aa s σ H E I d st f;subst g hw j;obtain⟨p,f1,f2,f3,m,l⟩:=d it (by simp);refine(Uq (prog:=X.prog) (w:=X.w) (I.ok.hd hc) it ((n:Int)-1) (-1) n).item i s _ _ f st λv h' tk q c kk=>?_;obtain⟨t,rfl⟩:=q;have u:cF X aa σ H {s with heap:=h',toks:=tk}:=I.turned (λb o a e=>kk b o (by simpa using a) e) p f1 f3 m l;exact⟨_,rfl,AR (s:={s with heap:=h',toks:=tk}) (n:= "range_iterator") c rfl rfl (by decide) ⟨.int ((n:Int)-1-i),H,u,⟨t,by congr 1;lia⟩,⟨rfl,rfl⟩,c,λb a=>(d b a).1⟩⟩
 done:=by intro X g hw j hc i aa s σ H E I d st f;subst g hw j;obtain⟨p,f1,f2,f3,m,l⟩:=d it (by simp);exact Mx (I.ok.hd hc) st (by have:n<=i:=f;lia) λh' r=>⟨rfl,I.turned (t':=s.toks) (λb o a e=>r b o a e) p f1 f3 m l⟩
 self:=λ_ _ _ _ _ st h=>Jb st h
def SF:Bi "reversed"=ba (.type "reversed"):=by decide+kernel
section
variable{X:Cx}{K:Ah}{ml:List Nat}{a:Vc}{pa ta ia:Bool}{fa:VF}{pos db:Pos}{tg:Vc}
def kl(ta:TA):TI:=λσ H R=>ta σ H λvs H1=>∃j:Int,vs=[.int j]/\ -(2 ^ 62)<=j/\j<2 ^ 62/\R (ItB j.toNat) H1
def nJ{ta:TA}{p p2:Pos}(n:Gl X "range")(m:X.mg "range"=bb)(f:Gl X "reversed")(d:X.mg "reversed"=bb)(v:PA X [a] ta)(l:Uz [a] X.env=[(bd,eval a X.env)]:=by rfl)(c:Uz [.Call (.Name "range" p) [a] [] pos] X.env=[(bd,eval (.Call (.Name "range" p) [a] [] pos) X.env)]:=by rfl):PI X tg (.Call (.Name "reversed" p2) [.Call (.Name "range" p) [a] [] pos] [] db) (kl ta):=by
 intro aa s σ H R I h;refine Call_ (WR I f d SF (Cj ?_ c rfl));rw[c];refine Fe (Call_ (WR I n m Th (Cj (ZH (v pos aa s σ H _ I h) λz s1 ⟨vs,H1,y,k,q1⟩=>?_) l rfl)));obtain⟨j,e,q1,q2,q⟩:=q1;subst e;cases k with
 |cons r i=>
  cases i;obtain⟨t,rfl⟩:=r;refine Qs (Gh (G6 ⟨q1,q2⟩ (Aj _ rfl) (Jb (show Mh _ _ _ _ _ from Aj _ rfl) ?_)));have g:cF X aa σ H1 {s1 with heap:=s1.heap.push {cls:=.type "range",data:=.fields #[.int 0 s1.toks,.int j t,.int 1 (s1.toks+1)]},toks:=s1.toks+1+1}:=y.kept λb o e=>Ad _ e;refine⟨_,[_],_,_,H1,rfl,g.kept (t':=s1.toks+1+1) λb o e=>Ad _ e,jr _ j.toNat,?_,λb u=>?_,q⟩
  ·have x : ((j.toNat : Int)-1) + ((0 : Nat) : Int) * (-1) = (j.toNat : Int)-1 := by simp
   have w:(j.toNat:Int)-((0:Nat):Int)=(j.toNat:Int):=by simp
   show Mh _ _ (((j.toNat:Int)-1)+((0:Nat):Int)*(-1)) ((j.toNat:Int)-((0:Nat):Int)) (-1);rw[x,w];exact Aj _ rfl
  ·have e:=Ba.mp u
   subst e;exact g.fpOk (Am _) (g.hok.fresh (Am _))
def rngB(n:Nat):List cV:=(Au n).map λk:Nat=>.int ((n:Int)-1-k)
def iH{n:Nat}:Walk K (ItB n) [] (rngB n):=by intro N H _;refine⟨λi d e=>?_,by simp[ItB,rngB]⟩;unfold rngB at e;rw[Cg]at e;obtain⟨k,h1,e⟩:=Ao.mp e;cases e;obtain⟨hl,e⟩:=Ai.mp h1;rw[Hq]at hl;rw[Pc]at e;subst e;refine⟨hl,λx H' a=>?_⟩;obtain⟨rfl,rfl⟩:=a;exact⟨bF.refl _,.int _⟩
noncomputable def iRB(f:VF):VI:=λδ=>(f δ).bind λp=>match p.1 with
 |.int j=>if -4611686018427387904<=j/\j<4611686018427387904 then ba (rngB j.toNat,p.2)else bb
 |_=>bb
def lB{p' p2:Pos}(n:Gl X "range")(m:X.mg "range"=bb)(g:Gl X "reversed")(f:X.mg "reversed"=bb)(h:PE X a (TV K ml pa ta ia fa))(l:Uz [a] X.env=[(bd,eval a X.env)]:=by rfl)(e:SE X a []:=by rfl)(d:Uz [.Call (.Name "range" p') [a] [] pos] X.env=[(bd,eval (.Call (.Name "range" p') [a] [] pos) X.env)]:=by rfl):
  PI X tg (.Call (.Name "reversed" p2) [.Call (.Name "range" p') [a] [] pos] [] db) (EB K ml pa (iRB fa)):=(nJ n m g f (bN h aD e) l d).imp λσ H R ⟨B,O,δ,ds,δ',S,q,k⟩=>by
 unfold iRB at q;obtain⟨⟨x,δ1⟩,h1,q⟩:=Ac.mp q;cases x with
 |int j=>
  have q:(if -4611686018427387904<=j/\j<4611686018427387904 then ba (rngB j.toNat,δ1)else bb)=ba (ds,δ'):=q;split at q
  ·rename_i i
   cases q;have b:(2:Int) ^ 62=4611686018427387904:=by decide
   refine⟨B,O,δ,_,_,S,h1,λv H1 c=>⟨j,?_,by rw[b];exact i.1,by rw[b];exact i.2,k _ [] H1 (c.sta.keepV λ_ z=>nomatch z) c.frm c.pur iH⟩⟩;have r:=c.rep;cases r;rfl
  ·cases q
 |_=>cases q
end
def LamK(K:Ah)(b:Uw)(pos:Pos)(q:Va):Prop:=
 ∃(c P bm:Ux) (a:Vi),b=.ref c/\(∀h,K.In h->W.CodeHd h c P)/\tbIn K P=ba (.ctb pos q)/\Gs K Vd "__builtins__"=ba (ba (.ref bm))∧
  bm≠builtinsNs/\bm≠Vd/\bm≠P/\K.lookup bm=ba a/\a.cls=.type "module" /\a.dict=ba builtinsNs/\a.data=.plain
section
variable{X:Cx}{aa:List (Ux×Vi)}{σ:St}{H:Hp}{s:Ae}{params:Lv}{body:Vc}{scope:Vk}{pos:Pos}{am:List (Va×Ux)}
noncomputable abbrev E1(X:Cx)(params:Lv)(body:Vc)(scope:Vk)(am:List (Va×Ux))(c:Ux)(ct:Uw):Vi:=
 W.kla_obj "<lambda>" (X.env.qual++ "<lambda>") params body scope am ((X.mg "__name__").getD .none) c ct
def l4{E:Uw->Ae->Prop}{Q:Uw->Ae->Prop}(I:cF X aa σ H s)(L:LamK X.K X.env.code pos (X.env.qual++ "<lambda>"))(tb:CL X.K H)(hd:defaultsOf params X.env=([],[]))(C:closureFor scope X.env=pure am)(h:∀f c oc ct H' h' tk,cF X ((f,E1 X params body scope am c ct)::aa) σ H' {s with heap:=h',toks:=tk}->bF H H'->H' c=ba (.frz oc (.ext λ_=>True))->Vw oc (X.env.qual++ "<lambda>")->WK X aa H' f->Q (.ref f) {s with heap:=h',toks:=tk}):Uy (Vb X.prog X.w) X.A (eval (.Lambda params body scope pos) X.env) Q E s:=by
 obtain⟨c,P,bm,ob,e1,hC,e2,b1,b2,b3,b4,b5,b6,b7,b8⟩:=L;have M:=tb _ _ e2;obtain⟨ps,V,N,g3⟩:=(show Z7 X.prog X.w H s.heap P (.ctb pos _) from I.hok _ _ M);have J:s.heap.Ns Vd X.mg:=I.mod.glob.keeps I.bk;have CH:=hC _ I.kIn;have BA:s.heap.BuiltinsAt X.mg P:=⟨bm,ob,W.mg_of I.kIn J b1,b2,b3,b4,I.kIn _ _ b5,b6,b7,b8⟩;have T:Vd≠P:=λz=>by obtain⟨o,es,ep,ho,U,_⟩:=J;rw[z,V]at ho;cases ho;cases U
 have D:∀(a:Ux) (oc:Vi) (ct:Uw) (H':Hp) (h':Vg) (tk:Nat) (fo:Vi),fo=E1 X params body scope am a ct->cF X aa σ H' {s with heap:=h',toks:=tk}->bF H H'->H' a=ba (.frz oc (.ext λ_=>True))->Vw oc (X.env.qual++ "<lambda>")->
   Q (.ref h'.objs.size) {s with heap:=h'.push fo,toks:=tk}:=λa oc ct H' h' tk fo e Y sm hc k=>by
  subst e;have hf:H' h'.objs.size=bb:=Y.hok.fresh (Am _);have I2:cF X aa σ H' {s with heap:=h'.push (E1 X params body scope am a ct),toks:=tk}:=Y.kept (t':=tk) λb u q=>Ad _ q;have F:=Y.fpOk (b:=h'.objs.size) (Am _) hf;refine h _ a oc ct H' _ tk (I2.pins_of λp R=>?_) sm hc k F;rcases Ak.mp R with rfl|R
  ·exact⟨Aj _ rfl,hf,F.2.1,F.2.2.1,λv z=>nomatch z⟩
  ·exact I2.pin p (At _ R)
 refine W.kla_eval hd ?_;cases i:codeAmong pos ps.toList with
 |none=>
  refine W.kla_makeFunction C I.ok.glob J e1 CH V N i T BA λa ct h' tk G y hlt iq m=>?_;obtain⟨c₂,oc,vs,t,z,x,B,Z⟩:=iq;cases z;have fr:H a=bb:=I.hok.fresh y;have O:∀b u,H b=ba u->(∀pos q,u≠ .ctb pos q)->b≠P:=λb u q n z=>by rw[z,M]at q;cases q;exact n _ _ rfl
  have l:∀b,H b=bb->b≠P:=λb n z=>by rw[z,M]at n;cases n
  have S:SW X.prog X.w (upd H a (.frz oc (.ext λ_=>True))) h':=λb u q=>by
   by_cases hb:b=a
   ·subst hb
    rw[b9]at q;cases q;exact⟨x,trivial,⟨oc,x⟩,λ_ _ _ _=>trivial⟩
   ·rw[bV hb]at q
    by_cases g:b=P
    ·subst g
     rw[M]at q;cases q;refine⟨_,m,by rw[By];exact TriplesOk_snoc _ _ _ _ N,λcv gx=>?_⟩;rw[By]at gx;have q2:=(codeAmong_snoc (c:=.ref a) _ N i).symm.trans gx;cases q2;exact⟨a,oc,rfl,b9,vs,t,B,Z⟩
    ·refine (I.hok b u q).stay (λd v j r => G d v ?_ r) (λd r => by rw [bV (Z6 r fr)];exact r) λd o _ r => by rw [bV (Z6 r fr)];exact r
     rcases j with rfl|j
     ·exact g
     ·exact O _ _ j λ_ _ z=>nomatch z
  have un:Un X.fs [] H (upd H a (.frz oc (.ext λ_=>True))) s.heap h':=by
   refine⟨λb o e n _ _=>G b o (l b n) e,λb o e n _ _=>⟨o.slots,G b o (l b n) e⟩,λb o e n _=>?_,λb o e _=>?_,λb xs q=>?_,λb o u q=>?_,λb qs q=>⟨#[],?_⟩⟩
   ·rw[bV (Bb (Az (An e) y))];exact n
   ·by_cases g:b=P
    ·exact⟨_,g▸m⟩
    ·exact⟨o,G b o g e⟩
   ·rw[bV (Z6 q fr)];exact q
   ·rw[bV (Z6 q fr)];exact q
   ·rw[bV (Z6 q fr),q];simp
  exact D a oc ct _ h' tk _ rfl (I.un (t':=tk) un S) (λb u q=>by rw[bV (Z6 q fr)];exact q) b9 ⟨vs,t,B,Z⟩
 |some cv=>
  obtain⟨a,oc,z,hc,k⟩:=g3 cv i;subst z;refine W.kla_makeFunctionHit C I.ok.glob J e1 CH V N i BA λct h' tk hk hsz=>?_;exact D a oc ct _ h' tk _ rfl (I.kept (t':=tk) hk) (bF.refl _) hc k
end
structure Yq(X:Cx)(N':List Va)(ix:List Nat)(x:Va)(scope:Vk):Prop where
 kind:scope.kind=.function
 co:scope.isCoroutine=bd
 gen:scope.isGenerator=bd
 nocell:∀y∈scope.names,y.2≠ .cell
 par:scope.names.lookup x=ba .local
 len:N'.length=ix.length+1
 own:N'[ix.length]?=ba x
 free:∀y∈scope.names,y.2=.free->X.env.kindOf y.1=ba .cell∨X.env.kindOf y.1=ba .free
 cap:∀j,j<ix.length->N'[j]?=(ix[j]?).bind λi=>X.N[i]?
 capf:∀y∈N'.take ix.length,scope.names.lookup y=ba .free
noncomputable def EZ(X:Cx)(N':List Va)(scope:Vk)(am:List (Va×Ux))(f c:Ux)(s:Ae)(H:Hp):Cx where
 prog:=X.prog
 w:=X.w
 K:=X.K
 mg:=X.mg
 base:=X.base
 A:=X.A.deeper (W.envX (X.env.qual++ "<lambda>") scope s.heap.objs.size f (.ref c) am)
 N:=N'
 s₀:=s
 H₀:=H
 env:=W.envX (X.env.qual++ "<lambda>") scope s.heap.objs.size f (.ref c) am
 outer:=X.stack
 stack:=W.envX (X.env.qual++ "<lambda>") scope s.heap.objs.size f (.ref c) am::X.stack
 ex:=[]
 fn:=λ_=>bd
 calm:=bc
 pn:=[]
 xe:=λ_ _=>False
def HJ(ix:List Nat)(σ:St)(v:V):St:=(ix.map λi=>(σ[i]?).getD bb)++[ba v]
section
variable{X:Cx}{aa:List (Ux×Vi)}{σ:St}{H:Hp}{s:Ae}{params:Lv}{body:Vc}{scope:Vk}{pos:Pos}{am:List (Va×Ux)}{f c:Ux}{oc:Vi}{ct:Uw}{N':List Va}{ix:List Nat}{x:Va}{u:Uw}{v:V}{t:TE}{Q:VK}
def pD{E:Uw->Ae->Prop}(I:cF X ((f,E1 X params body scope am c ct)::aa) σ H s)(c7:X.calm=bc)(S:Yq X N' ix x scope)(D:∀x c,am.lookup x=ba c->X.env.cells.lookup x=ba c)(Z:∀x,(x,Bq)∈scope.names->∃c,am.lookup x=ba c)(hc:H c=ba (.frz oc (.ext λ_=>True)))(R:Vw oc (X.env.qual++ "<lambda>"))(hr:X.A.depth<Jt)(cx:∀(q:Va) (pm U ct:Uw),bindArgs (W.kla_fn "<lambda>" q params body scope am pm U ct) ⟨[u],[]⟩=pure [(x,u)])(rv:bE v u)(hb:PE (EZ X N' scope am f c s H) body t)(hq:t (HJ ix σ v) H Q):Uy (Vb X.prog X.w) X.A (call (.ref f) [u]) (EP X ((f,E1 X params body scope am c ct)::aa) σ Q) E s:=by
 have hf:=I.pin (f,E1 X params body scope am c ct) (At _ Ax);obtain⟨vs,tk,P,hv⟩:=R;have L:s.heap.get? c=ba oc:=(show Z7 X.prog X.w H s.heap c (.frz oc _) from I.hok c _ hc).1;refine Lx (W.kla_callFunE (fd:=W.kla_fn "<lambda>" (X.env.qual++ "<lambda>") params body scope am ((X.mg "__name__").getD .none) (.ref c) ct) hr hf.1 rfl S.co S.gen rfl ⟨c,oc,vs,tk,rfl,L,P,hv⟩ ?_);rw[cx];refine Ag (wpAny_newFunctionEnv S.nocell (λy d=>by rw[Ba.mp d];exact S.par) (λg M B=>⟨I.nolimit.fresh _ B,?_⟩) S.kind);have F:∀b o,s.heap.get? b=ba o->g.get? b=ba o:=λb o e=>B.extBut b o (Bb (An e)) (Ad _ e);have hL:H s.heap.objs.size=bb:=I.hok.fresh (Am _);have I1:cF (EZ X N' scope am f c s H) [] (HJ ix σ v) H {s with heap:=g,toks:=s.toks+1}:=by
  have j:∀b:Ux,b∉(EZ X N' scope am f c s H).ex:=λb z=>absurd (show b∈([]:List Ux) from z) (by simp);refine⟨⟨I.mod,S.kind,rfl,rfl,Am _,λy z c h1 h2=>I.ok.inj y z c (D _ _ h1) (D _ _ h2),λy d=>?_,λy c z _=>(nomatch z),λ_=>I.ok.hd c7,Nw I.ok.frames,.inr ⟨rfl,rfl⟩,λb z=>absurd z (j b),I.bs,Fc I.ok.bsz I.sz,λb _ _=>j b,λb z=>absurd z (j b),I.stack,I.stkFree⟩,rfl,I.bare,Un.kept F,⟨_,M,λi y w h1 h2 h3=>?_⟩,λy c h=>?_,hL,λy c h=>I.freeC y c (D _ _ h),λp hp=>absurd (show p∈([]:List (Ux×Vi)) from hp) (by simp),I.hok.kept F,?_⟩
  ·have d:scope.names.lookup y=ba .cell∨scope.names.lookup y=ba .free:=d
   rcases d with d|d
   ·exact absurd rfl (S.nocell _ (Bx d))
   ·exact Z y (Bx d)
  ·have h2:(HJ ix σ v)[i]? =ba (ba w):=h2
   have h1:N'[i]?=ba y:=h1;unfold HJ at h2;by_cases hi:i<ix.length
   ·rw [Ar (by simpa using hi),Cg]at h2
    have T:=S.cap i hi;rw[Bm hi]at h2 T;rw[T]at h1;have h1:X.N[ix[i]]?=ba y:=h1;have h2:σ[ix[i]]?=ba (ba w):=by
     cases q:σ[ix[i]]? with
     |none=>rw[Go,q]at h2;cases h2
     |some a=>rw[Go,q]at h2;cases h2;rfl
    have n:scope.names.lookup y=ba .free:=S.capf y (Ew (i:=i) (by rw[Cz hi,T];exact h1));have C:=S.free _ (Bx n) rfl;obtain⟨m,hn,hl⟩:=I.loc;obtain⟨u',r,l⟩:=hl (ix[i]) y w h1 h2 (.inr C);refine⟨u',r,?_⟩;rcases l with⟨k,_⟩|⟨_,c',e,z⟩
    ·have k:X.env.kindOf y=ba .local:=k
     rcases C with z|z<;>rw[k]at z<;>cases z
    ·obtain⟨c2,Y⟩:=Z y (Bx n)
     have V:=D _ _ Y;rw[e]at V;cases V;obtain⟨o,K,G⟩:=z;exact .inr ⟨.inr n,c',Y,o,F _ _ K,G⟩
   ·have O:i=ix.length:=by
     have:=(Ai.mp h1).1
     have:=S.len
     lia
    subst O;rw[S.own]at h1;cases h1;rw[Cd (by simp)]at h2;simp at h2;subst h2;exact⟨u,rv,.inl ⟨S.par,by simp⟩⟩
  ·obtain⟨w,o,K,G⟩:=I.cell y c (D _ _ h)
   exact⟨w,o,F _ _ K,G⟩
  ·unfold HJ
   show _=N'.length;rw[S.len];simp
 refine W.kla_codeExpr (Bj (hb [] _ _ H Q I1 hq) (λr s' hs=>?_) λe s' z=>z.elim);obtain⟨w,H',J,r1,q⟩:=hs;exact⟨w,H',I.call' (ch:=[]) J.os J.base J.hok J.bare λb z=>absurd z (by simp),r1,q⟩
end
abbrev Cx.in1(X:Cx):Cx:={X with A:=X.A.in1}
section
variable{X:Cx}{aa:List (Ux×Vi)}{σ:St}{H:Hp}{s:Ae}
def cF.in1(I:cF X aa σ H s):cF X.in1 aa σ H s:=
 ⟨⟨I.ok.mod,I.ok.kind,I.ok.glob,I.ok.blt,I.ok.above,I.ok.inj,I.ok.has,I.ok.cab,I.ok.hd,I.ok.frames,I.ok.stk,I.ok.exf,I.ok.bs,I.ok.bsz,I.ok.noex,I.ok.exfs,I.ok.funs,I.ok.frf⟩,I.os,I.bare,I.base,I.loc,I.cell,I.free,I.freeC,I.pin,I.hok,I.len⟩
def cF.out1(I:cF X.in1 aa σ H s)(a:X.calm=bc->X.A.handled=bb)(fr:X.A.frames=ba X.stack):cF X aa σ H s:=
 ⟨⟨I.ok.mod,I.ok.kind,I.ok.glob,I.ok.blt,I.ok.above,I.ok.inj,I.ok.has,I.ok.cab,a,fr,I.ok.stk,I.ok.exf,I.ok.bs,I.ok.bsz,I.ok.noex,I.ok.exfs,I.ok.funs,I.ok.frf⟩,I.os,I.bare,I.base,I.loc,I.cell,I.free,I.freeC,I.pin,I.hok,I.len⟩
noncomputable def LP:Nat->cV->List cV->Nat->Option Nat
 |b,_,[],_=>ba b
 |b,.int i,.int j::r,n=>if j<i then LP n (.int j) r (n+1)else LP b (.int i) r (n+1)
 |_,_,_::_,_=>bb
def pF{b n bi:Nat}{c a:cV}{r:List cV}(h:LP b c (a::r) n=ba bi):∃i j,c=.int i/\a=.int j/\(if j<i then LP n (.int j) r (n+1)else LP b (.int i) r (n+1))=ba bi:=by
 unfold LP at h;split at h
 ·rename_i e;cases e
 ·rename_i e;cases e;exact⟨_,_,rfl,rfl,h⟩
 ·cases h
def KeyC(X:Cx)(σ:St)(fo:Ux×Vi)(H0:Hp)(xs:List V)(ks:List cV):Prop:=∀(j:Nat) (x:V) (u:Uw) (aa:List (Ux×Vi)) (H:Hp) (s:Ae),xs[j]?=ba x->bE x u->cF X (fo::aa) σ H s->bF H0 H->
 Uy (Vb X.prog X.w) X.A (call (.ref fo.1) [u]) (λb s'=>∃a H',cF X (fo::aa) σ H' s'/\bF H H'/\bE a b/\∀i,ks[j]?=ba (.int i)->a=.int i) (λ_ _=>False) s
variable{E:Uw->Ae->Prop}{fo:Ux×Vi}{xs:List V}{ks:List cV}{H0:Hp}{l I S:Ux}
def MinE(E:Uw->Ae->Prop)(X:Cx)(σ:St)(fo:Ux×Vi)(aa:List (Ux×Vi))(H0:Hp)(xs:List V)(bi:Nat):Ui->Ae->Prop
 |.ok (.ret u),s'=>∃v H',xs[bi]?=ba v/\bE v u/\bF H0 H'/\cF X (fo::aa) σ H' s'
 |.ok _,_=>False
 |.error e,s'=>E e s'
def AM{b:Ux}{H':Hp}(f:WK X aa H b)(h:H' b=bb):WK X aa H' b:=⟨h,f.2⟩
def A3(D:KeyC X.in1 σ fo H0 xs ks){j:Nat}{x:V}{u:Uw}{oI b:Vi}{P:Uw->Ae->Prop}(t:xs[j]?=ba x)(n:bE x u)(J:cF X.in1 (fo::aa) σ H s)(l:bF H0 H)(f:WK X (fo::aa) H I)(e:WK X (fo::aa) H S)(C:s.heap.get? I=ba oI)(B:s.heap.get? S=ba b)(r:∀v,oI.data≠ .cell v)(q:∀v,b.data≠ .cell v)(h:∀d s' c H',cF X.in1 (fo::aa) σ H' s'->bF H0 H'->bE c d->(∀i,ks[j]?=ba (.int i)->c=.int i)->WK X (fo::aa) H' I->WK X (fo::aa) H' S->s'.heap.get? I=ba oI->s'.heap.get? S=ba b->P d s'):Uy (Vb X.prog X.w) X.A.in1 (call (.ref fo.1) [u]) P E s:=by
 have F:cF X.in1 (fo::(I,oI)::(S,b)::aa) σ H s:=J.pins_of λp a=>by
  rcases Ak.mp a with rfl|a
  ·exact J.pin p (At _ Ax)
  rcases Ak.mp a with rfl|a
  ·exact⟨C,f.1,f.2.1,f.2.2.1,r⟩
  rcases Ak.mp a with rfl|a
  ·exact⟨B,e.1,e.2.1,e.2.2.1,q⟩
  ·exact J.pin p (At _ (Ap _ a))
 refine Bj (D j x u _ H s t n F l) (λd s' y=>?_) λ_ _ z=>z.elim;obtain⟨c,H',g,k,o,hi⟩:=y;have m:=g.pin (I,oI) (At _ (by simp));have p2:=g.pin (S,b) (At _ (by simp));refine h d s' c H' (g.pins_of λp a=>g.pin p (At _ ?_)) (l.trans k) o hi (AM f m.2.1) (AM e p2.2.1) m.1 p2.1;rcases Ak.mp a with rfl|a
 ·exact Ax
 ·exact Ap _ (Ap _ (Ap _ a))
def gT(c7:X.calm=bc)(hd:X.calm=bc->X.A.handled=bb)(hfr:X.A.frames=ba X.stack)(KC:KeyC X.in1 σ fo H0 xs ks)(hl:X8 X.K H0 l xs)(T:ks.length=xs.length)(D:S≠I):∀(r j b:Nat) (H:Hp) (s:Ae) (O kb:Uw) (M:V) (c:Nat) (kd:cV) (bi:Nat),xs.length-j=r->j<=xs.length->bF H0 H->cF X.in1 (fo::aa) σ H s->WK X (fo::aa) H I->WK X (fo::aa) H S->s.heap.get? S=ba {cls:=.type "list",dict:=bb,data:=.seq #[O,kb] c}->s.heap.IsListIter I l j->xs[b]?=ba M->bE M O->(∀i,kd=.int i->∃t,kb=.int i t)->LP b kd (ks.drop j) j=ba bi->Hg (Vb X.prog X.w) X.A (.builtin "min.loop" ⟨[.ref I,.ref fo.1,.ref S],[]⟩) (MinE E X σ fo aa H0 xs bi) s:=by
 have cu:(toString "min" ++toString ".loop":String)= "min.loop":=by decide
 intro r;induction r with
 |zero=>
  intro j b H s O kb M c kd bi hr hj R J k F Y C m rb U f;have g:j=xs.length:=by lia
  obtain⟨its,rv,p,hz⟩:=J.list (R.seq hl);rw[List.drop_eq_nil_of_le (by lia)]at f;have f:ba b=ba bi:=by unfold LP at f;exact f
  cases f;refine Fq Jf ?_;rw[Ex Ec _];show Uy _ X.A.in1 (Pd (.ref S)>>=_) _ _ _;refine Aa (Ee Y rfl ?_);show Uy _ X.A.in1 (tryCatch (pyNext (.ref I)) _>>=_) _ _ _;refine Aa (He ?_);refine Jw (hd c7) C p.isList (by have:=rv.length;simp;lia) λh' eb=>?_;have J1:cF X.in1 (fo::aa) σ H {s with heap:=h'}:=J.turned (t':=s.toks) (λb o m e=>eb b o m e) k.1 k.2.1 k.2.2.2.1 k.2.2.2.2.1 k.2.2.2.2.2;have L:=eb S _ D Y;show Uy _ X.A.in1 (updateSeq S (λ_=> #[])>>=_) _ _ _;refine Aa ?_;refine Kw L rfl (Aa (Jo (Ag ?_)));have sb:=Gz h' S (Dt λ_=>(#[]:Array Uw));have J2:cF X.in1 (fo::aa) σ H {s with heap:=h'.update S (Dt λ_=>(#[]:Array Uw))}:=J1.turned (t':=s.toks) (λb o m e=>(sb.2 b m).trans e) F.1 F.2.1 F.2.2.2.1 F.2.2.2.2.1 F.2.2.2.2.2;exact⟨M,H,m,rb,R,J2.out1 hd hfr⟩
 |succ r ih=>
  intro j b H s O kb M c kd bi hr hj R J k F Y C m rb U f;have g:j<xs.length:=by lia
  obtain⟨its,rv,p,hz⟩:=J.list (R.seq hl);have hx:xs[j]?=ba xs[j]:=Bm g;obtain⟨u,hu,ru⟩:=rv.get hx;rw[Dn (by rw[T];exact g)]at f;obtain⟨B,a,rfl,hkj,f⟩:=pF f;obtain⟨tb,rfl⟩:=U B rfl;have j7:ks[j]?=ba (.int a):=by rw[Bm (by rw[T];exact g),hkj]
  refine Fq Jf ?_;rw[Ex Ec _];show Uy _ X.A.in1 (Pd (.ref S)>>=_) _ _ _;refine Aa (Ee Y rfl ?_);show Uy _ X.A.in1 (tryCatch (pyNext (.ref I)) _>>=_) _ _ _;refine Aa (He ?_);refine Hf C p.isList (x:=u) (by simpa using hu) λh' st' sb=>?_;have J1:cF X.in1 (fo::aa) σ H {s with heap:=h'}:=J.turned (t':=s.toks) (λb o m e=>(sb.2 b m).trans e) k.1 k.2.1 k.2.2.2.1 k.2.2.2.2.1 k.2.2.2.2.2;have L:=(sb.2 S D).trans Y;obtain⟨oI,e1,e2,e3⟩:=id st';show Uy _ X.A.in1 (tryCatch (Px [u] (call (.ref fo.1) [u])) _>>=_) _ _ _;refine Aa (He (Bv (A3 KC hx ru J1 R k F e1 L (λv z=>by rw[e3]at z;cases z) (λv z=>nomatch z) λku N kv H2 J2 Q rk hki W d Z G=>?_)));have ek:=hki a j7;subst ek;obtain⟨q,rfl⟩:=rk;have j9:N.heap.IsListIter I l (j+1):=⟨oI,Z,e2,e3⟩;show Uy _ X.A.in1 (tryCatch (Px [u,.int a q] (richCompare .Lt (.int a q) (.int B tb)>>=_)) _>>=_) _ _ _;refine Aa (He (Bv (Aa (CmpOf.ints_lt (prog:=X.prog) (w:=X.w) (A:=X.A.in1) (P:=λn v=>∃t,v=.int (if n=0 then a else B) t) (λn=>if n=0 then a else B) (λ_ _ h=>h) 0 1 _ _ _ _ _ ⟨q,rfl⟩ ⟨tb,rfl⟩ ?_))));refine Aa (Bv (Ej ?_));refine Aa (Jo (Ag ?_));show Uy _ X.A.in1 (if decide (a<B)=bc then _ else _) _ _ _;by_cases y:a<B
  ·rw[if_pos y]at f
   rw[if_pos (by simpa using y)];have s1:=Gz N.heap S (Dt λ_=> #[u,.int a q]);refine Aa ?_;refine Kw G rfl (Aa (Jo ?_));rw[cu];obtain⟨c2,hc2⟩:∃c2,(N.heap.update S (Dt λ_=> #[u,.int a q])).get? S=ba {cls:=.type "list",dict:=bb,data:=.seq #[u,.int a q] c2}:=⟨_,Nq G λ_=> #[u,.int a q]⟩;have J3:cF X.in1 (fo::aa) σ H2 {N with heap:=N.heap.update S (Dt λ_=> #[u,.int a q])}:=J2.turned (t':=N.toks) (λb o m e=>(s1.2 b m).trans e) d.1 d.2.1 d.2.2.2.1 d.2.2.2.2.1 d.2.2.2.2.2;exact Ag ⟨Ha Ec _,ih (j+1) j H2 _ u (.int a q) xs[j] c2 (.int a) bi (by lia) g Q J3 W d hc2 ⟨oI,(s1.2 I (Ea D)).trans Z,e2,e3⟩ hx ru (λi z=>by cases z;exact⟨q,rfl⟩) f⟩
  ·rw[if_neg y]at f
   rw[if_neg (by simpa using y)];refine Aa (Jo ?_);rw[cu];exact Ag ⟨Ha Ec _,ih (j+1) b H2 _ O (.int B tb) M c (.int B) bi (by lia) g Q J2 W d G j9 m rb (λi z=>by cases z;exact⟨tb,rfl⟩) f⟩
def mW{bi:Nat}{k0:cV}{C:List cV}(J:cF X (fo::aa) σ H s)(c7:X.calm=bc)(hl:X8 X.K H l xs)(KC:KeyC X.in1 σ fo H xs (k0::C))(k:(k0::C).length=xs.length)(hm:LP 0 k0 C 1=ba bi):Uy (Vb X.prog X.w) X.A (call (.builtin "min") [.ref l] [(Bf "key",.ref fo.1)]) (λu s'=>MinE E X σ fo aa H xs bi (.ok (.ret u)) s') E s:=by
 have cu:(toString "min" ++toString ".loop":String)= "min.loop":=by decide
 obtain⟨its,rv,p,hz⟩:=J.list hl;have Z:0<xs.length:=by rw[<-k];simp
 have n:xs[0]?=ba xs[0]:=Bm Z;obtain⟨u,hu,ru⟩:=rv.get n;refine kmk_tree PySem.F.kind_min PySem.F.plain_min PySem.F.entry_min (kmk_min_key _ _) ?_;show Uy _ X.A.in1 (Ky "min" ["key","default"] 0 ⟨[],[(Bf "key",.ref fo.1)]⟩>>=_) _ _ s;refine Aa (Es (show Ky "min" ["key","default"] 0 ⟨[],[(Bf "key",.ref fo.1)]⟩=pure [ba (.ref fo.1),bb] from rfl) ?_);refine Aa (Ag ?_);refine Aa (Fo p.isList ?_);have U:cF X.in1 (fo::aa) σ H {s with heap:=s.heap.push {cls:=.type "list_iterator",data:=.fields #[.ref l,.int 0 0]}}:=J.in1.kept (t':=s.toks) λb o e=>Ad _ e;have g:WK X (fo::aa) H s.heap.objs.size:=J.fpOk (Am _) (J.hok.fresh (Am _));refine Aa (Pp ?_ (Df _));rw[cu];have T:cF X.in1 (fo::aa) σ H {s with heap:=(s.heap.push {cls:=.type "list_iterator",data:=.fields #[.ref l,.int 0 0]}).push {cls:=.type "list",data:=.seq ([]:List Uw).toArray}}:=U.kept (t':=s.toks) λb o e=>Ad _ e;have Y:WK X (fo::aa) H (s.heap.push {cls:=.type "list_iterator",data:=.fields #[.ref l,.int 0 0]}).objs.size:=U.fpOk (Am _) (U.hok.fresh (Am _));have c:(s.heap.push {cls:=.type "list_iterator",data:=.fields #[.ref l,.int 0 0]}).objs.size≠s.heap.objs.size:=by rw[Ef];exact Rh _
 have Q:((s.heap.push {cls:=.type "list_iterator",data:=.fields #[.ref l,.int 0 0]}).push {cls:=.type "list",data:=.seq ([]:List Uw).toArray}).get? s.heap.objs.size=ba {cls:=.type "list_iterator",data:=.fields #[.ref l,.int 0 0]}:=
  Ad _ (Aj _ rfl)
 have q:((s.heap.push {cls:=.type "list_iterator",data:=.fields #[.ref l,.int 0 0]}).push {cls:=.type "list",data:=.seq ([]:List Uw).toArray}).get? (s.heap.push {cls:=.type "list_iterator",data:=.fields #[.ref l,.int 0 0]}).objs.size=ba {cls:=.type "list",data:=.seq ([]:List Uw).toArray}:=Aj _ rfl;refine Ag ⟨Ha Ec _,?_⟩;generalize (s.heap.push {cls:=.type "list_iterator",data:=.fields #[.ref l,.int 0 0]}).push {cls:=.type "list",data:=.seq ([]:List Uw).toArray}=hp at T Q q⊢;generalize (s.heap.push {cls:=.type "list_iterator",data:=.fields #[.ref l,.int 0 0]}).objs.size=S at Y c q⊢;generalize s.heap.objs.size=I at g c Q⊢;obtain⟨cj,B,p2,hz2⟩:=T.list hl;obtain⟨d,D,j⟩:=B.get n;refine Fq Jf ?_;rw[Ex Ec _];show Uy _ X.A.in1 (Pd (.ref S)>>=_) _ _ _;refine Aa (Ee q rfl ?_);show Uy _ X.A.in1 (tryCatch (pyNext (.ref I)) _>>=_) _ _ _;refine Aa (He ?_);refine Hf (i:=0) ⟨_,Q,rfl,rfl⟩ p2.isList (x:=d) (by simpa using D) λh' t V=>?_;have J3:cF X.in1 (fo::aa) σ H {s with heap:=h'}:=T.turned (t':=s.toks) (λb o M e=>(V.2 b M).trans e) g.1 g.2.1 g.2.2.2.1 g.2.2.2.2.1 g.2.2.2.2.2;have O:=(V.2 S c).trans q;obtain⟨oI,e1,e2,e3⟩:=id t;show Uy _ X.A.in1 (tryCatch (Px [d] (call (.ref fo.1) [d])) _>>=_) _ _ _;refine Aa (He (Bv (A3 KC n j J3 (bF.refl _) g Y e1 O (λv z=>by rw[e3]at z;cases z) (λv z=>nomatch z) λf h kv H2 J4 y rk G N a P m=>?_)));have s1:=Gz h.heap S (Dt λ_=> #[d,f]);show Uy _ X.A.in1 (updateSeq S (λ_=> #[d,f])>>=_) _ _ _;refine Aa ?_;refine Kw m rfl ?_;rw[cu];obtain⟨R,L⟩:∃R,(h.heap.update S (Dt λ_=> #[d,f])).get? S=ba {cls:=.type "list",dict:=bb,data:=.seq #[d,f] R}:=⟨_,Nq m λ_=> #[d,f]⟩;have J5:cF X.in1 (fo::aa) σ H2 {h with heap:=h.heap.update S (Dt λ_=> #[d,f])}:=J4.turned (t':=h.toks) (λb o M e=>(s1.2 b M).trans e) a.1 a.2.1 a.2.2.2.1 a.2.2.2.2.1 a.2.2.2.2.2;refine Ag ⟨Ha Ec _,Gr (gT (E:=E) c7 J.ok.hd J.ok.frames KC hl k c _ 1 0 H2 _ d f xs[0] R k0 bi rfl Z y J5 N a L ⟨oI,(s1.2 I (Ea c)).trans P,e2,e3⟩ n j (λi z=>?_) (by simpa using hm)) λr s' W=>?_⟩
 ·have := G i (by simp [z])
  subst this;exact rk
 ·cases r with
  |error e=>exact W
  |ok fl=>cases fl<;>exact W
end
noncomputable def CU(ix:List Nat)(δ:Ev):Ev:=ix.map λi=>match(δ[i]? :Option Sl)with
 |some (.va d)=>Sl.va d
 |_=>Sl.no
noncomputable def AZ(f:cV->Option cV):List cV->Option (List cV)
 |[]=>ba []
 |d::r=>(f d).bind λk=>(AZ f r).map λks=>k::ks
theorem J7{f:cV->Option cV}:∀{ds ks:List cV},AZ f ds=ba ks->ks.length=ds.length/\∀(j:Nat) (d:cV),ds[j]?=ba d->∃k,f d=ba k/\ks[j]?=ba k
 |[],ks,h=>by cases h;exact⟨rfl,λj d e=>by simp at e⟩
 | d :: r,ks,h => by
  unfold AZ at h;obtain⟨k,h1,h⟩:=Ac.mp h;obtain⟨i,h2,h⟩:=Ao.mp h;cases h;obtain⟨l,g⟩:=J7 h2;refine⟨by simp[l],λj e a=>?_⟩;cases j with
  |zero=>cases a;exact⟨k,h1,rfl⟩
  |succ j=>
   obtain⟨k',c,b⟩:=g j e (by simpa using a);exact⟨k',c,by simpa using b⟩
def Yw(ds:List cV):List cV->Option cV
 |k0::a=>(LP 0 k0 a 1).bind λb=>ds[b]?
 |[]=>bb
def EN(ix:List Nat)(fa g:VF):VF:=λδ=>(fa δ).bind λp=>match p.1 with
 |.lst ds=>(AZ (λd=>(g (CU ix p.2++[.va d])).map Dk) ds).bind λks=>(Yw ds ks).map λd=>(d,p.2)
 |_=>bb
section
variable{K:Ah}{ml:List Nat}{B:Bs}{O:Nat->Option Ux}{H:Hp}{σ:St}{δ:Ev}{v:V}{d:cV}
def kI(ix:List Nat)(S:aR K ml B O H σ δ)(h:bC K (Nn B O) H (Nn B O) v d):aR K [] ⟨Nn B O,λ_=>False,H,λ_=>bb,[]⟩ (λ_=>bb) H (HJ ix σ v) (CU ix δ++[.va d]):=by
 have c:∀a,Nn ⟨Nn B O,λ_=>False,H,λ_=>bb,[]⟩ (λ_=>bb) a->Nn B O a:=λa z=>by
  rcases z with z|⟨_,z⟩
  ·exact z
  ·cases z
 have get:∀(i:Nat) (s:Sl),(CU ix δ++[.va d])[i]?=ba s->(∃(j:Nat) (e:cV),i<ix.length/\ix[i]?=ba j/\s=.va e/\δ[j]?=ba (.va e))∨s=.no∨(i=ix.length/\s=.va d):=λi s e=>by
  have hl:(CU ix δ).length=ix.length:=by unfold CU;simp
  by_cases hi:i<ix.length
  ·rw [Ar (by rw [hl];exact hi)]at e
   unfold CU at e;rw[Cg,Bm hi]at e;cases q:δ[ix[i]]? with
   |none=>
    simp only[Go,q]at e;cases e;exact .inr (.inl rfl)
   |some k=>
    simp only[Go,q]at e;cases k with
    |va x=>cases e;exact .inl ⟨ix[i],x,hi,Bm hi,rfl,q⟩
    |no=>cases e;exact .inr (.inl rfl)
    |ow x=>cases e;exact .inr (.inl rfl)
  ·rw [Cd (by rw [hl];lia),hl]at e
   have:i-ix.length=0:=by
    have:=(Ai.mp e).1
    simp at this;lia
   rw[this]at e;cases e;exact .inr (.inr ⟨by lia,rfl⟩)
 refine⟨by unfold HJ CU;simp,λi e q=>?_,λi e q=>?_,λi a z=>(nomatch z),λi j a z=>(nomatch z),λi a z=>(nomatch z),λa z=>S.nin z,Fr.refl _ _,⟨⟨λi a z=>(nomatch z),S.tbs⟩,λi hi=>(nomatch hi)⟩,λa z=>z.elim,λp l=>(nomatch l)⟩
 ·rcases get i _ q with⟨j,x,hi,f,b,g⟩|z|⟨z,b⟩
  ·cases b
   obtain⟨u,m,r⟩:=S.va j _ g;refine⟨u,?_,r.mono c c⟩;unfold HJ;rw[Ar (by simpa using hi),Cg,f,Go,m];rfl
  ·cases z
  ·cases b
   refine⟨v,?_,h.mono c c⟩;unfold HJ;rw[z,Cd (by simp)];simp
 ·rcases get i _ q with⟨j,x,hi,f,b,g⟩|z|⟨z,b⟩
  ·cases b
  ·cases z
  ·cases b
end
def ZZ.lam{k:Nat}{X:Cx}(r:ZZ (k+2) X.A){N':List Va}{scope:Vk}{am:List (Va×Ux)}{f c:Ux}{s:Ae}{H:Hp}:ZZ k (EZ X.in1 N' scope am f c s H).A:=r.in1.deeper _
def We(N N':List Va)(ix:List Nat)(x:Va)(a:Vk)(k:Va->Option Vm):Bool:=
 T5 N N' ix a.names k&&(a.kind== .function&&(a.isCoroutine==bd&&(a.isGenerator==bd&&(a.names.all (λy=>y.2 != .cell)&&(a.names.lookup x==ba .local&&(N'.length==ix.length+1&&N'[ix.length]? ==ba x))))))
def jU{X:Cx}{N':List Va}{ix:List Nat}{x:Va}{scope:Vk}(h:We X.N N' ix x scope X.env.kindOf=bc):Yq X N' ix x scope:=by unfold We at h;simp only[Af,Fy,bne_iff_ne,beq_iff_eq]at h;obtain⟨f,h1,h2,e,d,c,b,a⟩:=h;have S:=YZ h1 f;exact⟨h1,h2,e,d,c,b,a,S.free,S.cap,S.capf⟩
def oO:Bi "min"=ba (.builtin "min"):=by decide+kernel
section
variable{X:Cx}{K:Ah}{ml:List Nat}{a body:Vc}{params:Lv}{scope:Vk}{pa ta pb tb ib:Bool}{fa g:VF}{pos p ax di:Pos}{x:Va}{N':List Va}{ix:List Nat}{kk:Nat}
def CC(c7:X.calm=bc)(hK:X.K=K)(hg:Gl X "min")(hm:X.mg "min"=bb)(hr:ZZ (kk+2) X.A)(L:LamK K X.env.code di (X.env.qual++ "<lambda>"))(ha:PE X a (TV K ml pa ta bc fa))(hb:∀am f c s H,PE (EZ X.in1 N' scope am f c s H) body (TV K [] pb tb ib g))(hS:We X.N N' ix x scope X.env.kindOf=bc:=by rfl)(hd:defaultsOf params X.env=([],[]):=by rfl)(cx:∀(q:Va) (V w ct:Uw) (cl:List (Va×Ux)) (u:Uw),bindArgs (W.kla_fn "<lambda>" q params body scope cl V w ct) ⟨[u],[]⟩=pure [(x,u)]:=by intros;rfl)(he:SE X a []:=by rfl)(he2:Em pos (Uz [a] X.env)=(bd,eval a X.env)::Em pos (Uz [] X.env):=by rfl)(he3:(Em pos (Uz [a] X.env)).any (·.1)=bd:=by rfl):PE X (.Call (.Name "min" p) [a] [⟨ba "key",.Lambda params body scope di,ax⟩] pos) (TV K ml pa bc bc (EN ix fa g)):=by
 subst hK;have S:=jU hS;intro aa s σ H Q I h;obtain⟨B,O,δ,d,δ',S0,q,k⟩:=h;unfold EN at q;obtain⟨⟨dl,δ1⟩,h1,q⟩:=Ac.mp q;dsimp only at q;split at q
 case h_2=>cases q
 rename_i ds;obtain⟨ks,h2,q⟩:=Ac.mp q;obtain⟨d',C,q⟩:=Ao.mp q;cases q;obtain⟨hks,fm⟩:=J7 h2;unfold Yw at C;split at C
 case h_2=>cases C
 rename_i k0 kr;obtain⟨bi,hm1,C⟩:=Ac.mp C;refine Ds (WR I hg hm oO ?_ (by decide) (by decide));refine PyProof.Rows.callWith_kw (ZH (bN ha aD he pos aa s σ H (λvs H1=>∃o,vs=[o]/\Res X.K ml B O H σ pa ta bc H1 δ' o (.lst ds)) I ⟨B,O,δ,.lst ds,δ',S0,h1,λo H1 m=>⟨o,rfl,m⟩⟩) λus s1 hs=>?_) he2 he3 rfl rfl;obtain⟨vs,H1,I1,r1,o,rfl,m⟩:=hs;obtain⟨F,rfl,U⟩:∃F,us=[F]/\bE o F:=by
  cases r1 with
  |cons r t=>cases t;exact⟨_,rfl,r⟩
 obtain⟨l,xs,rfl,hl,hx⟩:∃l xs,o=.ref l/\X8 X.K H1 l xs/\bZ X.K (Nn B O) H1 xs ds:=by
  cases m.rep.onL with
  |lst e n r=>exact⟨_,_,rfl,X8.of e,r⟩
  |fzl e r=>exact⟨_,_,rfl,e.sq,r⟩
 obtain rfl:F=.ref l:=U;obtain⟨am,hcl,bn,d7⟩:=G8 (env:=X.env) (scope:=scope) λy Z hf=>I.ok.has y.1 (S.free y Z hf);refine Oz (Aa (l4 I1 L m.sta.tbs hd hcl λf c oc ct H2 h2' tk J2 T hc hco hf=>Aa (Fm (Ag (Qa ?_)))));have hxl:=hx.length;have KC:KeyC X.in1 σ (f,E1 X params body scope am c ct) H2 xs (k0::kr):=λj y u dh H3 s3 Z ru J3 b=>by
  obtain⟨dj,J,rj⟩:=hx.getV Z;obtain⟨kj,e2,e3⟩:=fm j dj J;obtain⟨⟨Y,δ2⟩,e4,e5⟩:=Ao.mp e2;cases e5;have D:bF H1 H3:=T.trans b;refine Bj (pD (X:=X.in1) (Q:=λG M=>bF H3 M/\∀i,(k0::kr)[j]?=ba (.int i)->G=.int i) J3 c7 ⟨S.kind,S.co,S.gen,S.nocell,S.par,S.len,S.own,S.free,S.cap,S.capf⟩ bn d7 (b _ _ hc) hco hr.in1.depth (λq V w ct=>cx q V w ct _ _) ru (hb am f c s3 H3)
   ⟨_,_,_,Y,δ2,kI ix (m.sta.same D) (rj.same D),e4,λG M R4=>⟨R4.sta.frm.same,λi ei=>?_⟩⟩) (λku s4 hk=>?_) λ_ _ z=>z
  ·rw[e3]at ei
   cases ei;exact R4.rep.onI
  ·obtain⟨G,M,J4,rk,P,hi⟩:=hk
   exact⟨G,M,J4,P,rk,hi⟩
 refine Bj (mW (fo:=(f,E1 X params body scope am c ct)) (E:=X.xe) J2 c7 (T.seq hl) KC (by rw[hks,hxl]) hm1) (λu s' hr=>?_) λ_ _ z=>z;obtain⟨v,H',hv,rv,R,J'⟩:=hr;obtain⟨d2,J,r2⟩:=hx.getV hv;rw[C]at J;cases J;have b:=T.trans R;exact⟨v,H',J'.pins_of λp hp=>J'.pin p (At _ (Ap _ hp)),rv,k v H' ⟨m.sta.same b,m.frm.trans b.fr,λz=>(m.pur z).trans b,r2.same b⟩⟩
end
def FS:Manifest.owners.lookup (String.ofList ['d','e','s','r','e','v','e','r'].reverse)=ba Manifest.sig_reversed:=by kernel_rfl
def IH:Slot "reversed" "__next__" "reversed.__next__":=
 .of (owner:= "reversed") (n:= "__next__") (by rw[Iz,Gb];kernel_rfl) (by decide+kernel) (by decide+kernel) (by decide+kernel)
  (by first|exact .inl (by decide+kernel)|exact .inr (by decide+kernel)) (by rw[Ju];kernel_rfl)
def LS:entryFor table "reversed.__next__"=ba Fi.«reversed.__next__» :=entryFor_of_tree (by kernel_rfl)
def IG(a:Uw):argsOk "reversed.__next__" ⟨[a],[]⟩:=by unfold argsOk;rw[signature?_of (id:= "reversed.__next__") (n:=['_','_','t','x','e','n','_','_']) (o:=['d','e','s','r','e','v','e','r']) (by kernel_rfl) FS];kernel_rfl
def B0:Slot "reversed" "__iter__" "reversed.__iter__":=
 .of (owner:= "reversed") (n:= "__iter__") (by rw[Iz,Gb];kernel_rfl) (by decide+kernel) (by decide+kernel) (by decide+kernel)
  (by first|exact .inl (by decide+kernel)|exact .inr (by decide+kernel)) (by rw[Ju];kernel_rfl)
def IF(a:Uw):argsOk "reversed.__iter__" ⟨[a],[]⟩:=by unfold argsOk;rw[signature?_of (id:= "reversed.__iter__") (n:=['_','_','r','e','t','i','_','_']) (o:=['d','e','s','r','e','v','e','r']) (by kernel_rfl) FS];kernel_rfl
def LR:entryFor table "reversed.__iter__"=ba Fi.«dict_keyiterator.__iter__» :=
 entryFor_alias (id':= "dict_keyiterator.__iter__") (by kernel_rfl) (by first|rfl|decide+kernel|(unfold String.splitOn;simp+decide [String.splitOnAux])) (by decide+kernel) (by kernel_rfl)
def oA:typeLookup (.type "tuple") "__reversed__"=pure bb:=by rw[Iz,Gb];kernel_rfl
def dX:typeLookup (.type "tuple") "__getitem__"=pure (ba (.builtin "tuple.__getitem__")):=by rw[Iz,Gb];kernel_rfl
def kO:isSubtype (.type "tuple") (.type "dict")=pure bd:=by rw[Ju];kernel_rfl
noncomputable def KW(a:Ux):Vi:={cls:=.type "reversed",data:=.fields #[.ref a,rawInt (-1)]}
section
variable{prog:Aw}{w:Ve}{A:Bw}{E:Uw->Ae->Prop}{s:Ae}
def jw{a:Ux}{Q:Uw->Ae->Prop}(c:IsTup s.heap a #[])(h:∀tk,Q (.ref s.heap.objs.size) {s with heap:=s.heap.push (KW a),toks:=tk}):Hg (Vb prog w) A (.call (.builtin "reversed.__new__") ⟨[.type "reversed",.ref a],[]⟩) (wants Q E) s:=by refine Np (show Uy _ A.in1 (do Mu "reversed.__new__" ⟨[.type "reversed",.ref a],[]⟩;Ot (.builtin "reversed.__new__" ⟨[.type "reversed",.ref a],[]⟩)) _ _ s from ?_);refine Aa (Es (Ob _) (Ag ⟨Ha Gf _,Fq Od ?_⟩));rw[Ex Gf _];obtain⟨o,d,hc,n,e⟩:=id c;have b:s.TypeIs (.ref a) "tuple":=⟨o,d,hc⟩;unfold Fi.«reversed.__new__»;refine Aa (Es (Qo _) (Aa (Es (a:=()) (by first|rfl|kernel_rfl) (Aa (Es (a:=()) (by first|rfl|kernel_rfl) ?_)))));refine Aa (Iq b oA ?_);dsimp only;refine Aa ?_;refine Aa (Mt b kO ?_);rw[if_neg Cr];refine Aa (Iq b dX ?_);dsimp only;rw[if_pos (by decide)];refine Ag ?_;rw[show(!true)=bd from rfl,if_neg Cr];refine Aa (len_tuple (items:= #[]) c (by decide) ?_);refine Aa (Ag ?_);refine Aa ?_;show Uy _ _ (newObj (.type "reversed") (.fields #[.ref a,rawInt ((0:Int)-1)])) _ _ _;refine Cc ?_ (by size_fits);exact Ag (h _)
def jR:Slot "reversed" "__init__" "object.__init__":=
 .of (owner:= "object") (n:= "__init__") (by rw[Iz,Gb];kernel_rfl) (by decide+kernel) (by decide+kernel) (by decide+kernel)
  (by first|exact .inl (by decide+kernel)|exact .inr (by decide+kernel)) (by rw[Ju];kernel_rfl)
def P1:TypeCalled "reversed" "reversed.__new__" "object.__init__":=⟨by decide+kernel,Qp,⟨_,_,F.mro_reversed⟩,Ss,Gf,F.sub_reversed_self,jR⟩
def fE{a:Ux}{Q:Uw->Ae->Prop}(d:IsTup s.heap a #[])(h:∀tk,Q (.ref s.heap.objs.size) {s with heap:=s.heap.push (KW a),toks:=tk}):Uy (Vb prog w) A (call (.type "reversed") [.ref a]) Q E s:=
 callType_codes (Q₁:=λobj b=>b.TypeIs obj "reversed" /\Q obj b) P1 (Nr _) F.entry_object_init (jw d λtk=>⟨⟨_,Aj _ rfl,rfl⟩,h tk⟩)
  λobj b c=>⟨c.1,Ny obj _,object_init_meets P1.init.lookup P1.made (by decide) prog w A.in1 _ b ⟨c.1,rfl,c.2⟩⟩
def KY{it a:Ux}{Q:Uw->Ae->Prop}(b:s.heap.get? it=ba (KW a))(h:Q (.ref it) s):Uy (Vb prog w) A (Ry (.ref it)) Q E s:=by have c:s.TypeIs (.ref it) "reversed":=⟨_,b,rfl⟩;refine wpAny_pyIter_slot c B0 (Dj B0 c LR ?_ (IF _));show Uy _ _ (ret (.ref it)) _ _ s;exact Ag ⟨_,rfl,"reversed",_,c,IH.lookup,h⟩
def oU{it a:Ux}{Q:Option Uw->Ae->Prop}(g:A.handled=bb)(c:s.heap.get? it=ba (KW a))(j:∀h',Jl it s.heap h'->Q bb {s with heap:=h'}):Uy (Vb prog w) A (pyNext (.ref it)) Q E s:=by
 have i:s.TypeIs (.ref it) "reversed":=⟨_,c,rfl⟩;unfold pyNext;refine Aa (Kc (De (name:=Bf "__next__") i IH (Dj IH i LS ?_ (IG _))));unfold Fi.«reversed.__next__»;refine Aa (Es (a:=(Br it,[])) rfl ?_);try dsimp only
 refine Aa (Du c rfl (x:=.ref a) rfl ?_);refine Aa (Du c rfl (x:=rawInt (-1)) rfl ?_);show Uy _ _ (if(-1:Int)<0 then _ else _) _ _ s;rw[if_pos (by decide)];refine Aa (Hc ?_);refine Aa (show Uy _ _ (setField (.ref it) 1 (rawInt (-1))>>=λ_=>setField (.ref it) 0 .none) _ _ _ from ?_);refine Aa (Et c (Rf 1) λh1 k f=>Et (s:={s with heap:=h1}) k (by simp) λh2 l d=>?_);refine Aa ?_;show Uy _ _ (newExc (.type "StopIteration") []>>=_) _ _ _;refine Aa ?_;simp only[newExc,newTuple];refine Aa (Cc ?_ (by size_fits));refine Aa (m:=Ls _ _) (Es (a:=Value.none) (by first|rfl|(simp only[Ls];rfl)) ?_);refine Cc ?_ (by size_fits);simp only[raiseNew];refine Aa (wpAny_handled ?_);first|rw[show A.in1.handled=bb from g]|rw[g]
 refine Aa (Ag (wpAny_throw ?_));refine Aa (Mt (T:= "StopIteration") (b:=bc) ⟨_,Aj _ rfl,rfl⟩ isSubtype_stop ?_);exact Ag (j _ λb o h e=>Ad _ (Ad _ ((d.2 b h).trans ((f.2 b h).trans e))))
end
def ItE:It:=⟨λ_ _=>False,λ_ _ _ _=>False,λi _=>i=0⟩
def oC{P:Aw}{w:Ve}{K:Ah}{tg:Vc}(it a:Ux):GY P w K tg ItE [it] it (λ_ h=>h.get? it=ba (KW a)) where
 mem:=by simp
 obj:=λi h st b c=>by
  have e:b=it:=by simpa using c
  subst e;exact⟨_,st,λv z=>nomatch z⟩
 keep:=λi h h' st k=>k it (by simp) _ st
 item:=λ_ _ _ _ _ _ _ _ _ _ _ _ _ _ z=>z.elim
 done:=by intro X f hw g hc i aa s σ H E I d st p;subst f hw g;obtain⟨m,f1,f2,f3,l,j⟩:=d it (by simp);exact oU (I.ok.hd hc) st λh' n=>⟨rfl,I.turned (t':=s.toks) (λb o c e=>n b o c e) m f1 f3 l j⟩
 self:=λ_ _ _ _ _ st h=>KY st h
noncomputable def iRvE(f:VF):VI:=λδ=>(f δ).bind λp=>match p.1 with
 |.tup []=>ba ([],p.2)
 |_=>bb
section
variable{X:Cx}{K:Ah}{ml:List Nat}{a:Vc}{pa ta ia:Bool}{fa:VF}{pos:Pos}{tg:Vc}
def lV{p2:Pos}(E:X.K=K)(j:Gl X "reversed")(g:X.mg "reversed"=bb)(h:PE X a (TV K ml pa ta ia fa))(m:Uz [a] X.env=[(bd,eval a X.env)]:=by rfl):PI X tg (.Call (.Name "reversed" p2) [a] [] pos) (EB K ml pa (iRvE fa)):=by
 subst E;intro aa s σ H R I C;obtain⟨B,O,δ,ds,δ',S,q,k⟩:=C;unfold iRvE at q;obtain⟨⟨x,δ1⟩,h1,q⟩:=Ac.mp q;dsimp only at q;split at q
 case h_2=>cases q
 cases q;refine Call_ (WR I j g SF (Cj ?_ m rfl));rw[m];refine Fe (ZH (h aa s σ H (λv H1=>Res X.K ml B O H σ pa ta ia H1 δ' v (.tup [])) I ⟨B,O,δ,_,δ',S,h1,λv H1 c=>c⟩) λu s1 A=>Gh ?_);obtain⟨v,H1,f,t,c⟩:=A;obtain⟨l,xs,rfl,hl,y⟩:∃l xs,v=.ref l/\WN X.K H1 l xs/\bZ X.K (av B O ia) H1 xs []:=by
  cases c.rep.onT with
  |tup e r=>exact⟨_,_,rfl,e,r⟩
 obtain rfl:u=.ref l:=t;cases y;obtain⟨w,n,p,hz⟩:=f.tuple hl;cases n;refine fE p λtk=>KY (it:=s1.heap.objs.size) (a:=l) (Aj _ rfl) ?_;have F:cF X aa σ H1 {s1 with heap:=s1.heap.push (KW l),toks:=tk}:=f.kept (t':=tk) λb o e=>Ad _ e;refine⟨_,[s1.heap.objs.size],_,ItE,H1,rfl,F,oC _ l,Aj _ rfl,λb D=>?_,k ItE [] H1 (c.sta.keepV λ_ z=>nomatch z) c.frm c.pur λN H _=>⟨λi d e=>by simp at e,rfl⟩⟩;have e:=Ba.mp D;subst e;exact f.fpOk (Am _) (f.hok.fresh (Am _))
end
inductive spNi(K:Ah)(n:Nat)(F:bM)(vs:List V)(H:Hp)(Q:VK):Prop
 |mk (Z:Ux->Prop) (ds:List cV) (r:List cV) (h0:ds.length=n) (h1:Vs K [] Z H vs ds) (h2:F ds=ba (.lst r,[])) (h3:∀p xs H',H p=bb->bF H H'->H' p=ba (.lst xs)->bZ K (λa=>Zp Z [] vs a∨a=p) H' xs r->Q (.ref p) H'):spNi K n F vs H Q
def spN(K:Ah)(n:Nat)(F:bM):Sp:=λvs H Q _=>spNi K n F vs H Q
def okN{P:Aw}{w:Ve}{K:Ah}{mg:Va->Option Uw}{base:Vg}{x qual:Va}{st:Vj}{f:Ux}{fd:Ci}{N ps:List Va}{k:Nat}{g:VF}{pu:Bool}{e:Vc}{pos:Pos}(F:SO K x qual st f fd)(S:aS N ps (cL st))(n:ps.length<=N.length)(l:aY st=[.Return (ba e) pos])(B:∀(c:Uw) (A:Bw) (outer:List Env) (s:Ae) (H:Hp) (E:XK),ZZ k (A.deeper (envOfC qual (cL st) s.heap.objs.size f c))->PE (UT CX0 P w K mg base N qual (cL st) f c A outer s H E).nox e (TN K [] pu g)):YO P w K mg base CX0 (k+1) f fd ps (spN K ps.length (a9 N.length [] (bS g))):=by
 refine F.ok S (λvs H Q E h=>?_) λc A outer s H vs Q E m h=>⟨_,by rw[l];exact UM (HX (B c A outer s H E m)) HZ,?_⟩
 ·obtain⟨Z,ds,r,t,AV,_⟩:=h
  rw[AV.len,t]
 ·obtain⟨Z,ds,r,t,AV,j,k⟩:=h
  obtain⟨u,q,C⟩:=P4 (N:=N) AV (by rw[t];exact n);unfold a9 at j;obtain⟨o,h1,j⟩:=Ac.mp j;unfold bS at h1;obtain⟨⟨d,δ⟩,h2,h1⟩:=Ao.mp h1;cases h1;have j:(UV [] δ).map (λos=>(d,os))=ba (.lst r,[]):=j;obtain⟨_,_,j⟩:=Ao.mp j;cases j;have no:∀i a,u i=ba a->False:=λi a z=>nomatch ((q i a).mp z).1;refine⟨_,u,_,.lst r,δ,C,h2,λp H' R=>?_⟩;have v:bF H H':=(R.frm.mono (P':=λ_=>False) λb ⟨i,z⟩=>no i b z).same;cases R.own with
  |lst y m=>
   refine k p _ H' R.h0 v y (m.mono λa z=>?_);rcases z with z|z
   ·rcases z with z|⟨i,hi,_⟩
    ·exact .inl (.inl z)
    ·cases hi
   ·exact .inl (.inr z)
section
variable{X:Cx}{K:Ah}{ml:List Nat}{a:Vc}{pa ta:Bool}{fa:VF}{x:Va}{kk j:Nat}{qs:List Va}{F:bM}{ff:Ux}{p' pos:Pos}
noncomputable def C2(F:bM)(fa:VF):VF:=λδ=>(fa δ).bind λp=>(F [p.1]).bind λq=>match q with
 |(.lst r,[])=>ba (.lst r,p.2)
 |_=>bb
def oX(L:X.K=K)(D:Def X.prog X.w K X.mg X.base x kk qs (spN K 1 F) ff)(l:ZZ j X.A)(G:kk<=j)(I:Gl X x)(J:PE X a (TV K ml pa bc bc fa))(s:ND x:=by decide)(C:SE X a []:=by rfl)(m:(Em pos (Uz [] X.env)).any (·.1)=bd:=by rfl):PE X (.Call (.Name x p') [a] [] pos) (TN K ml pa (C2 F fa)):=by
 subst L;refine(FI D l G I (bN J aD C) s C m).imp λσ H Q h=>?_;obtain⟨B,O,δ,d,δ',S,q,k⟩:=h;unfold C2 at q;obtain⟨⟨y,δ1⟩,h1,q⟩:=Ac.mp q;obtain⟨⟨z,os⟩,h2,q⟩:=Ac.mp q;dsimp only at q;split at q
 case h_2=>cases q
 rename_i r e;cases e;cases q;refine⟨B,O,δ,y,δ',S,h1,λu H1 c=>?_⟩;have t:∀b,Zp (Nn B O) [] [u] b->Nn B O b:=λb z=>z.elim id λ⟨i,hi,_⟩=>nomatch hi;refine⟨Nn B O,[y],r,rfl,⟨rfl,λi hi=>(nomatch hi),λi e hi q=>?_,λi e hi=>(nomatch hi),λi j b hi=>(nomatch hi),⟨λb z=>c.sta.nin z,c.sta.tbs⟩⟩,h2,λp xs H2 n g v l=>k p H2 ?_⟩
 ·cases i with
  |zero=>cases q;exact⟨u,rfl,c.rep.mono t t⟩
  |succ i=>simp at q
 ·have f : bF (upd H1 p (.lst xs)) H2 := λb o q => by
   by_cases E:b=p
   ·subst E
    rw[b9]at q;cases q;exact v
   ·rw[bV E]at q
    exact g b o q
  exact⟨(c.sta.laid n).same f,c.frm.trans g.fr,λz=>(c.pur z).trans g,(.lst v (l.mono λb z=>by
   rcases z with(z|z)|z
   ·exact .inl (.inl (.inl z))
   ·exact .inr z
   ·exact .inl (.inl (.inr z))):NY _ _ _ _ _),c.sta.new n,c.sta.fresh n⟩
end
def AD(K:Ah)(f:Ux)(pos:Pos)(q:Va):Prop:=∀o fd,K.lookup f=ba o->o.data=.func fd->LamK K fd.code pos q
def Xx(P:Aw)(w:Ve)(K:Ah)(mg:Va->Option Uw)(base:Vg){x q e:Va}{di:Pos}{st:Vj}{f:Ux}{fd:Ci}(N ps:List Va)(k:Nat)(g:VS)(ml:List Nat)(lam:AD K f di e)(F:SO K x q st f fd)(S:aS N ps (cL st))(m:∀{a:Uw}{A:Bw}{outer:List Env}{s:Ae}{H:Hp}{E:XK}(_:LamK K a di e) (_:aS N ps (cL st)) (b:ZZ k (A.deeper (envOfC q (cL st) s.heap.objs.size f a))) (_:(A.deeper (envOfC q (cL st) s.heap.objs.size f a)).units+64<cLine) (_:(A.deeper (envOfC q (cL st) s.heap.objs.size f a)).units+1<cLine),W7 (UT CX0 P w K mg base N q (cL st) f a A outer s H E).nox (aY st) (WL K ml g))(c:ps.length<=N.length:=by decide):YO P w K mg base CX0 (k+1) f fd ps (spV K ml ps.length (a9 N.length ml g)):=by obtain⟨oc,od,kV,doc,n,o,a,ct,j,rfl,i,d⟩:=F.ex;refine Ws i d S (λvs H Q E h=>?_) λA outer s H vs Q E b h=>⟨_,(m (lam _ _ i rfl) S b b.units (Wt b)).nox,Wj c h⟩;obtain⟨Z,ds,r,os,l,AV,_⟩:=h;rw[AV.len,l]
structure DefK(P:Aw)(w:Ve)(K:Ah)(mg:Va->Option Uw)(base:Vg)(x:Va)(k:Nat)(p q:Va)(F:bM)(f:Ux):Prop where
 at_:mg x=ba (.ref f)
 ok:∃fd,YO P w K mg base CX0 k f fd [p,q] (spV K [] 2 F)/\OZ K fd [p,q] [q] gk gkV
 kp:Hy K (.ref f)=bc
section
variable{X:Cx}{K:Ah}{ml:List Nat}{a b:Vc}{pa pb:Bool}{fa fb:VF}{pos:Pos}
def GC{x p q:Va}{kk j:Nat}{F:bM}{ff:Ux}{p' ax:Pos}(u:X.K=K)(D:DefK X.prog X.w K X.mg X.base x kk p q F ff)(o:ZZ j X.A)(r:kk<=j)(s:Gl X x)(t:PE X a (TV K ml pa bc bc fa))(hw:PE X b (TV K ml pb bc bc fb))(v:(Ff pos (Cw [⟨ba q,b,ax⟩] X.env)).all (·.1.isSome)=bc:=by rfl)(g:(Ff pos (Cw [⟨ba q,b,ax⟩] X.env)).filterMap (·.1)=[q]:=by rfl)(i:(x==("__debug__":Va))=bd:=by decide)(l:Uz (a::[]) X.env=(bd,eval a X.env)::Uz [] X.env:=by rfl)(f:((Em pos (Uz (a::[]) X.env)).any (·.1) || (Ff pos (Cw [⟨ba q,b,ax⟩] X.env)).any (·.1.isNone))=bd:=by rfl):PE X (.Call (.Name x p') [a] [⟨ba q,b,ax⟩] pos) (TV K ml (pa&&(pb&&bc)&&([]:List Nat).isEmpty) bc bc (cK 2 [] F (aE fa (aE fb cE)))):=by
 obtain⟨fd,C,E⟩:=D.ok;subst u;refine(jT C (o.mono r) s D.at_ D.kp E Xy (bN t aD l) (BK hw Xg) v g i l f).imp λσ H Q h=>?_;obtain⟨B,O,δ,as,δ2,S,q,k⟩:=IN (ps:=pa&&(pb&&bc)) (Q:=Q) h;unfold aE at q;cases h1:fa δ with
 |none=>rw[h1]at q;cases q
 |some p=>
  obtain⟨x,δ1⟩:=p;rw[h1]at q;have q:((aE fb cE δ1).map λq=>(AV.d x::q.1,q.2))=ba (as,δ2):=q;unfold aE at q;cases h2:fb δ1 with
  |none=>rw[h2]at q;cases q
  |some p2=>
   obtain⟨y,m⟩:=p2;rw[h2]at q;cases q;refine⟨B,O,δ,x,δ1,S,h1,λI H1 c=>⟨B,O,δ1,y,_,c.sta,h2,λG H2 R2=>k _ H2 ⟨R2.sta,c.frm.trans R2.frm,λz=>?_,.d (c.rep.fr R2.frm (λa z=>.inr z) λa z=>.inr z) (.d R2.rep .nil)⟩⟩⟩;obtain⟨n,e⟩:=(Af _ _).mp z;obtain⟨e,_⟩:=(Af _ _).mp e;exact(c.pur n).trans (R2.pur e)
end
section
variable{X:Cx}{K:Ah}{ml:List Nat}{a:Vc}{pos p':Pos}
def my:RC:=λxs H Q=>∃p,xs=[.ref p]/\H p=ba (.dK [])/\∀q,H q=bb->Q (.ref q) (upd H q (.lst []))
def dW(hc:X.calm=bc):aB X (.type "list") my:=by
 intro aa s σ H xs n Q I r h;obtain⟨p,rfl,e,q⟩:=h;obtain⟨u,rfl,f⟩:=U0 r;cases f;obtain⟨_,j,vs,b,dd⟩:=Yx I.hok e;cases b;obtain⟨ep,d⟩:=dd.dictAt;refine W.kdl_call (W.kdl_dict (knd:=aT X.prog X.w) (kvs:=[]) (ep:=ep) j) (I.ok.hd hc) d (Df _) λh' tk acc c g k m=>?_;have i:=I.hok.fresh (Am s.heap.objs.size);have l:acc= #[]:=by
  have:=m.1
  exact Array.eq_empty_of_size_eq_zero (by simpa using this)
 subst l;exact⟨.ref s.heap.objs.size,_,I.laid (a:=s.heap.objs.size) (o:=.lst []) (t':=tk) g (Am _) ⟨Df _,[],c,.nil,by simpa using k⟩,rfl,q _ i⟩
noncomputable def C3(i:Nat):VF:=λδ=>match δ[i]? with
 |some (.ow (.dct [] []))=>ba (.lst [],δ)
 |_=>bb
def pq{i:Nat}(hc:X.calm=bc)(g:Gl X "list")(f:X.mg "list"=bb)(h:PE X a (LV i))(b:SE X a []:=by rfl):PE X (.Call (.Name "list" p') [a] [] pos) (TN K ml bc (C3 i)):=
 (WX (dW hc) g f NL (bN h aD b) (by decide) (by decide) b).imp λσ H Q e=>by
 obtain⟨B,O,δ,d,δ',S,q,k⟩:=e;unfold C3 at q;split at q
 ·rename_i j
  cases q;obtain⟨p,s,o,w⟩:=S.ow i _ j;refine⟨.ref p,o,?_⟩;obtain⟨kvs,n,m⟩:∃kvs:List (aK×V),H p=ba (.dK kvs)/\kvs.map Dk=[]:=by
   generalize hz:cV.dct [] []=z at w;cases w with
   |lst _ _=>cases hz
   |dct q r=>
    injection hz with h1 h2;exact⟨_,q,h1.symm⟩
  have l:kvs=[]:=List.map_eq_nil_iff.mp m;subst l;exact⟨p,rfl,n,λr c=>k r _ (mkN S (Fr.refl _ _) (λ_=>bF.refl _) c .nil)⟩
 ·cases q
end
end L2
namespace L2
open PySem
def OE:cV:=.int 999
def jC:cV:=.tup [.str "plus",.str "minus",.str "times",.str "least",.str "most",.str "less",.str "over"]
def OD:cV:=.int 64
def OC:cV:=.int 40
def QK:cV:=.int 63
def G1:cV:=.tup [.str "row",.str "row"]
def SG:cV:=.dct [.inr "number",.inr "pick",.inr "load",.inr "take",.inr "store",.inr "put"] [.tup [.str "word"],.tup [.str "row",.str "row",.str "row"],.tup [.str "place"],.tup [.str "place",.str "row",.str "row"],.tup [.str "place",.str "row"],.tup [.str "place",.str "row",.str "row"]]
def md:cV:=.tup [.str "load",.str "take"]
def WW:cV:=.tup [.str "store",.str "put"]
def LK:cV:=.int 2
def G2:cV:=.int 4
def WE:cV:=.int 8
noncomputable abbrev GV:List Va:=["NoBlock","NoLanes","TooMany"]
noncomputable abbrev UP:List Va:=["NoBlock","NoCells","NoRow","NoLanes","NoPlan","NoProgram","NoTree","NoLoop","NoText","NoName","TooMany","TooLong","NotValid","Nothing"]
def RO:VS:=
   (cG (X4 (GR (fB (f2 Q0 (fV 0) (fC (.ty "bool")))) (VW (fB (f2 Q0 (fV 0) (fC (.ty "int"))))))
   (bS (fC (.bl bd)))
   aL)
   (bS (f3 oLe oLe (fV 1) (fV 0) (fV 2))))
def ZP:bM:=a9 3 [] RO
def MP:VS:=
   (cG (X4 (fB (f2 (Z4 bd) (fV 0) (fC jC)))
   (bS (fC G1))
   aL)
   (bS (f2 Zf (fC SG) (fV 0))))
def ZQ:bM:=a9 1 [] MP
def VA:VS:=
   (bS (f2 (Z4 bc) (f2 bT (fV 0) (fC (.int 0))) (fC WW)))
def WY:bM:=a9 1 [] VA
def MQ:VS:=
   (bS (fIf (GR (fB (f2 (Z4 bd) (f2 bT (fV 0) (fC (.int 0))) (fC md))) (fB (f2 (Z4 bd) (f2 bT (fV 0) (fC (.int 0))) (fC WW)))) (f2 bT (fV 0) (fC (.int 1))) (fC .non)))
def XZ:bM:=a9 1 [] MQ
def MO:VS:=
   (cG (K2 1 2 (fV 0))
   (bS (aZ [] 2 (iZip (cK 1 [] ZQ (aE (fV 1) cE)) (fV 2)) (GU 2 (a7 (gN 0) (a7 (gN 1) W8))) (fB (f2 XN (fV 0) (fC (.str "row")))) (fV 1))))
def RF:bM:=a9 3 [] MO
def RV:VS:=
   (bS (RM (cK 3 [] ZP (aE (fV 0) (aE (fC (.int 0)) (aE (f2 M3 (f1 Z0 (fV 1)) (fC (.int 1))) cE)))) (f2 bT (fV 1) (fV 0))))
def U3:bM:=a9 2 [] RV
def MK:VS:=
   (cG (X4 (fB (f2 XN (fV 0) (fC (.str "word"))))
   (bS (cK 3 [] ZP (aE (fV 1) (aE (fC (.int 0)) (aE (fC OE) cE)))))
   aL)
   (cG (X4 (fB (f2 XN (fV 0) (fC (.str "place"))))
   (bS (cK 3 [] ZP (aE (fV 1) (aE (fC (.int 0)) (aE (fC QK) cE)))))
   aL)
   (bS (cK 2 [] U3 (aE (fV 1) (aE (fV 2) cE))))))
def TY:bM:=a9 3 [] MK
def MM:VS:=
   (cG (X4 (GR (VW (fB (f2 Q0 (fV 0) (fC (.ty "tuple"))))) (fB (f2 XN (f1 Z0 (fV 0)) (fC (.int 0)))))
   (bS (fC (.bl bd)))
   aL)
   (cG (K2 2 3 (fV 0))
   (cG (bH 4 (xV (fIf (fB (f2 Q0 (fV 2) (fC (.ty "str")))) (cK 1 [] ZQ (aE (fV 2) cE)) (fC .non))))
   (cG (X4 (GR (fB (f2 FE (fV 4) (fC .non))) (fB (f2 UH (f1 Z0 (fV 4)) (f1 Z0 (fV 3)))))
   (bS (fC (.bl bd)))
   aL)
   (bS (f1 oAll (aZ [1] 2 (iZip (fV 4) (fV 3)) (GU 2 (a7 (gN 1) (a7 (gN 2) W8))) YK (cK 3 [] TY (aE (fV 1) (aE (fV 2) (aE (fV 0) cE)))))))))))
def QB:bM:=a9 5 [] MM
def X9:VS:=
   (cG (X4 (VW (fB (cK 2 [] QB (aE (fV 4) (aO 3 cE)))))
   (bS (fC (.bl bd)))
   aL)
   (V4 3 SR (cO (cK 1 [] WY (aE (fV 4) cE)) bU)))
def RN:VS:=
   (cG (X4 (GR (VW (fB (f2 Q0 (fV 0) (fC (.ty "tuple"))))) (fB (f2 UH (f1 Z0 (fV 0)) (fC (.int 2)))))
   (bS (fC (.bl bd)))
   aL)
   (cG (sAsg (fV 0) (GU 2 (a7 (gN 1) (a7 (gN 2) W8))))
   (cG (X4 (VW (fB (cK 3 [] ZP (aE (fV 1) (aE (fC (.int 0)) (aE (fC OD) cE))))))
   (bS (fC (.bl bd)))
   aL)
   (cG (X4 (GR (VW (fB (f2 Q0 (fV 2) (fC (.ty "tuple"))))) (fB (f2 oGt (f1 Z0 (fV 2)) (fC OC))))
   (bS (fC (.bl bd)))
   aL)
   (cG (bH 3 (xO (ZG bU)))
   (cG (VH (YQ (fV 2)) (gN 4)
   X9)
   (bS (fC (.bl bc)))))))))
def ZO:bM:=a9 5 [] RN
def EO:VS:=
   (cG (X4 (VW (fB (cK 1 [] ZO (aE (fV 0) cE))))
   (λ_=>bb)
   aL)
   (cG (bH 2 (xV (f2 bT (fV 0) (fC (.int 1)))))
   (cG (X4 (VW (fB (cK 3 [] ZP (aE (fV 1) (aE (fC (.int 0)) (aE (f2 M3 (f1 Z0 (fV 2)) (fC (.int 1))) cE))))))
   (λ_=>bb)
   aL)
   (bS (f2 bT (fV 2) (fV 1))))))
def D8:bM:=a9 3 [] EO
def ES:VS:=
   (bS (f2 (Z4 bd) (f2 bT (fV 0) (fC (.int 0))) (fC WW)))
def T2:bM:=a9 1 [] ES
def OH:VS:=
   (cG (sAsg (fV 0) (GU 2 (a7 (gN 2) (a7 (gN 3) W8))))
   (cG (bH 4 (xV (f2 bT (fV 3) (fV 1))))
   (cG (X4 (fB (f2 XN (f2 bT (fV 4) (fC (.int 0))) (fC (.str "over"))))
   (λ_=>bb)
   aL)
   (cG (bH 5 (xV (cK 1 [] XZ (aE (fV 4) cE))))
   (bS (RM (f2 OS (fV 5) (fC .non)) (f2 oGe (fV 5) (fV 2))))))))
def TW:bM:=a9 6 [] OH
def XV:VS:=
   (bS (RM (f2 XN (cK 1 [] XZ (aE (fV 0) cE)) (cK 1 [] XZ (aE (fV 1) cE))) (fOr (cK 1 [] T2 (aE (fV 0) cE)) (cK 1 [] T2 (aE (fV 1) cE)))))
def XR:bM:=a9 2 [] XV
def OM:VS:=
   (cG (bH 3 (xV (f2 bT (fV 0) (fC (.int 1)))))
   (cG (X4 (GR (fB (f2 (Z4 bd) (fV 1) (cK 1 [] RF (aE (f2 bT (fV 3) (fV 2)) cE)))) (fB (cK 2 [] XR (aE (f2 bT (fV 3) (fV 1)) (aE (f2 bT (fV 3) (fV 2)) cE)))))
   (bS (fC (.bl bc)))
   aL)
   (cG (FV 4 5 (xV (cK 2 [] TW (aE (fV 0) (aE (fV 1) cE)))) (xV (cK 2 [] TW (aE (fV 0) (aE (fV 2) cE)))))
   (cG (X4 (QI (fB (fV 4)) (fB (fV 5)))
   (bS (fC (.bl bc)))
   aL)
   (bS (fOr (RM (fV 4) (cK 1 [] T2 (aE (f2 bT (fV 3) (fV 2)) cE))) (RM (fV 5) (cK 1 [] T2 (aE (f2 bT (fV 3) (fV 1)) cE)))))))))
def T1:bM:=a9 6 [] OM
def QT:VS:=
   (cG (bH 1 (xV (f1 Z0 (f2 bT (fV 0) (fC (.int 1))))))
   (cG (bH 2 (xV (T6 [1] 2 (HG (fV 1)) (gN 1) YK (iR2 (f2 aC (fV 1) (fC (.int 1))) (fV 0)) (gN 2) YK (aH (cO (fV 1) (cO (fV 2) bU))))))
   (bS (aZ [0] 2 (YQ (fV 2)) (GU 2 (a7 (gN 1) (a7 (gN 2) W8))) (fB (cK 3 [] T1 (aE (fV 0) (aE (fV 1) (aE (fV 2) cE))))) (aH (cO (fV 1) (cO (fV 2) bU)))))))
def U4:bM:=a9 3 [] QT
def mE:VS:=
   (X4 (fB (f1 oAny (aZ [0,3] 1 (YQ (f2 aC (fO 2) (ZG (cO (fV 1) bU)))) (gN 2) YK (cK 3 [] T1 (aE (fV 0) (aE (fV 1) (aE (fV 2) cE)))))))
   (V4 2 SR (cO (fV 3) bU))
   aL)
def AO:VS:=
   (cG (Q8 (cK 2 [] D8 (aE (fV 0) (aE (fV 1) cE))))
   (cG (bH 2 (xO (ZG bU)))
   (cG (VH (iRB (fV 1)) (gN 3)
   mE)
   (bS (f1 M0 (fO 2))))))
def AB:bM:=a9 4 [] AO
def ML:VS:=
   (bS (cK 3 [] ZP (aE (fV 0) (aE (fC LK) (aE (fC G2) cE)))))
def XX:bM:=a9 1 [] ML
def QS:VS:=
   (cG (bH 3 (xV (f2 bT (f2 bT (fV 0) (fV 1)) (fC (.int 0)))))
   (cG (X4 (GR (fB (f2 oGe (fV 1) (fV 2))) (GR (fB (f2 XN (fV 3) (fC (.str "number")))) (fB (f2 UH (f2 bT (f2 bT (fV 0) (fV 2)) (fC (.int 0))) (fV 3)))))
   (bS (fC (.bl bd)))
   aL)
   (cG (bH 4 (xV (cK 1 [] XZ (aE (f2 bT (fV 0) (fV 1)) cE))))
   (bS (fOr (f2 FE (fV 4) (fC .non)) (f2 XN (cK 1 [] XZ (aE (f2 bT (fV 0) (fV 2)) cE)) (f2 aC (fV 4) (fC (.int 1)))))))))
def QC:bM:=a9 5 [] QS
def JS:VS:=
   (cG (bH 3 (xV (f2 bT (fV 0) (fC (.int 1)))))
   (cG (X4 (GR (VW (fB (f2 Q0 (fV 2) (fC (.ty "tuple"))))) (fB (f2 UH (f1 Z0 (fV 2)) (fV 1))))
   (bS (fC (.bl bd)))
   aL)
   (cG (X4 (VW (fB (f1 oAll (aZ [3] 1 (YQ (fV 2)) (gN 1) YK (cK 3 [] ZP (aE (fV 1) (aE (fC (.int 0)) (aE (f2 M3 (f1 Z0 (fV 0)) (fC (.int 1))) cE))))))))
   (bS (fC (.bl bd)))
   aL)
   (cG (X4 (VW (fB (f1 oAll (aZ [3] 2 (iZip (fV 2) (C4 (fV 2) (DG (fC (.int 1))) pNo)) (GU 2 (a7 (gN 1) (a7 (gN 2) W8))) YK (cK 3 [] QC (aE (fV 0) (aE (fV 1) (aE (fV 2) cE))))))))
   (bS (fC (.bl bd)))
   aL)
   (λ_=>bb)))))
def OX:bM:=a9 4 [] JS
def SI:VS:=
   (bS (T6 [] 2 (YQ (fV 0)) (gN 0) YK (YQ (fV 0)) (gN 1) YK (fV 1)))
def ZA:bM:=a9 1 [] SI
def V0:VS:=
   (cG (X4 (VW (fB (cK 1 [] ZO (aE (fV 0) cE))))
   (λ_=>bb)
   aL)
   (X4 (VW (fB (cK 1 [] XX (aE (fV 1) cE))))
   (λ_=>bb)
   aL))
def aF:bM:=a9 2 [] V0
def V7:VZ:=
   (LX (zIf (VW (fB (cK 1 [] ZO (aE (fV 0) cE)))) (λδ=>ba (("NoBlock",bb),δ)) zNo)
   (GL (X4 (VW (fB (cK 1 [] ZO (aE (fV 0) cE))))
   (λ_=>bb)
   aL)
   (zIf (VW (fB (cK 1 [] XX (aE (fV 1) cE)))) (λδ=>ba (("NoLanes",bb),δ)) zNo)))
def aG:List cV->Option Xw:=Q7 2 V7
def QU:VS:=
   (cG (bH 2 (xV (cK 1 [] ZA (aE (fV 1) cE))))
   (bS (aZ [2] 1 (HG (f1 Z0 (f2 bT (fV 0) (fC (.int 1))))) (gN 1) (fB (f2 (Z4 bc) (fV 1) (fV 0))) (fV 1))))
def U5:bM:=a9 3 [] QU
def CP:VS:=
   (λ_=>bb)
def ER:VS:=
   (cG (bH 2 (xO (fC (.dct [] []))))
   (cG (VH (YQ (fV 1)) (gN 3)
   CP)
   (bS (C3 2))))
def EA:bM:=a9 6 [] ER
def EQ:VS:=
   (λ_=>bb)
def D9:bM:=a9 5 [] EQ
def OP:VS:=
   (bS (aZ [0,1,2] 1 (YQ (cK 2 [] EA (aE (fV 0) (aE (fV 1) cE)))) (gN 3) (fB (f2 XN (cK 3 [] D9 (aE (fV 0) (aE (fV 1) (aE (fV 3) cE)))) (fV 2))) (fV 3)))
def WC:bM:=a9 3 [] OP
def MA:VS:=
   (V4 2 mExt (cO (cK 1 [] RF (aE (f2 bT (f2 bT (fV 0) (fC (.int 1))) (fV 3)) cE)) bU))
def QR:VS:=
   (cG (bH 2 (xO (C2 ZA (cK 3 [] WC (aE (fV 0) (aE (fV 1) (aE (fC (.str "gathered")) cE)))))))
   (cG (VH (YQ (cK 2 [] U5 (aE (fV 0) (aE (fV 1) cE)))) (gN 3)
   MA)
   (bS (aZ [2] 1 (YQ (f1 M0 (cK 1 [] ZA (aE (fV 1) cE)))) (gN 1) (fB (f2 (Z4 bd) (fV 1) (fO 0))) (fV 1)))))
def QA:bM:=a9 4 [] QR
def OO:VS:=
   (cG (bH 3 (xV (aZ [0] 1 (YQ (cK 2 [] U5 (aE (fV 0) (aE (fV 2) cE)))) (gN 1) (fB (f2 UH (f2 bT (f2 bT (f2 bT (fV 0) (fC (.int 1))) (fV 1)) (fC (.int 0))) (fC (.str "number")))) (fV 1))))
   (cG (bH 4 (xV (cK 3 [] WC (aE (fV 0) (aE (fV 2) (aE (fC (.str "shuffled")) cE))))))
   (cG (bH 5 (xV (cK 3 [] WC (aE (fV 0) (aE (fV 2) (aE (fC (.str "gathered")) cE))))))
   (cG (bH 6 (xV (f2 aC (f2 aC (f1 Z0 (fV 4)) (f2 PY (fV 1) (f1 Z0 (fV 5)))) (f1 Z0 (cK 2 [] QA (aE (fV 0) (aE (fV 2) cE)))))))
   (bS (f2 aC (f2 aC (f1 Z0 (fV 3)) (f1 Z0 (fV 2))) (fV 6)))))))
def WB:bM:=a9 7 [] OO
def T8:VS:=
   (cG (Q8 (cK 2 [] aF (aE (fV 0) (aE (fV 1) cE))))
   (X4 (fB (f2 oGt (f1 Z0 (f2 bT (fV 0) (fC (.int 1)))) (fC WE)))
   (λ_=>bb)
   aL))
def XO:bM:=a9 2 [] T8
def UR:VZ:=
   (LX (X6 2 aG (aE (fV 0) (aE (fV 1) cE)))
   (GL (Q8 (cK 2 [] aF (aE (fV 0) (aE (fV 1) cE))))
   (zIf (fB (f2 oGt (f1 Z0 (f2 bT (fV 0) (fC (.int 1)))) (fC WE))) (λδ=>ba (("TooMany",bb),δ)) zNo)))
def YM:List cV->Option Xw:=Q7 2 UR
def LC:VS:=
   (cG (bH 5 (xV (T6 [2] 2 (YQ (fV 3)) (gN 1) YK (iR2 (f2 aC (f2 bT (fV 1) (f1 LQ (fC (.int 1)))) (fC (.int 1))) (fV 0)) (gN 2) YK (f2 aC (fV 1) (aH (cO (fV 2) bU))))))
   (bH 3 (xV (aZ [0,4] 1 (YQ (fV 5)) (gN 2) (fB (cK 3 [] OX (aE (fV 0) (aE (fV 1) (aE (fV 2) cE))))) (fV 2)))))
def OG:VS:=
   (cG (bH 2 (xV (f1 Z0 (f2 bT (fV 0) (fC (.int 1))))))
   (cG (bH 3 (xV (aZ [] 1 (HG (fV 2)) (gN 0) YK (aH (cO (fV 0) bU)))))
   (cG (VH (iR2 (fC (.int 2)) (f2 aC (fV 1) (fC (.int 1)))) (gN 4)
   LC)
   (bS (fV 3)))))
def TU:bM:=a9 6 [] OG
def HE:VS:=
   (cG (Q8 (cK 2 [] XO (aE (fV 0) (aE (fV 1) cE))))
   (bS (cK 2 [] TU (aE (fV 0) (aE (fV 1) cE)))))
def QD:bM:=a9 2 [] HE
def IV:VZ:=
   (X6 2 YM (aE (fV 0) (aE (fV 1) cE)))
def QF:List cV->Option Xw:=Q7 2 IV
def MN:VS:=
   (λ_=>bb)
def L5:bM:=a9 5 [] MN
def LD:VS:=
   (λ_=>bb)
def T7:VS:=
   (cG (Q8 (cK 2 [] XO (aE (fV 0) (aE (fV 1) cE))))
   (cG (bH 2 (xV (cK 1 [] U4 (aE (fV 0) cE))))
   (cG (bH 3 (xV (fC (.lst [.tup []]))))
   (cG (VH (YQ (cK 2 [] TU (aE (fV 0) (aE (fV 1) cE)))) (gN 4)
   LD)
   (bS (EN [0,1] (fV 3) (aH (cO (cK 3 [] WB (aE (fV 0) (aE (fV 1) (aE (fV 2) cE)))) (cO (fV 2) bU)))))))))
def V8:bM:=a9 5 [] T7
def UQ:VZ:=
   (X6 2 YM (aE (fV 0) (aE (fV 1) cE)))
def XS:List cV->Option Xw:=Q7 5 UQ
def OJ:VS:=
   (λ_=>bb)
def N8:bM:=a9 4 [] OJ
def LH:VS:=
   (cG (bH 6 (xV (f2 aC (fV 4) (aH (cO (fV 5) bU)))))
   (cG (X4 (QI (fB (cK 3 [] OX (aE (fV 0) (aE (f1 Z0 (fV 6)) (aE (fV 6) cE))))) (VW (fB (cK 2 [] N8 (aE (fV 2) (aE (fV 6) cE))))))
   (bH 4 (xV (fV 6)))
   aL)
   (X4 (fB (f2 XN (f1 Z0 (fV 4)) (fV 1)))
   (bS (fV 4))
   aL)))
def ON:VS:=
   (cG (bH 4 (xV (aH (cO (f2 bT (fV 3) (fC (.int 0))) bU))))
   (cG (VH (YQ (C4 (fV 3) (DG (fC (.int 1))) pNo)) (gN 5)
   LH)
   (bS (fC .non))))
def N9:bM:=a9 7 [] ON
def LG:VS:=
   (cG (bH 6 (xV (cK 1 [] ZA (aE (fV 4) cE))))
   (cG (bH 7 (xV (aZ [6] 1 (iR2 (fV 5) (f1 Z0 (f2 bT (fV 0) (fC (.int 1))))) (gN 1) (fB (f2 (Z4 bc) (fV 1) (fV 0))) (fV 1))))
   (cG (bH 8 (xV (fIf (fB (f2 (Z4 bd) (fV 5) (fV 7))) (cK 4 [] N9 (aE (fV 0) (aE (fV 1) (aE (fV 3) (aE (fV 7) cE))))) (fC .non))))
   (X4 (QI (fB (f2 OS (fV 8) (fC .non))) (fB (cK 4 [] L5 (aE (fV 0) (aE (fV 2) (aE (fV 4) (aE (fV 8) cE)))))))
   (bH 4 (xV (f2 aC (fV 4) (aH (cO (fV 8) bU)))))
   aL))))
def OI:VS:=
   (cG (bH 2 (xV (cK 1 [] U4 (aE (fV 0) cE))))
   (cG (bH 3 (xV (aZ [0] 1 (HG (f1 Z0 (f2 bT (fV 0) (fC (.int 1))))) (gN 1) YK (cK 2 [] AB (aE (fV 0) (aE (fV 1) cE))))))
   (cG (bH 4 (xV (aH bU)))
   (cG (VH (HG (f1 Z0 (f2 bT (fV 0) (fC (.int 1))))) (gN 5)
   LG)
   (bS (fV 4))))))
def T0:bM:=a9 9 [] OI
def EE:VS:=
   (λ_=>bb)
def JT:VS:=
   (cG (bH 3 (xV (fV 2)))
   (cG (VH (iRvE (fV 2)) (gN 4)
   EE)
   (bS (fV 3))))
def OY:bM:=a9 6 [] JT
def T4:VS:=
   (λ_=>bb)
def W5:VS:=
   (cG (Q8 (cK 2 [] aF (aE (fV 0) (aE (fV 1) cE))))
   (cG (bH 2 (xV (cK 2 [] T0 (aE (fV 0) (aE (fV 1) cE)))))
   (cG (bH 3 (xV (cK 3 [] OY (aE (fV 0) (aE (fV 1) (aE (fV 2) cE))))))
   (cG (VJ (fB (f2 UH (fV 3) (fV 2)))
   T4)
   (bS (EN [0,1] (ZG (cO (aH bU) (cO (fV 2) bU))) (cK 3 [] WB (aE (fV 0) (aE (fV 1) (aE (fV 2) cE))))))))))
def YW:bM:=a9 4 [] W5
def W6:VZ:=
   (X6 2 aG (aE (fV 0) (aE (fV 1) cE)))
def ZF:List cV->Option Xw:=Q7 4 W6
def UX:VS:=
   (bH 2 (xV (f2 A8 (fV 2) (fC (.int 1000003)))))
def V1:VS:=
   (cG (X4 (fB (f2 oLt (fV 1) (f1 Z0 (fV 0))))
   (bS (f2 bT (fV 0) (fV 1)))
   aL)
   (cG (X4 (fB (f2 XN (fV 0) (ZG bU)))
   (bS (fC (.int 0)))
   aL)
   (cG (bH 2 (xV (f2 bT (fV 0) (f2 HU (fV 1) (f1 Z0 (fV 0))))))
   (cG (VH (HG (f2 oMin (f2 A8 (fV 1) (f1 Z0 (fV 0))) (fC (.int 60)))) (gN 3)
   UX)
   (bS (f2 aC (f2 aC (f2 PY (f2 bT (fV 0) (f2 HU (fV 1) (f1 Z0 (fV 0)))) (fC (.int 31))) (fV 1)) (f2 PY (fV 2) (fC (.int 101)))))))))
def Y9:bM:=a9 4 [] V1
def T9:VS:=
   (cG (bH 3 (xV (f2 HU (f2 aC (f2 aC (f2 PY (cK 2 [] Y9 (aE (fV 0) (aE (fV 1) cE))) (fC (.int 1103515245))) (f2 PY (fC (.int 7919)) (fV 1))) (fC (.int 12345))) (fC (.int 2147483647)))))
   (bS (f2 HU (f2 HU (f2 HU (f2 oPow (fV 3) (fC (.int 5))) (fC (.int 2147483647))) (fC (.int 999983))) (fV 2))))
def V9:bM:=a9 4 [] T9
def RP:VS:=
   (cG (V4 1 SR (cO (fC (.int 0)) bU))
   (bS (cK 3 [] V9 (aE (fV 0) (aE (f1 Z0 (fO 1)) (aE (fV 2) cE))))))
def a6:bM:=a9 3 [1] RP
def RT:VS:=
   (bS (f2 bT (fV 2) (cK 3 [1] a6 (aE (fV 0) (aO 1 (aE (f1 Z0 (fV 2)) cE))))))
def Z5:bM:=a9 3 [1] RT
def UA:VS:=
   (cG (FT 2 (fV 3) (f2 HU (f2 aC (HC 2 (fV 3) (cK 3 [1] a6 (aE (fV 0) (aO 1 (aE (fV 4) cE))))) (cK 3 [1] Z5 (aE (fV 0) (aO 1 (aE (ZG (cO (fC (.int 1)) (cO (fC (.int 1)) (cO (fC (.int 1)) (cO (fC (.int 0)) (cO (fC (.int 3)) bU)))))) cE))))) (fV 4)))
   (bS (f2 bT (fO 2) (fV 3))))
def ZV:bM:=a9 5 [1,2] UA
def PL:VS:=
   (cG (bH 5 (xV (cK 3 [1] a6 (aE (fV 0) (aO 1 (aE (fC (.int 13)) cE))))))
   (cG (X4 (GR (fB (f2 XN (fV 2) (ZG bU))) (fB (f2 XN (fV 5) (fC (.int 0)))))
   (cG (X4 (fB (f2 XN (cK 3 [1] a6 (aE (fV 0) (aO 1 (aE (fC (.int 2)) cE)))) (fC (.int 0))))
   (bS (aH (cO (fC (.str "number")) (cO (cK 3 [1] Z5 (aE (fV 0) (aO 1 (aE (ZG (cO (fC (.int 0)) (cO (fC (.int 1)) (cO (fC (.int 2)) (cO (fC (.int 5)) (cO (fC (.int 999)) (cO (cK 3 [1] a6 (aE (fV 0) (aO 1 (aE (fC (.int 1000)) cE)))) bU))))))) cE)))) bU))))
   aL)
   (bS (aH (cO (fC (.str "load")) (cO (cK 5 [1,2] ZV (aE (fV 0) (aO 1 (aO 3 (aE (fC (.str "load")) (aE (fV 4) cE)))))) bU)))))
   aL)
   (cG (sAsg (aZ [0,1,2] 1 (HG (fC (.int 3))) (gN 3) YK (f2 bT (fV 2) (f2 oMax (fC (.int 0)) (f2 M3 (f2 M3 (f1 Z0 (fV 2)) (fC (.int 1))) (cK 3 [1] a6 (aE (fV 0) (aO 1 (aE (fC (.int 6)) cE)))))))) (GU 3 (a7 (gN 6) (a7 (gN 7) (a7 (gN 8) W8)))))
   (cG (X4 (fB (f2 (Z4 bd) (fV 5) (aH (cO (fC (.int 1)) (cO (fC (.int 2)) bU)))))
   (bS (aH (cO (fC (.str "load")) (cO (cK 5 [1,2] ZV (aE (fV 0) (aO 1 (aO 3 (aE (fC (.str "load")) (aE (fV 4) cE)))))) bU))))
   aL)
   (cG (X4 (fB (f2 XN (fV 5) (fC (.int 3))))
   (bS (aH (cO (fC (.str "take")) (cO (cK 5 [1,2] ZV (aE (fV 0) (aO 1 (aO 3 (aE (fC (.str "take")) (aE (fV 4) cE)))))) (cO (fV 8) (cO (fV 6) bU))))))
   aL)
   (cG (X4 (fB (f2 (Z4 bd) (fV 5) (aH (cO (fC (.int 4)) (cO (fC (.int 5)) bU)))))
   (bS (aH (cO (fC (.str "store")) (cO (cK 5 [1,2] ZV (aE (fV 0) (aO 1 (aO 3 (aE (fC (.str "store")) (aE (fV 4) cE)))))) (cO (fV 6) bU)))))
   aL)
   (cG (X4 (fB (f2 XN (fV 5) (fC (.int 6))))
   (bS (aH (cO (fC (.str "put")) (cO (cK 5 [1,2] ZV (aE (fV 0) (aO 1 (aO 3 (aE (fC (.str "put")) (aE (fV 4) cE)))))) (cO (fV 6) (cO (fV 8) bU))))))
   aL)
   (cG (X4 (fB (f2 XN (fV 5) (fC (.int 7))))
   (bS (aH (cO (fC (.str "pick")) (cO (fV 8) (cO (fV 6) (cO (fV 7) bU))))))
   aL)
   (bS (aH (cO (f2 bT (ZG (cO (fC (.str "over")) (cO (fC (.str "plus")) (cO (fC (.str "minus")) (cO (fC (.str "times")) (cO (fC (.str "least")) (cO (fC (.str "most")) (cO (fC (.str "less")) bU)))))))) (cK 3 [1] a6 (aE (fV 0) (aO 1 (aE (fC (.int 7)) cE))))) (cO (fV 6) (cO (fV 7) bU)))))))))))))
def SV:bM:=a9 9 [1,3] PL
def YX:VS:=
   (cG (bH 10 (xV (f2 aC (f2 DE (fV 3) (fV 9)) (cK 3 [1] Z5 (aE (fV 0) (aO 1 (aE (ZG (cO (fC (.int 1)) (cO (fC (.int 1)) (cO (fC (.int 1)) (cO (fC (.int 1)) (cO (f1 LQ (fC (.int 1))) (cO (fC (.int 0)) (cO (fC (.int 2)) bU)))))))) cE)))))))
   (V4 8 SR (cO (fIf (QI (fB (f3 oLe oLt (fC (.int 0)) (fV 10) (f1 Z0 (fV 3)))) (fB (f2 UH (f2 bT (fV 3) (fV 10)) (f2 M3 (f1 Z0 (fV 2)) (fC (.int 1)))))) (f2 bT (fV 3) (fV 10)) (fV 9)) bU)))
def U9:VS:=
   (cG (bH 6 (xV (f2 bT (fV 2) (f1 LQ (fC (.int 1))))))
   (cG (bH 7 (xV (fIf (fB (f2 (Z4 bd) (f2 bT (fV 6) (fC (.int 0))) (aH (cO (fC (.str "load")) (cO (fC (.str "take")) (cO (fC (.str "store")) (cO (fC (.str "put")) bU))))))) (fC (.int 2)) (fC (.int 1)))))
   (cG (bH 8 (xO (ZG bU)))
   (cG (VH (YQ (C4 (fV 6) (DG (fV 7)) pNo)) (gN 9)
   YX)
   (cG (X4 (fB (f2 XN (fV 7) (fC (.int 1))))
   (bS (f2 aC (C4 (fV 6) pNo (DG (fC (.int 1)))) (f1 UI (fO 8))))
   aL)
   (cG (FT 4 (f2 bT (fV 6) (fC (.int 0))) (f2 HU (f2 aC (f2 bT (fV 6) (fC (.int 1))) (fC (.int 1))) (fV 5)))
   (bS (f2 aC (aH (cO (f2 bT (fV 6) (fC (.int 0))) (cO (f2 bT (fO 4) (f2 bT (fV 6) (fC (.int 0)))) bU))) (f1 UI (fO 8))))))))))
def YN:bM:=a9 11 [1,4] U9
def YY:VS:=
   (X4 (QI (fB (f2 oLt (f1 Z0 (fO 4)) (fV 2))) (fB (f2 UH (f2 bT (f2 bT (fO 4) (f1 LQ (fC (.int 1)))) (fC (.int 0))) (fC (.str "number")))))
   (cG (V4 4 SR (cO (cK 6 [1,4] YN (aE (fV 0) (aO 1 (aO 4 (aO 5 (aO 6 (aE (fV 3) cE))))))) bU))
   (X4 (fB (f2 (Z4 bc) (f2 bT (f2 bT (fO 4) (f1 LQ (fC (.int 1)))) (fC (.int 0))) (aH (cO (fC (.str "store")) (cO (fC (.str "put")) bU)))))
   (V4 5 SR (cO (f2 M3 (f1 Z0 (fO 4)) (fC (.int 1))) bU))
   aL))
   aL)
def W2:VS:=
   (cG (V4 4 SR (cO (cK 5 [1,3] SV (aE (fV 0) (aO 1 (aO 5 (aO 6 (aE (fV 3) cE)))))) bU))
   (cG (X4 (fB (f2 (Z4 bc) (f2 bT (f2 bT (fO 4) (f1 LQ (fC (.int 1)))) (fC (.int 0))) (aH (cO (fC (.str "store")) (cO (fC (.str "put")) bU)))))
   (V4 5 SR (cO (f2 M3 (f1 Z0 (fO 4)) (fC (.int 1))) bU))
   aL)
   (VH (HG (cK 3 [1] Z5 (aE (fV 0) (aO 1 (aE (ZG (cO (fC (.int 0)) (cO (fC (.int 1)) (cO (fC (.int 1)) (cO (fC (.int 2)) (cO (fC (.int 3)) bU)))))) cE))))) (gN 7)
   YY)))
def RU:VS:=
   (cG (NB 4 5 6 (xO (ZG bU)) (xO (ZG bU)) (xO (fC (.dct [] []))))
   (cG (VJ (fB (f2 oLt (f1 Z0 (fO 4)) (fV 2)))
   W2)
   (bS (f1 UI (fO 4)))))
def U2:bM:=a9 8 [1] RU
def OK:VS:=
   (cG (X4 (fB (f2 XN (f2 bT (fV 0) (fC (.int 0))) (fC (.str "number"))))
   (bS (ZG bU))
   aL)
   (bS (fIf (fB (f2 (Z4 bd) (f2 bT (fV 0) (fC (.int 0))) (aH (cO (fC (.str "load")) (cO (fC (.str "take")) (cO (fC (.str "store")) (cO (fC (.str "put")) bU))))))) (f1 FF (C4 (fV 0) (DG (fC (.int 2))) pNo)) (f1 FF (C4 (fV 0) (DG (fC (.int 1))) pNo)))))
def ZU:bM:=a9 1 [] OK
def PJ:VS:=
   (cG (bH 2 (xV (f2 bT (f2 bT (fV 0) (fC (.int 1))) (fV 1))))
   (cG (X4 (fB (f2 (Z4 bd) (f2 bT (fV 2) (fC (.int 0))) (aH (cO (fC (.str "load")) (cO (fC (.str "take")) (cO (fC (.str "store")) (cO (fC (.str "put")) bU)))))))
   (bS (f2 oGe (f2 bT (fV 2) (fC (.int 1))) (f2 bT (fV 0) (fC (.int 0)))))
   aL)
   (bS (RM (f2 XN (f2 bT (fV 2) (fC (.int 0))) (fC (.str "over"))) (f2 (Z4 bc) (C4 (f2 bT (f2 bT (fV 0) (fC (.int 1))) (f2 bT (fV 2) (fC (.int 2)))) pNo (DG (fC (.int 2)))) (aZ [] 1 (iR2 (fC (.int 1)) (fC (.int 1000))) (gN 0) YK (aH (cO (fC (.str "number")) (cO (fV 0) bU)))))))))
def XY:bM:=a9 3 [] PJ
def W0:VS:=
   (cG (bH 7 (xV (aZ [] 1 (YQ (aH (cO (fV 6) (cO (fV 4) bU)))) (gN 0) (fB (f2 (Z4 bd) (f2 bT (fV 0) (fC (.int 0))) (aH (cO (fC (.str "store")) (cO (fC (.str "put")) bU))))) (fV 0))))
   (cG (bH 8 (xO (ZG (cO (f2 (Z4 bd) (fV 5) (cK 1 [] ZU (aE (fV 4) cE))) (cO (RM (cK 2 [] XY (aE (fV 0) (aE (fV 5) cE))) (cK 2 [] XY (aE (fV 0) (aE (fV 3) cE)))) bU)))))
   (cG (V4 8 SR (cO (RM (f2 (Z4 bd) (f2 bT (fV 6) (fC (.int 0))) (fV 2)) (RM (f2 (Z4 bd) (f2 bT (fV 4) (fC (.int 0))) (fV 2)) (RM (f2 XN (f2 bT (fV 6) (fC (.int 1))) (f2 bT (fV 4) (fC (.int 1)))) (f2 UH (fV 7) (ZG bU))))) bU))
   (cG (V4 8 SR (cO (RM (cK 2 [] XY (aE (fV 0) (aE (fV 5) cE))) (f2 (Z4 bd) (f2 bT (fV 4) (fC (.int 0))) (aH (cO (fC (.str "store")) (cO (fC (.str "put")) bU))))) bU))
   (cG (V4 8 SR (cO (RM (cK 2 [] XY (aE (fV 0) (aE (fV 3) cE))) (f2 (Z4 bd) (f2 bT (fV 6) (fC (.int 0))) (aH (cO (fC (.str "store")) (cO (fC (.str "put")) bU))))) bU))
   (X4 (fB (f2 (Z4 bd) (fC (.bl bc)) (fO 8)))
   (V4 1 SR (cO (aH (cO (fV 5) (cO (fV 3) bU))) bU))
   aL))))))
def W1:VS:=
   (VH (MR (C4 (f2 bT (fV 0) (fC (.int 1))) pNo (DG (fV 3)))) (GU 2 (a7 (gN 5) (a7 (gN 6) W8)))
   W0)
def RQ:VS:=
   (cG (FV 1 2 (xO (ZG bU)) (xV (aH (cO (fC (.str "load")) (cO (fC (.str "take")) (cO (fC (.str "store")) (cO (fC (.str "put")) bU)))))))
   (cG (VH (MR (f2 bT (fV 0) (fC (.int 1)))) (GU 2 (a7 (gN 3) (a7 (gN 4) W8)))
   W1)
   (bS (f1 M0 (fO 1)))))
def U1:bM:=a9 9 [] RQ
def ZL:VS:=
   (cG (bH 6 (xV (aZ [3,4] 1 (YQ (fO 4)) (gN 2) (fB (f2 XN (aZ [1,2] 2 (YQ (fV 0)) (GU 2 (a7 (gN 2) (a7 (gN 3) W8))) (QI (fB (f2 XN (fV 3) (fV 1))) (fB (f2 (Z4 bd) (fV 2) (fO 0)))) (fC (.int 1))) (ZG bU))) (fV 2))))
   (cG (V4 5 SR (cO (cK 3 [1] Z5 (aE (fV 0) (aO 1 (aE (fV 6) cE)))) bU))
   (V4 4 mRem (cO (f2 bT (fO 5) (f1 LQ (fC (.int 1)))) bU))))
def YC:VS:=
   (cG (NB 3 4 5 (xV (cK 1 [] U1 (aE (fV 2) cE))) (xO (S9 (f1 Z0 (f2 bT (fV 2) (fC (.int 1)))))) (xO (ZG bU)))
   (cG (VJ (fB (f2 UH (fO 4) (ZG bU)))
   ZL)
   (bS (fO 5))))
def Y5:bM:=a9 7 [1] YC
def aI:VS:=
   (cG (X4 (fB (f2 XN (f2 bT (fV 0) (fC (.int 0))) (fC (.str "number"))))
   (bS (fV 0))
   aL)
   (cG (bH 2 (xV (fIf (fB (f2 (Z4 bd) (f2 bT (fV 0) (fC (.int 0))) (aH (cO (fC (.str "load")) (cO (fC (.str "take")) (cO (fC (.str "store")) (cO (fC (.str "put")) bU))))))) (fC (.int 2)) (fC (.int 1)))))
   (bS (f2 aC (C4 (fV 0) pNo (DG (fV 2))) (f1 UI (aZ [1] 1 (YQ (C4 (fV 0) (DG (fV 2)) pNo)) (gN 1) YK (f2 bT (fV 0) (fV 1))))))))
def bK:bM:=a9 3 [] aI
def WF:VS:=
   (cG (bH 3 (xV (cK 3 [1] Z5 (aE (fV 0) (aO 1 (aE (ZG (cO (fC (.int 3)) (cO (fC (.int 6)) (cO (fC (.int 9)) (cO (fC (.int 64)) bU))))) cE))))))
   (cG (bH 4 (xV (cK 3 [1] Z5 (aE (fV 0) (aO 1 (aE (ZG (cO (fC (.int 0)) (cO (fV 3) (cO (fV 3) (cO (cK 3 [1] a6 (aE (fV 0) (aO 1 (aE (f2 aC (fV 3) (fC (.int 1))) cE)))) bU))))) cE))))))
   (cG (bH 5 (xV (aH (cO (fV 4) (cO (cK 4 [1] U2 (aE (fV 0) (aO 1 (aE (cK 3 [1] a6 (aE (fV 0) (aO 1 (aE (f2 aC (fV 2) (fC (.int 1))) cE)))) (aE (fV 3) cE))))) bU)))))
   (cG (X4 (fB (f2 oGt (cK 3 [1] a6 (aE (fV 0) (aO 1 (aE (fC (.int 3)) cE)))) (fC (.int 0))))
   (bS (fV 5))
   aL)
   (cG (bH 6 (xV (cK 3 [1] Y5 (aE (fV 0) (aO 1 (aE (fV 5) cE))))))
   (cG (bH 7 (xV (f1 A7 (aZ [] 2 (MR (fV 6)) (GU 2 (a7 (gN 0) (a7 (gN 1) W8))) YK (aH (cO (fV 1) (cO (fV 0) bU)))))))
   (bS (aH (cO (fV 4) (cO (f1 UI (aZ [5,7] 1 (YQ (fV 6)) (gN 2) YK (cK 2 [] bK (aE (f2 bT (f2 bT (fV 0) (fC (.int 1))) (fV 2)) (aE (fV 1) cE))))) bU))))))))))
def YL:bM:=a9 8 [1] WF
def OL:VS:=
   (cG (bH 1 (xO (ZG (cO (f2 (UG GV UP) (fV 0) (fC (.fn "NoBlock"))) (cO (f2 (UG GV UP) (fV 0) (fC (.fn "NoCells"))) (cO (f2 (UG GV UP) (fV 0) (fC (.fn "NoRow"))) (cO (f2 (UG GV UP) (fV 0) (fC (.fn "NoLanes"))) bU)))))))
   (cG (V4 1 mExt (cO (ZG (cO (f2 (UG GV UP) (fV 0) (fC (.fn "NoPlan"))) (cO (f2 (UG GV UP) (fV 0) (fC (.fn "NoProgram"))) (cO (f2 (UG GV UP) (fV 0) (fC (.fn "NoTree"))) (cO (f2 (UG GV UP) (fV 0) (fC (.fn "NoLoop"))) bU))))) bU))
   (cG (V4 1 mExt (cO (ZG (cO (f2 (UG GV UP) (fV 0) (fC (.fn "NoText"))) (cO (f2 (UG GV UP) (fV 0) (fC (.fn "NoName"))) (cO (f2 (UG GV UP) (fV 0) (fC (.fn "TooMany"))) (cO (f2 (UG GV UP) (fV 0) (fC (.fn "TooLong"))) bU))))) bU))
   (cG (V4 1 mExt (cO (ZG (cO (f2 (UG GV UP) (fV 0) (fC (.fn "NotValid"))) (cO (f2 (UG GV UP) (fV 0) (fC (.fn "Nothing"))) bU))) bU))
   (cG (X4 (GR (fB (f2 UH (f2 HQ (fO 1) (fC (.bl bc))) (fC (.int 1)))) (VW (fB (f2 (UG GV UP) (fV 0) (fC (.ty "ValueError"))))))
   (bS (aH (cO (fC (.str "refused")) (cO (f1 LQ (fC (.int 1))) bU))))
   aL)
   (bS (aH (cO (fC (.str "refused")) (cO (f2 HS (fO 1) (fC (.bl bc))) bU)))))))))
def WA:bM:=a9 2 [] OL
def RS:VS:=
   (cG (bH 2 (xV (fC (.lst [.non,.int 5,.tup [],.tup [.int 0],.tup [.int 0,.lst []],.lst [.int 0,.tup []],.tup [.int (-1),.tup []],.tup [.int 65,.tup []],.tup [.bl bc,.tup []],.tup [.str "0",.tup []],.tup [.int 0,.tup [],.tup []],.tup [.int 0,.tup [.tup []]]]))))
   (cG (bH 2 (xV (f2 aC (fV 2) (fC (.lst [.tup [.int 0,.tup [.tup [.str "number"]]],.tup [.int 0,.tup [.tup [.str "number",.int 1000]]],.tup [.int 0,.tup [.tup [.str "plus",.int 0,.int 0]]],.tup [.int 0,.tup [.lst [.str "load",.int 0]]]])))))
   (cG (bH 2 (xV (f2 aC (fV 2) (fC (.lst [.tup [.int 0,.tup [.tup [.str "load",.int 64]]],.tup [.int 0,.tup [.tup [.str "load",.int (-1)]]],.tup [.int 0,.tup [.tup [.str "halve",.int 0]]],.tup [.int 0,.tup [.tup [.int 5,.int 0]]]])))))
   (cG (bH 2 (xV (f2 aC (fV 2) (ZG (cO (fC (.tup [.int 0,.tup [.tup [.str "number",.int 1],.tup [.str "store",.int 0,.int 0],.tup [.str "plus",.int 0,.int 1]]])) (cO (aH (cO (fC (.int 0)) (cO (f2 WS (fC (.tup [.tup [.str "number",.int 1]])) (fC (.int 41))) bU))) bU))))))
   (cG (bH 2 (xV (f2 aC (fV 2) (fC (.lst [.tup [.int 0,.tup [.tup [.str "number",.int 1],.tup [.str "plus",.int 0,.int 1]]]])))))
   (bS (cK 3 [1] Z5 (aE (fV 0) (aO 1 (aE (fV 2) cE))))))))))
def WO:bM:=a9 3 [1] RS
def TC:VS:=
   (sTry (cG (X4 (fB (f2 XN (fV 0) (fC (.int 0))))
   (bS (cK 2 [] QD (aE (fV 1) (aE (fV 2) cE))))
   aL)
   (bS (fIf (fB (f2 XN (fV 0) (fC (.int 1)))) (cK 2 [] V8 (aE (fV 1) (aE (fV 2) cE))) (cK 2 [] YW (aE (fV 1) (aE (fV 2) cE))))))
   (LX (zIf (fB (f2 XN (fV 0) (fC (.int 0)))) (X6 2 QF (aE (fV 1) (aE (fV 2) cE))) zNo)
   (GL (X4 (fB (f2 XN (fV 0) (fC (.int 0))))
   (bS (cK 2 [] QD (aE (fV 1) (aE (fV 2) cE))))
   aL)
   (zIf (fB (f2 XN (fV 0) (fC (.int 1)))) (X6 2 XS (aE (fV 1) (aE (fV 2) cE))) (X6 2 ZF (aE (fV 1) (aE (fV 2) cE))))))
   3 (bS (cK 1 [] WA (aE (fV 3) cE))))
def cB:bM:=a9 4 [] TC
def QJ:VS:=
   (X4 (fB (f2 UH (aZ [2,3] 1 (HG (fC (.int 3))) (gN 2) YK (cK 3 [] cB (aE (fV 2) (aE (fV 0) (aE (fV 1) cE))))) (f2 WS (fC (.lst [.tup [.str "refused",.int 3]])) (fC (.int 3)))))
   (bS (fC (.bl bd)))
   aL)
def Vy:VS:=
   (cG (bH 1 (xO (ZG bU)))
   (cG (X4 (fB (f2 UH (aZ [0,1] 1 (HG (fC (.int 3))) (gN 2) YK (cK 3 [] cB (aE (fV 2) (aE (cK 2 [1] WO (aE (fV 0) (aO 1 cE))) (aE (fC .non) cE))))) (f2 WS (fC (.lst [.tup [.str "refused",.int 0]])) (fC (.int 3)))))
   (bS (fC (.bl bd)))
   aL)
   (cG (bH 2 (xV (cK 3 [1] YL (aE (fV 0) (aO 1 (aE (fC (.int 20)) cE))))))
   (cG (VH (YQ (fC (.lst [.non,.int 1,.int 5,.str "2",.bl bc,.lst [.int 2]]))) (gN 3)
   QJ)
   (cG (bH 4 (xV (aH (cO (fC (.int 9)) (cO (f2 WS (fC (.tup [.tup [.str "load",.int 0]])) (fC (.int 9))) bU)))))
   (cG (X4 (GR (fB (f2 UH (aZ [4] 1 (HG (fC (.int 2))) (gN 1) YK (cK 3 [] cB (aE (fV 1) (aE (fV 0) (aE (fC (.int 2)) cE))))) (f2 WS (fC (.lst [.tup [.str "refused",.int 10]])) (fC (.int 2))))) (fB (f2 UH (cK 3 [] cB (aE (fC (.int 2)) (aE (fV 4) (aE (fC (.int 2)) cE)))) (aH bU))))
   (bS (fC (.bl bd)))
   aL)
   (cG (bH 5 (xV (aH (cO (fC (.int 9)) (cO (f2 WS (fC (.tup [.tup [.str "number",.int 5]])) (fC (.int 8))) bU)))))
   (bS (f2 XN (aZ [5] 1 (HG (fC (.int 3))) (gN 1) YK (cK 3 [] cB (aE (fV 1) (aE (fV 0) (aE (fC (.int 2)) cE))))) (fC (.lst [.lst [],.tup [],.tup []])))))))))))
def IW:bM:=a9 6 [] Vy
end L2
namespace RR
open PySem L2
section
open PySem.Spec PyProof.Rows
def mkDg{P:Aw}{w:Ve}{K:Ah}{mg:Va->Option Uw}{base:Vg}{x:Va}{st:Vj}{f:Ux}{ps:List Va}{sp:Sp}{k:Nat}(X:∀x a,Gs K Vd x=ba (ba (.ref a))->mg x=ba (.ref a))(p:A4 K x st f)(ok:∀{fd:Ci},SO K x x st f fd->YO P w K mg base CX0 k f fd ps sp)(l:∀{kV doc h:Uw}{i:Option Ux}{e ct:Uw}(g:List Uw),g.length=ps.length->bindArgs (Mr x x (Y0 st) (aY st) (cL st) .none kV doc h i e ct) ⟨g,[]⟩=pure (ps.zip g)):Def P w K mg base x k ps sp f:=by obtain⟨oc,od,kV,doc,h,i,e,ct,j,a,b,c,d⟩:=p;have U:=PH (st:=st) b c d;exact⟨X _ _ a,⟨_,ok U,U.binds λ_ _ _ _ _ _=>l⟩,d⟩
def okWg(P:Aw)(w:Ve)(K:Ah)(mg:Va->Option Uw)(base:Vg){x q:Va}{st:Vj}{f:Ux}{fd:Ci}(N ps:List Va)(k:Nat)(g:VS)(ml:List Nat)(F:SO K x q st f fd)(S:aS N ps (cL st))(d:∀{a:Uw}{A:Bw}{outer:List Env}{s:Ae}{H:Hp}{E:XK}(_:aS N ps (cL st)) (b:ZZ k (A.deeper (envOfC q (cL st) s.heap.objs.size f a))) (_:(A.deeper (envOfC q (cL st) s.heap.objs.size f a)).units+64<cLine) (_:(A.deeper (envOfC q (cL st) s.heap.objs.size f a)).units+1<cLine),W7 (UT CX0 P w K mg base N q (cL st) f a A outer s H E).nox (aY st) (WL K ml g))(c:ps.length<=N.length:=by decide):YO P w K mg base CX0 (k+1) f fd ps (spV K ml ps.length (a9 N.length ml g)):=
 SO.okV F S c λa A outer s H E b=>d S b b.units (Wt b)
end
section
open PySem.Spec PyProof.Rows
def Wv{P:Aw}{w:Ve}{K:Ah}{mg:Va->Option Uw}{base:Vg}{x:Va}{st:Vj}{f:Ux}{ps:List Va}{j:List cV->Option Xw}{k:Nat}(X:∀x a,Gs K Vd x=ba (ba (.ref a))->mg x=ba (.ref a))(p:A4 K x st f)(ok:∀{fd:Ci},SO K x x st f fd->YO P w K mg base (GQ P w) k f fd ps (spX K ps.length j))(m:∀{kV doc h:Uw}{i:Option Ux}{e ct:Uw}(g:List Uw),g.length=ps.length->bindArgs (Mr x x (Y0 st) (aY st) (cL st) .none kV doc h i e ct) ⟨g,[]⟩=pure (ps.zip g)):DefX P w K mg base x k ps j f:=by obtain⟨oc,od,kV,doc,h,i,e,ct,l,a,b,c,d⟩:=p;have U:=PH (st:=st) b c d;exact⟨X _ _ a,⟨_,ok U,U.binds λ_ _ _ _ _ _=>m⟩,d⟩
def pQ{P:Aw}{w:Ve}{K:Ah}{mg:Va->Option Uw}{base:Vg}{x:Va}{st:Vj}{f:Ux}{ps:List Va}{sp:Sp}{k:Nat}(X:∀x a,Gs K Vd x=ba (ba (.ref a))->mg x=ba (.ref a))(p:A4 K x st f)(ok:∀{fd:Ci},SO K x x st f fd->FnH P w K mg base k f fd ps sp)(l:∀{kV doc h:Uw}{i:Option Ux}{e ct:Uw}(g:List Uw),g.length=ps.length->bindArgs (Mr x x (Y0 st) (aY st) (cL st) .none kV doc h i e ct) ⟨g,[]⟩=pure (ps.zip g)):DefH P w K mg base x k ps sp f:=by obtain⟨oc,od,kV,doc,h,i,e,ct,j,a,b,c,d⟩:=p;have U:=PH (st:=st) b c d;exact⟨X _ _ a,⟨_,ok U,U.binds λ_ _ _ _ _ _=>l⟩,d⟩
end
abbrev Gn(K:Ah)(x:Va)(v:Uw):Prop:=Gs K Vd x=ba (ba v)
def tS(xs:List (Va×Nat)):Vi:=⟨.type "tuple",bb,.seq (xs.map λz=>Nc z.1 z.2).toArray 0,#[]⟩
theorem Len1{α:Type}{P:List α->Prop}(z:∀a,P [a]):∀b:List α,b.length=1->P b
 |[a],_=>z a
theorem Len2{α:Type}{P:List α->Prop}(z:∀a b,P [a,b]):∀c:List α,c.length=2->P c
 |[a,b],_=>z a b
theorem Len3{α:Type}{P:List α->Prop}(z:∀a b c,P [a,b,c]):∀d:List α,d.length=3->P d
 |[a,b,c],_=>z a b c
theorem Len4{α:Type}{P:List α->Prop}(z:∀a b c d,P [a,b,c,d]):∀e:List α,e.length=4->P e
 |[a,b,c,d],_=>z a b c d
theorem Len5{α:Type}{P:List α->Prop}(z:∀a b c d e,P [a,b,c,d,e]):∀f:List α,f.length=5->P f
 |[a,b,c,d,e],_=>z a b c d e
theorem Len6{α:Type}{P:List α->Prop}(z:∀a b c d e f,P [a,b,c,d,e,f]):∀g:List α,g.length=6->P g
 |[a,b,c,d,e,f],_=>z a b c d e f
structure Txt(w:Ve)(K:Ah)(mg:Va->Option Uw):Prop where
 fnm:∀x a,Gn K x (.ref a)->mg x=ba (.ref a)
 fni:∀x i t,Gn K x (.int i t)->mg x=ba (.int i t)
 p_x0:A4 K "is_whole" (top 19) 224
 p_x1:A4 K "parts_of" (top 28) 241
 p_x2:A4 K "makes_word" (top 29) 248
 p_x3:A4 K "place_of" (top 30) 255
 p_x4:A4 K "names_of" (top 31) 260
 p_x5:A4 K "may_name" (top 32) 267
 p_x6:A4 K "fits" (top 33) 274
 p_x7:A4 K "is_row" (top 34) 279
 p_x8:A4 K "is_block" (top 35) 286
 p_x9:A4 K "row_at" (top 36) 293
 p_x10:A4 K "writes" (top 38) 300
 p_x11:A4 K "can_fault" (top 40) 314
 p_x12:A4 K "share_written_cell" (top 41) 321
 p_x13:A4 K "must_stay" (top 42) 328
 p_x14:A4 K "must_pairs" (top 43) 333
 p_x15:A4 K "ahead" (top 44) 338
 p_x16:A4 K "is_lanes" (top 48) 345
 p_x17:A4 K "may_follow" (top 49) 352
 p_x18:A4 K "is_pack" (top 50) 357
 p_x19:A4 K "rows_within" (top 51) 362
 p_x20:A4 K "check_lanes" (top 52) 369
 p_x21:A4 K "rows_alone" (top 53) 374
 p_x22:A4 K "wished" (top 58) 401
 p_x23:A4 K "supply" (top 59) 406
 p_x24:A4 K "wished_as" (top 60) 411
 p_x25:A4 K "drawn_rows" (top 61) 416
 p_x26:A4 K "plan_cost" (top 62) 421
 p_x27:A4 K "check_few" (top 65) 428
 p_x28:A4 K "all_packs" (top 66) 433
 p_x29:A4 K "packs" (top 67) 440
 p_x30:A4 K "may_join" (top 68) 445
 p_x31:A4 K "best_plan" (top 69) 451
 p_x32:A4 K "is_parted" (top 70) 456
 p_x33:A4 K "pack_from" (top 71) 463
 p_x34:A4 K "full_plan" (top 72) 468
 p_x35:A4 K "thinned" (top 73) 473
 p_x36:A4 K "found_plan" (top 74) 481
 p_x37:A4 K "_law_cell_at" (top 76) 488
 p_x38:A4 K "_law_mixed" (top 77) 495
 p_x39:A4 K "_law_draw" (top 78) 502
 p_x40:A4 K "_law_pick" (top 79) 509
 p_x41:A4 K "_law_place" (top 80) 516
 p_x42:A4 K "_law_row" (top 81) 521
 p_x44:A4 K "_law_next" (top 83) 535
 p_x43:A4 K "_law_rows" (top 82) 528
 p_x46:A4 K "_law_names" (top 85) 547
 p_x47:A4 K "_law_may" (top 86) 552
 p_x48:A4 K "_law_must" (top 87) 557
 p_x51:A4 K "_law_mixed_order" (top 90) 576
 p_x52:A4 K "_law_renamed" (top 91) 581
 p_x45:A4 K "_law_block" (top 84) 540
 p_x49:A4 K "_law_which" (top 88) 564
 p_x50:A4 K "_law_none" (top 89) 571
 p_x53:A4 K "_law_ask" (top 92) 588
 n_len:mg "len"=bb
 n_range:mg "range"=bb
 n_min:mg "min"=bb
 n_max:mg "max"=bb
 RY:mg "list"=bb
 n_tuple:mg "tuple"=bb
 n_sorted:mg "sorted"=bb
 n_isinstance:mg "isinstance"=bb
 n_bool:mg "bool"=bb
 n_int:mg "int"=bb
 n_str:mg "str"=bb
 n_enumerate:mg "enumerate"=bb
 n_zip:mg "zip"=bb
 n_all:mg "all"=bb
 n_any:mg "any"=bb
 n_dict:mg "dict"=bb
 n_ValueError:mg "ValueError"=bb
 n_reversed:mg "reversed"=bb
 g_MOST_WORD:Gn K "MOST_WORD" (.int 999 460)
 o_a9:K.lookup 217=ba (tS [("plus",462),("minus",463),("times",464),("least",465),("most",466),("less",467),("over",468)])
 g_DEEDS:Gn K "DEEDS" (.ref 217)
 g_MOST_SURE:Gn K "MOST_SURE" (.int 64 481)
 g_MOST_ROWS:Gn K "MOST_ROWS" (.int 40 483)
 g_MOST_PLACE:Gn K "MOST_PLACE" (.int 63 485)
 o_a15:K.lookup 225=ba (tS [("row",487),("row",488)])
 g_DEED_PARTS:Gn K "DEED_PARTS" (.ref 225)
 o_a23:K.lookup 227=ba (tS [("word",491)])
 o_a27:K.lookup 228=ba (tS [("row",493),("row",494),("row",495)])
 o_a29:K.lookup 229=ba (tS [("place",497)])
 o_a33:K.lookup 230=ba (tS [("place",499),("row",500),("row",501)])
 o_a36:K.lookup 231=ba (tS [("place",503),("row",504)])
 o_a40:K.lookup 232=ba (tS [("place",506),("row",507),("row",508)])
 o_a41:K.lookup 226=ba ⟨.type "dict",bb,.dict #[⟨Fl w.params "number",.str "number" 490,.ref 227⟩,⟨Fl w.params "pick",.str "pick" 492,.ref 228⟩,⟨Fl w.params "load",.str "load" 496,.ref 229⟩,⟨Fl w.params "take",.str "take" 498,.ref 230⟩,⟨Fl w.params "store",.str "store" 502,.ref 231⟩,⟨Fl w.params "put",.str "put" 505,.ref 232⟩] 6,#[]⟩
 g_OTHER_PARTS:Gn K "OTHER_PARTS" (.ref 226)
 o_a50:K.lookup 233=ba (tS [("load",516),("take",517)])
 g_READERS:Gn K "READERS" (.ref 233)
 o_a53:K.lookup 234=ba (tS [("store",519),("put",520)])
 g_WRITERS:Gn K "WRITERS" (.ref 234)
 g_LEAST_LANES:Gn K "LEAST_LANES" (.int 2 654)
 g_MOST_LANES:Gn K "MOST_LANES" (.int 4 656)
 g_MOST_TRIED_ROWS:Gn K "MOST_TRIED_ROWS" (.int 8 763)
 g_Nothing:Gn K "Nothing" (.ref 214)
 g_NotValid:Gn K "NotValid" (.ref 202)
 g_TooLong:Gn K "TooLong" (.ref 183)
 g_TooMany:Gn K "TooMany" (.ref 171)
 g_NoName:Gn K "NoName" (.ref 159)
 g_NoText:Gn K "NoText" (.ref 140)
 g_NoLoop:Gn K "NoLoop" (.ref 128)
 g_NoTree:Gn K "NoTree" (.ref 116)
 g_NoProgram:Gn K "NoProgram" (.ref 104)
 g_NoPlan:Gn K "NoPlan" (.ref 92)
 g_NoLanes:Gn K "NoLanes" (.ref 80)
 g_NoRow:Gn K "NoRow" (.ref 68)
 g_NoCells:Gn K "NoCells" (.ref 49)
 g_NoBlock:Gn K "NoBlock" (.ref 37)
 xc_NoBlock:XE K "NoBlock" 37
 xc_NoLanes:XE K "NoLanes" 80
 xc_TooMany:XE K "TooMany" 171
 xk:xiOk K GV UP=bc
 p_x54:A4 K "law" (top 93) 593
 lam_x31:AD K 451 ⟨247,26,247,76⟩ ("best_plan" ++ ".<locals>." ++ "<lambda>")
 lam_x36:AD K 481 ⟨288,31,288,71⟩ ("found_plan" ++ ".<locals>." ++ "<lambda>")
section
open PySem.Spec PyProof.Rows
def W9(P:Aw){w:Ve}{K:Ah}{mg:Va->Option Uw}(base:Vg){x:Va}{st:Vj}{f:Ux}(N ps:List Va)(k:Nat)(g:VS)(ml:List Nat)(T:Txt w K mg)(p:A4 K x st f)(i:∀{a:Uw}{A:Bw}{outer:List Env}{s:Ae}{H:Hp}{E:XK}(_:aS N ps (cL st)) (j:ZZ k (A.deeper (envOfC x (cL st) s.heap.objs.size f a))) (_:(A.deeper (envOfC x (cL st) s.heap.objs.size f a)).units+64<cLine) (_:(A.deeper (envOfC x (cL st) s.heap.objs.size f a)).units+1<cLine),W7 (UT CX0 P w K mg base N x (cL st) f a A outer s H E).nox (aY st) (WL K ml g))(S:aS N ps (cL st):=by exact MZ)(c:ps.length<=N.length:=by decide)(e:∀{kV doc d:Uw}{h:Option Ux}{a ct:Uw}(b:List Uw),b.length=ps.length->bindArgs (Mr x x (Y0 st) (aY st) (cL st) .none kV doc d h a ct) ⟨b,[]⟩=pure (ps.zip b):=by first|exact Len1 λ_=>rfl|exact Len2 λ_ _=>rfl|exact Len3 λ_ _ _=>rfl|exact Len4 λ_ _ _ _=>rfl|exact Len5 λ_ _ _ _ _=>rfl|exact Len6 λ_ _ _ _ _ _=>rfl):aA P w K mg base x (k+1) ps ml (a9 N.length ml g) f:=
 mkDg T.fnm p (λF=>okWg P w K mg base N ps k g ml F S i c) e
end
section
open PySem.Spec PyProof.Rows
abbrev BKw(x p q:Va)(st:Vj):Prop:=∀{kV doc b:Uw}{c:Option Ux}{a ct:Uw}(u v:Uw),bindArgs (Mr x x (Y0 st) (aY st) (cL st) .none kV doc b c a ct) ⟨[u],[(q,v)]⟩=pure [(p,u),(q,v)]
def Yd{P:Aw}{w:Ve}{K:Ah}{mg:Va->Option Uw}{base:Vg}{x p q:Va}{st:Vj}{f:Ux}{e:List cV->Option Xw}{k:Nat}(X:∀x a,Gn K x (.ref a)->mg x=ba (.ref a))(pp:A4 K x st f)(ok:∀{fd:Ci},SO K x x st f fd->YO P w K mg base (GQ P w) k f fd [p,q] (spX K 2 e))(h:BKw x p q st):Vv P w K mg base x k p q e f:=by obtain⟨oc,od,kV,doc,j,l,i,ct,g,a,b,c,d⟩:=pp;have U:=PH (st:=st) b c d;exact⟨X _ _ a,⟨_,ok U,kb1 λu v=>h u v⟩,d⟩
def mkDK{P:Aw}{w:Ve}{K:Ah}{mg:Va->Option Uw}{base:Vg}{x p q:Va}{st:Vj}{f:Ux}{F:bM}{k:Nat}(X:∀x a,Gn K x (.ref a)->mg x=ba (.ref a))(pp:A4 K x st f)(ok:∀{fd:Ci},SO K x x st f fd->YO P w K mg base CX0 k f fd [p,q] (spV K [] 2 F))(g:BKw x p q st):DefK P w K mg base x k p q F f:=by obtain⟨oc,od,kV,doc,i,j,h,ct,e,a,b,c,d⟩:=pp;have U:=PH (st:=st) b c d;exact⟨X _ _ a,⟨_,ok U,kb1 λu v=>g u v⟩,d⟩
end
section
variable{P:Aw}{w:Ve}{K:Ah}{mg:Va->Option Uw}{base:Vg}(T:Txt w K mg)
include T
def vI{x:Va}{i:Int}{t:Nat}(g:Gn K x (.int i t)):∃u v,mg x=ba u/\bE v u/\∀N H M,bC K N H M v (.int i):=⟨_,.int i,T.fni _ _ _ g,⟨_,rfl⟩,λ_ _ _=>.int _⟩
omit T in
def rS{N:Ux->Prop}{H:Hp}{M:Ux->Prop}{a:Ux}{xs:List (Va×Nat)}(o:K.lookup a=ba (tS xs))(hl:xs.length<=9:=by decide):bC K N H M (.ref a) (.tup (xs.map λz=>.str z.1)):=by
 refine .tup (xs:=xs.map λz=>.str z.1) (.inr ⟨_,_,_,o,rfl,rfl,by show(xs.map _).length<=_;rw[Ce];exact Fc hl (by decide),?_⟩) ?_
 ·show bL _ (xs.map λz => Nc z.1 z.2)
  clear o hl;induction xs with
  |nil=>exact .nil
  |cons z zs b=>exact .cons ⟨_,rfl⟩ b
 ·clear o hl
  induction xs with
  |nil=>exact .nil
  |cons z zs b=>exact .cons (.str _) b
def vS{x:Va}{a:Ux}{xs:List (Va×Nat)}(g:Gn K x (.ref a))(o:K.lookup a=ba (tS xs))(hl:xs.length<=9:=by decide):∃u v,mg x=ba u/\bE v u/\∀N H M,bC K N H M v (.tup (xs.map λz=>.str z.1)):=⟨_,.ref a,T.fnm _ _ g,rfl,λ_ _ _=>rS o hl⟩
def vF{x:Va}{a:Ux}(g:Gn K x (.ref a)):∃u v,mg x=ba u/\bE v u/\∀N H M,bC K N H M v (.fn x):=⟨_,.ref a,T.fnm _ _ g,rfl,λ_ _ _=>.fn g⟩
def vX{x:Va}{C:Ux}(h:XE K x C):∃C,XE K x C/\mg x=ba (.ref C):=⟨_,h,T.fnm _ _ h.xc.at_⟩
def LW:∃u v,mg "OTHER_PARTS"=ba u/\bE v u/\∀N H M,bC K N H M v SG:=
 ⟨_,.ref 226,T.fnm _ _ T.g_OTHER_PARTS,rfl,λ_ _ _=>(.ktb (D:=[("number",.ref 227),("pick",.ref 228),("load",.ref 229),("take",.ref 230),("store",.ref 231),("put",.ref 232)]) ⟨(by decide),_,_,_,T.o_a41,⟨rfl,rfl,rfl⟩,rfl,(.cons rfl rfl (.cons rfl rfl (.cons rfl rfl (.cons rfl rfl (.cons rfl rfl (.cons rfl rfl .nil))))))⟩ (.cons (rS T.o_a23) (.cons (rS T.o_a27) (.cons (rS T.o_a29) (.cons (rS T.o_a33) (.cons (rS T.o_a36) (.cons (rS T.o_a40) .nil)))))))⟩
def xi:XI K GV UP:=XI.of (Ka.mpr ⟨⟨_,T.xc_NoBlock.xc⟩,Ka.mpr ⟨⟨_,T.xc_NoLanes.xc⟩,Ka.mpr ⟨⟨_,T.xc_TooMany.xc⟩,nofun⟩⟩⟩) T.xk
noncomputable abbrev Nx0:List Va:=["thing","low","high"]
abbrev Nx1:List Va:=["deed"]
abbrev Nx2:List Va:=["row"]
abbrev Nx4:List Va:=["row","deed","rest"]
abbrev Nx5:List Va:=["thing","able"]
abbrev Nx6:List Va:=["part","thing","able"]
noncomputable abbrev Nx7:List Va:=["thing","able","deed","rest","parts"]
noncomputable abbrev Nx8:List Va:=["thing","sure","rows","able","row"]
abbrev Qx8:List Va:=["thing"]
abbrev Nx9:List Va:=["block","row","rows"]
abbrev Qx9:List Va:=["block","row"]
noncomputable abbrev Nx11:List Va:=["block","at","sure","rows","row","place"]
abbrev Qx11:List Va:=["block","at"]
abbrev Nx12:List Va:=["row","other"]
noncomputable abbrev Nx13:List Va:=["block","first","second","rows","first_faults","second_faults"]
abbrev Qx13:List Va:=["block","first","second"]
noncomputable abbrev Nx14:List Va:=["block","many","pairs"]
abbrev Qx14:List Va:=["block"]
noncomputable abbrev Nx15:List Va:=["block","row","found","first"]
abbrev Nx17:List Va:=["rows","first","second","deed","place"]
abbrev Qx17:List Va:=["rows","first","second"]
abbrev Nx18:List Va:=["block","lanes","thing","rows"]
abbrev Qx18:List Va:=["block","lanes","thing"]
abbrev Nx19:List Va:=["tuples"]
abbrev ZD:List Va:=["block","lanes"]
noncomputable abbrev Nx21:List Va:=["block","plan","packed"]
abbrev Qx21:List Va:=["block","plan"]
noncomputable abbrev Nx22:List Va:=["block","plan","tuples","pack","by_lane","spot"]
noncomputable abbrev Nx23:List Va:=["block","plan","rows","packed","sources"]
abbrev Qx23:List Va:=["block","plan","rows"]
abbrev Nx24:List Va:=["block","plan","kind"]
abbrev Nx25:List Va:=["block","plan","needed","row"]
noncomputable abbrev Nx26:List Va:=["block","lanes","plan","alone","shuffled","gathered","moved"]
abbrev Qx26:List Va:=["block","lanes","plan"]
noncomputable abbrev Nx28:List Va:=["block","lanes","many","found","size","longer"]
noncomputable abbrev Nx30:List Va:=["block","pairs","plan","pack","taken"]
abbrev Qx30:List Va:=["block","pairs","plan","pack"]
noncomputable abbrev Nx31:List Va:=["block","lanes","pairs","plans","pack"]
noncomputable abbrev Nx32:List Va:=["aheads","rows","between","needed"]
abbrev Qx32:List Va:=["aheads","rows"]
noncomputable abbrev Nx33:List Va:=["block","lanes","aheads","free","rows","row","more"]
abbrev Qx33:List Va:=["block","lanes","aheads","free"]
noncomputable abbrev Nx34:List Va:=["block","lanes","pairs","aheads","plan","row","taken","free","pack"]
noncomputable abbrev Nx35:List Va:=["block","lanes","plan","left","pack","without"]
noncomputable abbrev Nx36:List Va:=["block","lanes","plan","thinner"]
noncomputable abbrev Nx37:List Va:=["_law_script","_law_k","_law_rest","_law_again"]
abbrev Qx37:List Va:=["_law_script","_law_k"]
noncomputable abbrev Nx38:List Va:=["_law_script","_law_k","_law_bound","_law_drawn"]
abbrev Qx38:List Va:=["_law_script","_law_k","_law_bound"]
abbrev Nx39:List Va:=["_law_script","_law_town","_law_bound"]
abbrev Nx40:List Va:=["_law_script","_law_town","_law_some"]
noncomputable abbrev Nx41:List Va:=["_law_script","_law_town","_law_seen","_law_deed","_law_room"]
noncomputable abbrev Nx42:List Va:=["_law_script","_law_town","_law_made","_law_seen","_law_room","_law_kind","_law_a","_law_b","_law_c"]
abbrev Qx42:List Va:=["_law_script","_law_town","_law_made","_law_seen","_law_room"]
noncomputable abbrev Nx44:List Va:=["_law_script","_law_town","_law_rows_here","_law_made","_law_seen","_law_room","_law_last","_law_first","_law_names_here","_law_name","_law_at"]
abbrev Qx44:List Va:=["_law_script","_law_town","_law_rows_here","_law_made","_law_seen","_law_room"]
noncomputable abbrev Nx43:List Va:=["_law_script","_law_town","_law_many","_law_room","_law_rows_here","_law_made","_law_seen","_law_again"]
abbrev Qx43:List Va:=["_law_script","_law_town","_law_many","_law_room"]
abbrev Nx46:List Va:=["_law_row_here"]
noncomputable abbrev Nx47:List Va:=["_law_block_here","_law_row_here","_law_here"]
abbrev Qx47:List Va:=["_law_block_here","_law_row_here"]
noncomputable abbrev Nx48:List Va:=["_law_block_here","_law_made","_law_cells","_law_two","_law_there","_law_one","_law_here","_law_writes","_law_reasons"]
abbrev Qx48:List Va:=["_law_block_here"]
noncomputable abbrev Nx51:List Va:=["_law_script","_law_town","_law_block_here","_law_pairs","_law_left","_law_made","_law_ready"]
abbrev Qx51:List Va:=["_law_script","_law_town","_law_block_here"]
abbrev Nx52:List Va:=["_law_row_here","_law_names_here","_law_first"]
abbrev Qx52:List Va:=["_law_row_here","_law_names_here"]
noncomputable abbrev Nx45:List Va:=["_law_script","_law_town","_law_most","_law_room","_law_sure","_law_block_here","_law_order_there","_law_names_here"]
abbrev Qx45:List Va:=["_law_script","_law_town","_law_most"]
abbrev Nx49:List Va:=["_law_e","_law_own"]
abbrev Qx49:List Va:=["_law_e"]
abbrev Qx50:List Va:=["_law_script","_law_town"]
abbrev Nx53:List Va:=["_law_what","_law_block_here","_law_many","_law_e"]
abbrev Qx53:List Va:=["_law_what","_law_block_here","_law_many"]
noncomputable abbrev Nx54:List Va:=["_law_script","_law_town","_law_block_here","_law_bad","_law_nine","_law_eight"]
abbrev Qx54:List Va:=["_law_script"]
def CJ:aA P w K mg base "is_whole" 1 Nx0 [] ZP 224:=
 W9 P base Nx0 Nx0 0 RO [] T T.p_x0 λb d c a=>by
  refine cU ?_ ?_
  ·exact(bD (UW (VV (aP (D3 T.n_isinstance (vv 0) (vty T.n_bool nW))) (XM (Y8 (aP (D3 T.n_isinstance (vv 0) (vty T.n_int ky)))))))
   (cP (cI YV))
   cC)
  exact cP (cI (p8 Wa Wa s_le s_le (vv 1) (vv 0) (vv 2)))
def D_x1:aA P w K mg base "parts_of" 1 Nx1 [] ZQ 241:=
 W9 P base Nx1 Nx1 0 MP [] T T.p_x1 λc d b a=>by
  refine cU ?_ ?_
  ·exact (bD (bQ (V2 b) (ZI (neg := bd)) (vv 0) (bO (by rfl) (vS T T.g_DEEDS T.o_a9)) (by with_unfolding_all rfl))
   (cP (cI (bO (by rfl) (vS T T.g_DEED_PARTS T.o_a15))))
   cC)
  exact cP (cI (gA rfl a (bO (by rfl) (LW T)) (vv 0) ⟨rfl,rfl,rfl,rfl⟩))
def D_x2:aA P w K mg base "makes_word" 1 Nx2 [] WY 248:=
 W9 P base Nx2 Nx2 0 VA [] T T.p_x2 λc d b a=>by exact(cP (cI (YH (TD b) (ZI (neg:=bc)) (ZT a (vv 0) cS) (bO (by rfl) (vS T T.g_WRITERS T.o_a53)) (by with_unfolding_all rfl))))
def D_x3:aA P w K mg base "place_of" 1 Nx2 [] XZ 255:=
 W9 P base Nx2 Nx2 0 MQ [] T T.p_x3 λc d b a=>by exact(cP (cI (OV (UW (VV (bQ (V2 b) (ZI (neg:=bd)) (ZT a (vv 0) cS) (bO (by rfl) (vS T T.g_READERS T.o_a50)) (by with_unfolding_all rfl)) (XM (bQ (V2 b) (ZI (neg:=bd)) (ZT a (vv 0) cS) (bO (by rfl) (vS T T.g_WRITERS T.o_a53)) (by with_unfolding_all rfl))))) (ZT a (vv 0) cS) V5)))
def D_x4:aA P w K mg base "names_of" 2 Nx2 [] RF 260:=
 W9 P base Nx4 Nx2 1 MO [] T T.p_x4 λb e d c=>by
  refine cU ?_ ?_
  ·exact(CG (i:=1) (j:=2) rfl rfl b.nd rfl rfl (by decide) (Ez rfl) (Ez rfl) (vv 0))
  exact cP (cI (bX (aU ["part","given"] [] 2 (D2 rfl (by rfl) T.n_zip (cN (bW (D_x1 T) e (cR (vv 1) cQ))) (vv 2)) (λa _ _ _ _=>⟨(WV (K:=K) rfl rfl (bB (cH a) (bB (cH a) YJ))),(WU (XJ d (vv 0) cD)),(vv 1)⟩))))
def D_x5:aA P w K mg base "may_name" 2 Nx5 [] U3 267:=
 W9 P base Nx5 Nx5 1 RV [] T T.p_x5 λc b d a=>by exact(cP (cI (XH (bW (CJ T) b (cR (vv 0) (cR cS (cR (cN (YI UL OU (ZC T.n_len (vv 1)) cS)) cQ)))) (X2 (ZT a (vv 1) (vv 0))))))
def D_x6:aA P w K mg base "fits" 3 Nx6 [] TY 274:=
 W9 P base Nx6 Nx6 2 MK [] T T.p_x6 λd a b c=>by
  refine cU ?_ ?_
  ·exact(bD (XJ b (vv 0) cD)
   (cP (cI (bW (CJ T) a (cR (vv 1) (cR cS (cR (cN (bO (by rfl) (vI T T.g_MOST_WORD))) cQ))))))
   cC)
  refine cU ?_ ?_
  ·exact(bD (XJ b (vv 0) cD)
   (cP (cI (bW (CJ T) a (cR (vv 1) (cR cS (cR (cN (bO (by rfl) (vI T T.g_MOST_PLACE))) cQ))))))
   cC)
  exact cP (cI (bW (D_x5 T) a (cR (vv 1) (cR (vv 2) cQ))))
def D_x7:aA P w K mg base "is_row" 4 Nx5 [] QB 279:=
 W9 P base Nx7 Nx5 3 MM [] T T.p_x7 λa c b e=>by
  refine cU ?_ ?_
  ·exact(bD (UW (VV (Y8 (aP (D3 T.n_isinstance (vv 0) (vty T.n_tuple YA)))) (XM (XJ b (ZC T.n_len (vv 0)) cS))))
   (cP (cI YV))
   cC)
  refine cU ?_ ?_
  ·exact(CG (i:=2) (j:=3) rfl rfl a.nd rfl rfl (by decide) (Ez rfl) (Ez rfl) (vv 0))
  refine cU ?_ ?_
  ·exact(bY a.nd (bJ (cN (OV (aP (D3 T.n_isinstance (vv 2) (vty T.n_str iK))) (bW (D_x1 T) c (cR (vv 2) cQ)) V5))))
  refine cU ?_ ?_
  ·exact(bD (UW (VV (bQ Xb dF (vv 4) V5) (XM (bQ (RX b) R7 (ZC T.n_len (vv 4)) (ZC T.n_len (vv 3))))))
   (cP (cI YV))
   cC)
  exact cP (cI (GA (kAll rfl) Ww (by rfl) T.n_all CQ (bX (aU ["able","part","given"] [1] 2 (D2 rfl (by rfl) T.n_zip (vv 4) (vv 3)) (λd _ _ _ _=>⟨(WV (K:=K) rfl rfl (bB (cH d) (bB (cH d) YJ))),Z1,(cN (bW (D_x6 T) c (cR (vv 1) (cR (vv 2) (cR (vv 0) cQ)))))⟩)))))
def D_x8:aA P w K mg base "is_block" 5 Qx8 [] ZO 286:=
 W9 P base Nx8 Qx8 4 RN [] T T.p_x8 λa b d c=>by
  refine cU ?_ ?_
  ·exact(bD (UW (VV (Y8 (aP (D3 T.n_isinstance (vv 0) (vty T.n_tuple YA)))) (XM (bQ (RX d) R7 (ZC T.n_len (vv 0)) cS))))
   (cP (cI YV))
   cC)
  refine cU ?_ ?_
  ·exact(D4 (vv 0) (WV (K:=K) rfl rfl (bB (cH a.nd) (bB (cH a.nd) YJ))))
  refine cU ?_ ?_
  ·exact (bD (Y8 (aP (bW (CJ T) b (cR (vv 1) (cR cS (cR (cN (bO (by rfl) (vI T T.g_MOST_SURE))) cQ))))))
   (cP (cI YV))
   cC)
  refine cU ?_ ?_
  ·exact (bD (UW (VV (Y8 (aP (D3 T.n_isinstance (vv 2) (vty T.n_tuple YA)))) (XM (bQ BD s_gt (ZC T.n_len (vv 2)) (bO (by rfl) (vI T T.g_MOST_ROWS))))))
   (cP (cI YV))
   cC)
  refine cU ?_ ?_
  ·exact(bY a.nd (WJ (aX (cA cJ))))
  refine cU ?_ ?_
  ·exact(YS Cb rfl (Z2 rfl (vv 2)) (cH a.nd)
   (cU (bD (Y8 (aP (bW (D_x7 T) b (cR (vv 4) (aW (pv 3) cQ)))))
   (cP (cI YV))
   cC)
   (cP (Y7 Bo Bp Z9 X1 (pv 3) (cA (cT (bW (D_x2 T) b (cR (vv 4) cQ)) cJ))))))
  exact cP (cI YV)
def D_x9:aA P w K mg base "row_at" 6 Qx9 [] D8 293:=
 W9 P base Nx9 Qx9 5 EO [] T T.p_x9 λc b d a=>by
  refine cU ?_ ?_
  ·exact(bD (Y8 (aP (bW (D_x8 T) b (cR (vv 0) cQ))))
   ZJ
   cC)
  refine cU ?_ ?_
  ·exact(bY c.nd (bJ (cN (ZT a (vv 0) cS))))
  refine cU ?_ ?_
  ·exact(bD (Y8 (aP (bW (CJ T) b (cR (vv 1) (cR cS (cR (cN (YI UL OU (ZC T.n_len (vv 2)) cS)) cQ))))))
   ZJ
   cC)
  exact cP (cI (ZT a (vv 2) (vv 1)))
def Vu:aA P w K mg base "writes" 1 Nx2 [] T2 300:=
 W9 P base Nx2 Nx2 0 ES [] T T.p_x10 λc d b a=>by exact(cP (cI (YH (V2 b) (ZI (neg:=bd)) (ZT a (vv 0) cS) (bO (by rfl) (vS T T.g_WRITERS T.o_a53)) (by with_unfolding_all rfl))))
def dL:aA P w K mg base "can_fault" 2 Qx11 [] TW 314:=
 W9 P base Nx11 Qx11 1 OH [] T T.p_x11 λb d c a=>by
  refine cU ?_ ?_
  ·exact(D4 (vv 0) (WV (K:=K) rfl rfl (bB (cH b.nd) (bB (cH b.nd) YJ))))
  refine cU ?_ ?_
  ·exact(bY b.nd (bJ (cN (ZT a (vv 3) (vv 1)))))
  refine cU ?_ ?_
  ·exact(bD (XJ c (ZT a (vv 4) cS) cD)
   ZJ
   cC)
  refine cU ?_ ?_
  ·exact(bY b.nd (bJ (cN (bW (D_x3 T) d (cR (vv 4) cQ)))))
  exact cP (cI (XH (YH BF Xp (vv 5) V5) (X2 (YH Wi s_ge (vv 5) (vv 2)))))
def jZ:aA P w K mg base "share_written_cell" 2 Nx12 [] XR 321:=
 W9 P base Nx12 Nx12 1 XV [] T T.p_x12 λd a c b=>by exact(cP (cI (XH (veq c (bW (D_x3 T) a (cR (vv 0) cQ)) (bW (D_x3 T) a (cR (vv 1) cQ))) (X2 (Wu (bW (Vu T) a (cR (vv 0) cQ)) (X2 (bW (Vu T) a (cR (vv 1) cQ))))))))
def Yp:aA P w K mg base "must_stay" 3 Qx13 [] T1 328:=
 W9 P base Nx13 Qx13 2 OM [] T T.p_x13 λc b d a=>by
  refine cU ?_ ?_
  ·exact(bY c.nd (bJ (cN (ZT a (vv 0) cS))))
  refine cU ?_ ?_
  ·exact (bD (UW (VV (bQ (V2 d) (ZI (neg := bd)) (vv 1) (bW (D_x4 T) b (cR (cN (ZT a (vv 3) (vv 2))) cQ)) (by with_unfolding_all rfl)) (XM (aP (bW (jZ T) b (cR (cN (ZT a (vv 3) (vv 1))) (cR (cN (ZT a (vv 3) (vv 2))) cQ)))))))
   (cP (cI YV))
   cC)
  refine cU ?_ ?_
  ·exact(CF (i:=4) (j:=5) rfl c.nd rfl rfl (by decide) rfl rfl (bJ (cN (bW (dL T) b (cR (vv 0) (cR (vv 1) cQ))))) (bJ (cN (bW (dL T) b (cR (vv 0) (cR (vv 2) cQ))))) rfl)
  refine cU ?_ ?_
  ·exact(bD (UW (P7 (aP (vv 4)) (TR (aP (vv 5)))))
   (cP (cI YV))
   cC)
  exact cP (cI (Wu (XH (vv 4) (X2 (bW (Vu T) b (cR (cN (ZT a (vv 3) (vv 2))) cQ)))) (X2 (XH (vv 5) (X2 (bW (Vu T) b (cR (cN (ZT a (vv 3) (vv 1))) cQ)))))))
def Zw:aA P w K mg base "must_pairs" 4 Qx14 [] U4 333:=
 W9 P base Nx14 Qx14 3 QT [] T T.p_x14 λb d e a=>by
  refine cU ?_ ?_
  ·exact(bY b.nd (bJ (cN (ZC T.n_len (ZT a (vv 0) cS)))))
  refine cU ?_ ?_
  ·exact(GH (i:=2) bd b.nd rfl rfl (N':=["many","first","second"]) (ix:=[1]) (nl:=2) rfl rfl (by rfl) rfl (by decide) (ZY (by rfl) T.n_range (vv 1)) (λcl s1 H1 fp=>⟨(cH (show(["many","first","second"]:List Va).Nodup by decide+kernel)),Z1,(VT (by rfl) T.n_range (bI ZN aN (vv 1) cS) (vv 0)),(cH (show(["many","first","second"]:List Va).Nodup by decide+kernel)),Z1,(cN (bP (cT (vv 1) (cT (vv 2) cJ))))⟩))
  exact cP (cI (bX (aU ["block","first","second"] [0] 2 (Z2 rfl (vv 2)) (λc _ _ _ _=>⟨(WV (K:=K) rfl rfl (bB (cH c) (bB (cH c) YJ))),(WU (aP (bW (Yp T) d (cR (vv 0) (cR (vv 1) (cR (vv 2) cQ)))))),(cN (bP (cT (vv 1) (cT (vv 2) cJ))))⟩))))
def nv:aA P w K mg base "ahead" 7 Qx9 [] AB 338:=
 W9 P base Nx15 Qx9 6 AO [] T T.p_x15 λa b e c=>by
  refine cU ?_ ?_
  ·exact(TQ (bW (D_x9 T) b (cR (vv 0) (cR (vv 1) cQ))))
  refine cU ?_ ?_
  ·exact(bY a.nd (WJ (aX (cA cJ))))
  refine cU ?_ ?_
  ·exact (YS Cb rfl (lB (by rfl) T.n_range (by rfl) T.n_reversed (vv 1)) (cH a.nd)
   (cP (bD (aP (GA (kAny rfl) pH (by rfl) T.n_any lm (bX (aU ["block","first","later"] [0,3] 1 (Z2 rfl (cN (bI ZN aN (vo 2) (bX (aX (cA (cT (vv 1) cJ))))))) (λd _ _ _ _=>⟨(cH d),Z1,(cN (bW (Yp T) b (cR (vv 0) (cR (vv 1) (cR (vv 2) cQ)))))⟩)))))
   (cP (Y7 Bo Bp Z9 X1 (pv 2) (cA (cT (vv 3) cJ))))
   cC)))
  exact cP (cI (bX (Wk C6 HN (by rfl) T.n_sorted O9 (GD (vo 2)))))
def dC:aA P w K mg base "is_lanes" 2 Qx8 [] XX 345:=
 W9 P base Qx8 Qx8 1 ML [] T T.p_x16 λc b d a=>by exact(cP (cI (bW (CJ T) b (cR (vv 0) (cR (cN (bO (by rfl) (vI T T.g_LEAST_LANES))) (cR (cN (bO (by rfl) (vI T T.g_MOST_LANES))) cQ))))))
def iC:aA P w K mg base "may_follow" 2 Qx17 [] QC 352:=
 W9 P base Nx17 Qx17 1 QS [] T T.p_x17 λc d b a=>by
  refine cU ?_ ?_
  ·exact(bY c.nd (bJ (cN (ZT a (ZT a (vv 0) (vv 1)) cS))))
  refine cU ?_ ?_
  ·exact(bD (UW (VV (bQ Wi s_ge (vv 1) (vv 2)) (VV (XJ b (vv 3) cD) (XM (bQ (RX b) R7 (ZT a (ZT a (vv 0) (vv 2)) cS) (vv 3))))))
   (cP (cI YV))
   cC)
  refine cU ?_ ?_
  ·exact(bY c.nd (bJ (cN (bW (D_x3 T) d (cR (cN (ZT a (vv 0) (vv 1))) cQ)))))
  exact cP (cI (Wu (YH Xb dF (vv 4) V5) (X2 (veq b (bW (D_x3 T) d (cR (cN (ZT a (vv 0) (vv 2))) cQ)) (bI ZN aN (vv 4) cS)))))
def Zu:aA P w K mg base "is_pack" 3 Qx18 [] OX 357:=
 W9 P base Nx18 Qx18 2 JS [] T T.p_x18 λd c e b=>by
  refine cU ?_ ?_
  ·exact(bY d.nd (bJ (cN (ZT b (vv 0) cS))))
  refine cU ?_ ?_
  ·exact(bD (UW (VV (Y8 (aP (D3 T.n_isinstance (vv 2) (vty T.n_tuple YA)))) (XM (bQ (RX e) R7 (ZC T.n_len (vv 2)) (vv 1)))))
   (cP (cI YV))
   cC)
  refine cU ?_ ?_
  ·exact (bD (Y8 (aP (GA (kAll rfl) Ww (by rfl) T.n_all CQ (bX (aU ["rows","row"] [3] 1 (Z2 rfl (vv 2)) (λa _ _ _ _ => ⟨(cH a),Z1,(cN (bW (CJ T) c (cR (vv 1) (cR cS (cR (cN (YI UL OU (ZC T.n_len (vv 0)) cS)) cQ)))))⟩))))))
   (cP (cI YV))
   cC)
  refine cU ?_ ?_
  ·exact (bD (Y8 (aP (GA (kAll rfl) Ww (by rfl) T.n_all CQ (bX (aU ["rows","first","second"] [3] 2 (D2 rfl (by rfl) T.n_zip (vv 2) (cN (SK rfl (vv 2) (SN cS) SM))) (λa _ _ _ _ => ⟨(WV (K := K) rfl rfl (bB (cH a) (bB (cH a) YJ))),Z1,(cN (bW (iC T) c (cR (vv 0) (cR (vv 1) (cR (vv 2) cQ)))))⟩))))))
   (cP (cI YV))
   cC)
  exact ZJ
def Wh:aA P w K mg base "rows_within" 1 Nx19 [] ZA 362:=
 W9 P base Nx19 Nx19 0 SI [] T T.p_x19 λb d c a=>by exact(cP (cI (bX (GF (N':=["rows","row"]) (ix:=[]) (nl:=2) rfl rfl (by rfl) rfl (by decide) (Z2 rfl (vv 0)) (λcl s1 H1 fp=>⟨(cH (show(["rows","row"]:List Va).Nodup by decide+kernel)),Z1,(Z2 rfl (vv 0)),(cH (show(["rows","row"]:List Va).Nodup by decide+kernel)),Z1,(vv 1)⟩)))))
def mB:Def P w K mg base "rows_within" 1 Nx19 (spN K 1 ZA) 362:=
 mkDg T.fnm T.p_x19 (λU=>okN U MZ (N:=Nx19) (by decide) rfl λ_ _ _ _ _ _ _=>(GF (N':=["rows","row"]) (ix:=[]) (nl:=2) rfl rfl (by rfl) rfl (by decide) (Z2 rfl (vv 0)) (λcl s1 H1 fp=>⟨(cH (show(["rows","row"]:List Va).Nodup by decide+kernel)),Z1,(Z2 rfl (vv 0)),(cH (show(["rows","row"]:List Va).Nodup by decide+kernel)),Z1,(vv 1)⟩))) (Len1 λ_=>rfl)
def Wc:aA P w K mg base "check_lanes" 6 ZD [] aF 369:=
 W9 P base ZD ZD 5 V0 [] T T.p_x20 λc a d b=>by
  refine cU ?_ ?_
  ·exact(bD (Y8 (aP (bW (D_x8 T) a (cR (vv 0) cQ))))
   (cP RD)
   cC)
  exact cP (bD (Y8 (aP (bW (dC T) a (cR (vv 1) cQ))))
   (cP RD)
   cC)
omit T in
def kJ:aS ZD ZD (cL (top 52)):=MZ
def lY{f:Ux}{fd:Ci}(F:SO K "check_lanes" "check_lanes" (top 52) f fd):YO P w K mg base (GQ P w) 6 f fd ZD (spX K 2 aG):=
 okZ P w K mg base ZD ZD 5 V7 F kJ λ_ _ _ _ _ _ a c b=>by
  exact(IS (ZK (CI (Y8 (aP (bW (D_x8 T) a (cR (vv 0) cQ)))) (ZK (NH rfl II rfl (by rfl) (vX T T.xc_NoBlock))) IT))
   (IU (bD (Y8 (aP (bW (D_x8 T) a (cR (vv 0) cQ))))
   (cP RD)
   cC)
   (ZK (CI (Y8 (aP (bW (dC T) a (cR (vv 1) cQ)))) (ZK (NH rfl II rfl (by rfl) (vX T T.xc_NoLanes))) IT))))
def Zt:DefX P w K mg base "check_lanes" 6 ZD aG 369:=
 Wv T.fnm T.p_x20 (λU=>lY T U) (Len2 λ_ _=>rfl)
def Yj:aA P w K mg base "rows_alone" 2 Qx21 [] U5 374:=
 W9 P base Nx21 Qx21 1 QU [] T T.p_x21 λb d c a=>by
  refine cU ?_ ?_
  ·exact(bY b.nd (bJ (cN (bW (Wh T) d (cR (vv 1) cQ)))))
  exact cP (cI (bX (aU ["packed","row"] [2] 1 (ZY (by rfl) T.n_range (ZC T.n_len (ZT a (vv 0) cS))) (λe _ _ _ _=>⟨(cH e),(WU (bQ (TD c) (ZI (neg:=bc)) (vv 1) (vv 0) (by with_unfolding_all rfl))),(vv 1)⟩))))
def fQ:aA P w K mg base "wished" 1 Qx21 [] EA 401:=
 W9 P base Nx22 Qx21 0 ER [] T T.p_x22 λa d c b=>by
  refine cU ?_ ?_
  ·exact(bY a.nd (WJ GG))
  refine cU ?_ ?_
  ·exact(YS Cb rfl (Z2 rfl (vv 1)) (cH a.nd)
   ZJ)
  exact cP (cI (bX (pq rfl (by rfl) T.RY (pv 2))))
def pG:aA P w K mg base "supply" 1 Qx23 [] D9 406:=
 W9 P base Nx23 Qx23 0 EQ [] T T.p_x23 λb d c a=>by exact ZJ
def Wp:aA P w K mg base "wished_as" 2 Nx24 [] WC 411:=
 W9 P base Nx24 Nx24 1 OP [] T T.p_x24 λe a c b=>by exact(cP (cI (bX (aU ["block","plan","kind","rows"] [0,1,2] 1 (Z2 rfl (cN (bW (fQ T) a (cR (vv 0) (cR (vv 1) cQ))))) (λd _ _ _ _=>⟨(cH d),(WU (XJ c (bW (pG T) a (cR (vv 0) (cR (vv 1) (cR (vv 3) cQ)))) (vv 2))),(vv 3)⟩)))))
def fF:aA P w K mg base "drawn_rows" 3 Qx21 [] QA 416:=
 W9 P base Nx25 Qx21 2 QR [] T T.p_x25 λc b d a=>by
  refine cU ?_ ?_
  ·exact(bY c.nd (WJ (oX rfl (mB T) b (by decide) (by rfl) (cN (bW (Wp T) b (cR (vv 0) (cR (vv 1) (cR cD cQ))))))))
  refine cU ?_ ?_
  ·exact(YS Cb rfl (Z2 rfl (cN (bW (Yj T) b (cR (vv 0) (cR (vv 1) cQ))))) (cH c.nd)
   (cP (Y7 Gp Gq (AY (K:=K) rfl) HM (pv 2) (cA (cT (bW (D_x4 T) b (cR (cN (ZT a (ZT a (vv 0) cS) (vv 3))) cQ)) cJ)))))
  exact cP (cI (bX (aU ["needed","row"] [2] 1 (Z2 rfl (bX (Wk C6 HN (by rfl) T.n_sorted O9 (GD (bW (Wh T) b (cR (vv 1) cQ)))))) (λe _ _ _ _=>⟨(cH e),(WU (bQ (V2 d) (ZI (neg:=bd)) (vv 1) (vo 0) (by with_unfolding_all rfl))),(vv 1)⟩))))
def Yu:aA P w K mg base "plan_cost" 4 Qx26 [] WB 421:=
 W9 P base Nx26 Qx26 3 OO [] T T.p_x26 λb c d a=>by
  refine cU ?_ ?_
  ·exact(VU bd b.nd ["block","row"] [0] 1 (Z2 rfl (cN (bW (Yj T) c (cR (vv 0) (cR (vv 2) cQ))))) (λe _ _ _ _=>⟨(cH e),(WU (bQ (RX d) R7 (ZT a (ZT a (ZT a (vv 0) cS) (vv 1)) cS) cD)),(vv 1)⟩))
  refine cU ?_ ?_
  ·exact(bY b.nd (bJ (cN (bW (Wp T) c (cR (vv 0) (cR (vv 2) (cR cD cQ)))))))
  refine cU ?_ ?_
  ·exact(bY b.nd (bJ (cN (bW (Wp T) c (cR (vv 0) (cR (vv 2) (cR cD cQ)))))))
  refine cU ?_ ?_
  ·exact(bY b.nd (bJ (cN (bI ZN aN (bI ZN aN (ZC T.n_len (vv 4)) (bI MU QL (vv 1) (ZC T.n_len (vv 5)))) (ZC T.n_len (bW (fF T) c (cR (vv 0) (cR (vv 2) cQ))))))))
  exact cP (cI (bI ZN aN (bI ZN aN (ZC T.n_len (vv 3)) (ZC T.n_len (vv 2))) (vv 6)))
def Xi:aA P w K mg base "check_few" 7 ZD [] XO 428:=
 W9 P base ZD ZD 6 T8 [] T T.p_x27 λc b d a=>by
  refine cU ?_ ?_
  ·exact(TQ (bW (Wc T) b (cR (vv 0) (cR (vv 1) cQ))))
  exact cP (bD (bQ BD s_gt (ZC T.n_len (ZT a (vv 0) cS)) (bO (by rfl) (vI T T.g_MOST_TRIED_ROWS)))
   (cP RD)
   cC)
omit T in
def lf:aS ZD ZD (cL (top 65)):=MZ
def oj{f:Ux}{fd:Ci}(F:SO K "check_few" "check_few" (top 65) f fd):YO P w K mg base (GQ P w) 7 f fd ZD (spX K 2 YM):=
 okZ P w K mg base ZD ZD 6 UR F lf λ_ _ _ _ _ _ b c a=>by
  exact(IS (ZK (NW (RE NV rfl (Zt T) b (by decide) (by rfl) rfl (cR (vv 0) (cR (vv 1) cQ)))))
   (IU (TQ (bW (Wc T) b (cR (vv 0) (cR (vv 1) cQ))))
   (ZK (CI (bQ BD s_gt (ZC T.n_len (ZT a (vv 0) cS)) (bO (by rfl) (vI T T.g_MOST_TRIED_ROWS))) (ZK (NH rfl II rfl (by rfl) (vX T T.xc_TooMany))) IT))))
def cY:DefX P w K mg base "check_few" 7 ZD YM 428:=
 Wv T.fnm T.p_x27 (λU=>oj T U) (Len2 λ_ _=>rfl)
def cX:aA P w K mg base "all_packs" 4 ZD [] TU 433:=
 W9 P base Nx28 ZD 3 OG [] T T.p_x28 λa d e b=>by
  refine cU ?_ ?_
  ·exact(bY a.nd (bJ (cN (ZC T.n_len (ZT b (vv 0) cS)))))
  refine cU ?_ ?_
  ·exact(VU bd a.nd ["row"] [] 1 (ZY (by rfl) T.n_range (vv 2)) (λc _ _ _ _=>⟨(cH c),Z1,(cN (bP (cT (vv 0) cJ)))⟩))
  refine cU ?_ ?_
  ·exact (YS Cb rfl (VT (by rfl) T.n_range cS (bI ZN aN (vv 1) cS)) (cH a.nd)
   (cU (GH (i:=5) bd a.nd rfl rfl (N':=["many","rows","row"]) (ix:=[2]) (nl:=2) rfl rfl (by rfl) rfl (by decide) (Z2 rfl (vv 3)) (λcl s1 H1 fp=>⟨(cH (show(["many","rows","row"]:List Va).Nodup by decide+kernel)),Z1,(VT (by rfl) T.n_range (bI ZN aN (ZT b (vv 1) (VL cS)) cS) (vv 0)),(cH (show(["many","rows","row"]:List Va).Nodup by decide+kernel)),Z1,(cN (bI ZN aN (vv 1) (bP (cT (vv 2) cJ))))⟩))
   (cP (VU bd a.nd ["block","size","rows"] [0,4] 1 (Z2 rfl (vv 5)) (λc _ _ _ _=>⟨(cH c),(WU (aP (bW (Zu T) d (cR (vv 0) (cR (vv 1) (cR (vv 2) cQ)))))),(vv 2)⟩)))))
  exact cP (cI (vv 3))
def Zv:aA P w K mg base "packs" 8 ZD [] QD 440:=
 W9 P base ZD ZD 7 HE [] T T.p_x29 λc a d b=>by
  refine cU ?_ ?_
  ·exact(TQ (bW (Xi T) a (cR (vv 0) (cR (vv 1) cQ))))
  exact cP (cI (bW (cX T) a (cR (vv 0) (cR (vv 1) cQ))))
omit T in
def jz:aS ZD ZD (cL (top 67)):=MZ
def oo{f:Ux}{fd:Ci}(F:SO K "packs" "packs" (top 67) f fd):YO P w K mg base (GQ P w) 8 f fd ZD (spX K 2 QF):=
 okZ P w K mg base ZD ZD 7 IV F jz λ_ _ _ _ _ _ b c a=>by exact(ZK (NW (RE NV rfl (cY T) b (by decide) (by rfl) rfl (cR (vv 0) (cR (vv 1) cQ)))))
def pE:DefX P w K mg base "packs" 8 ZD QF 440:=
 Wv T.fnm T.p_x29 (λU=>oo T U) (Len2 λ_ _=>rfl)
def om:aA P w K mg base "may_join" 1 Qx30 [] L5 445:=
 W9 P base Nx30 Qx30 0 MN [] T T.p_x30 λb d c a=>by exact ZJ
def eO:DefK P w K mg base "best_plan" 10 "block" "lanes" V8 451:=
 mkDK T.fnm T.p_x31 (λU=>Xx P w K mg base Nx31 ZD 9 T7 [] T.lam_x31 U MZ λL b a e d=>by
  refine cU ?_ ?_
  ·exact(TQ (bW (Xi T) a (cR (vv 0) (cR (vv 1) cQ))))
  refine cU ?_ ?_
  ·exact(bY b.nd (bJ (cN (bW (Zw T) a (cR (vv 0) cQ)))))
  refine cU ?_ ?_
  ·exact(@bY _ _ _ _ _ _ _ _ _ b.nd (@bJ _ _ _ _ _ _ (@bX _ _ _ _ _ _ (@V6 _ _ _ 1 _ _ _ rfl (by decide)))) rfl (by first|exact .inl rfl|exact .inr rfl) (by decide) rfl (by first|exact .inl rfl|exact .inr rfl|assumption))
  refine cU ?_ ?_
  ·exact(YS Cb rfl (Z2 rfl (cN (bW (cX T) a (cR (vv 0) (cR (vv 1) cQ))))) (cH b.nd)
   ZJ)
  exact cP (cI (CC (N':=["block","lanes","plan"]) (ix:=[0,1]) (x:= "plan") rfl rfl (by rfl) T.n_min a L (vv 3) (λam f c s H=>(cN (bP (cT (bW (Yu T) a.lam (cR (vv 0) (cR (vv 1) (cR (vv 2) cQ)))) (cT (vv 2) cJ)))))))) λ_ _=>rfl
omit T in
def nk:aS Nx31 ZD (cL (top 69)):=MZ
def gL{f:Ux}{fd:Ci}(F:SO K "best_plan" "best_plan" (top 69) f fd):YO P w K mg base (GQ P w) 10 f fd ZD (spX K 2 XS):=
 okZ P w K mg base Nx31 ZD 9 UQ F nk λ_ _ _ _ _ _ b c a=>by exact(ZK (NW (RE NV rfl (cY T) b (by decide) (by rfl) rfl (cR (vv 0) (cR (vv 1) cQ)))))
def kE:aA P w K mg base "is_parted" 1 Qx32 [] N8 456:=
 W9 P base Nx32 Qx32 0 OJ [] T T.p_x32 λb d c a=>by exact ZJ
def kU:aA P w K mg base "pack_from" 4 Qx33 [] N9 463:=
 W9 P base Nx33 Qx33 3 ON [] T T.p_x33 λa c d b=>by
  refine cU ?_ ?_
  ·exact(bY a.nd (bJ (cN (bP (cT (ZT b (vv 3) cS) cJ)))))
  refine cU ?_ ?_
  ·exact(YS Cb rfl (Z2 rfl (cN (SK rfl (vv 3) (SN cS) SM))) (cH a.nd)
   (cU (bY a.nd (bJ (cN (bI ZN aN (vv 4) (bP (cT (vv 5) cJ))))))
   (cU (bD (UW (P7 (aP (bW (Zu T) c (cR (vv 0) (cR (cN (ZC T.n_len (vv 6))) (cR (vv 6) cQ))))) (TR (Y8 (aP (bW (kE T) c (cR (vv 2) (cR (vv 6) cQ))))))))
   (cP (bY a.nd (bJ (vv 6))))
   cC)
   (cP (bD (XJ d (ZC T.n_len (vv 4)) (vv 1))
   (cP (cI (vv 4)))
   cC)))))
  exact cP (cI V5)
def ly:aA P w K mg base "full_plan" 8 ZD [] T0 468:=
 W9 P base Nx34 ZD 7 OI [] T T.p_x34 λa c e b=>by
  refine cU ?_ ?_
  ·exact(bY a.nd (bJ (cN (bW (Zw T) c (cR (vv 0) cQ)))))
  refine cU ?_ ?_
  ·exact(VU bd a.nd ["block","row"] [0] 1 (ZY (by rfl) T.n_range (ZC T.n_len (ZT b (vv 0) cS))) (λd _ _ _ _=>⟨(cH d),Z1,(cN (bW (nv T) c (cR (vv 0) (cR (vv 1) cQ))))⟩))
  refine cU ?_ ?_
  ·exact(bY a.nd (bJ (cN (bP cJ))))
  refine cU ?_ ?_
  ·exact (YS Cb rfl (ZY (by rfl) T.n_range (ZC T.n_len (ZT b (vv 0) cS))) (cH a.nd)
   (cU (bY a.nd (bJ (cN (bW (Wh T) c (cR (vv 4) cQ)))))
   (cU (VU bd a.nd ["taken","later"] [6] 1 (VT (by rfl) T.n_range (vv 5) (ZC T.n_len (ZT b (vv 0) cS))) (λd _ _ _ _=>⟨(cH d),(WU (bQ (TD e) (ZI (neg:=bc)) (vv 1) (vv 0) (by with_unfolding_all rfl))),(vv 1)⟩))
   (cU (bY a.nd (bJ (cN (OV (bQ (V2 e) (ZI (neg:=bd)) (vv 5) (vv 7) (by with_unfolding_all rfl)) (bW (kU T) c (cR (vv 0) (cR (vv 1) (cR (vv 3) (cR (vv 7) cQ))))) V5))))
   (cP (bD (UW (P7 (bQ BF Xp (vv 8) V5) (TR (aP (bW (om T) c (cR (vv 0) (cR (vv 2) (cR (vv 4) (cR (vv 8) cQ)))))))))
   (cP (bY a.nd (bJ (cN (bI ZN aN (vv 4) (bP (cT (vv 8) cJ)))))))
   cC))))))
  exact cP (cI (vv 4))
def m9:aA P w K mg base "thinned" 1 Qx26 [] OY 473:=
 W9 P base Nx35 Qx26 0 JT [] T T.p_x35 λa d c b=>by
  refine cU ?_ ?_
  ·exact(bY a.nd (bJ (vv 2)))
  refine cU ?_ ?_
  ·exact (YS Cb rfl (lV rfl (by rfl) T.n_reversed (vv 2)) (cH a.nd)
   ZJ)
  exact cP (cI (vv 3))
def jW:DefK P w K mg base "found_plan" 11 "block" "lanes" YW 481:=
 mkDK T.fnm T.p_x36 (λU=>Xx P w K mg base Nx36 ZD 10 W5 [] T.lam_x36 U MZ λL b a e d=>by
  refine cU ?_ ?_
  ·exact(TQ (bW (Wc T) a (cR (vv 0) (cR (vv 1) cQ))))
  refine cU ?_ ?_
  ·exact(bY b.nd (bJ (cN (bW (ly T) a (cR (vv 0) (cR (vv 1) cQ))))))
  refine cU ?_ ?_
  ·exact(bY b.nd (bJ (cN (bW (m9 T) a (cR (vv 0) (cR (vv 1) (cR (vv 2) cQ)))))))
  refine cU ?_ ?_
  ·exact(NG Cb (bQ (RX e) R7 (vv 3) (vv 2))
   ZJ)
  exact cP (cI (CC (N':=["block","lanes","one"]) (ix:=[0,1]) (x:= "one") rfl rfl (by rfl) T.n_min a L (bX (aX (cA (cT (bP cJ) (cT (vv 2) cJ))))) (λam f c s H=>(cN (bW (Yu T) a.lam (cR (vv 0) (cR (vv 1) (cR (vv 2) cQ))))))))) λ_ _=>rfl
omit T in
def oB:aS Nx36 ZD (cL (top 74)):=MZ
def iJ{f:Ux}{fd:Ci}(F:SO K "found_plan" "found_plan" (top 74) f fd):YO P w K mg base (GQ P w) 11 f fd ZD (spX K 2 ZF):=
 okZ P w K mg base Nx36 ZD 10 W6 F oB λ_ _ _ _ _ _ b c a=>by exact(ZK (NW (RE NV rfl (Zt T) b (by decide) (by rfl) rfl (cR (vv 0) (cR (vv 1) cQ)))))
def iD:aA P w K mg base "_law_cell_at" 1 Qx37 [] Y9 488:=
 W9 P base Nx37 Qx37 0 V1 [] T T.p_x37 λb d c a=>by
  refine cU ?_ ?_
  ·exact(bD (bQ BE s_lt (vv 1) (ZC T.n_len (vv 0)))
   (cP (cI (ZT a (vv 0) (vv 1))))
   cC)
  refine cU ?_ ?_
  ·exact(bD (XJ c (vv 0) (bX (aX (cA cJ))))
   (cP (cI cS))
   cC)
  refine cU ?_ ?_
  ·exact(bY b.nd (bJ (cN (ZT a (vv 0) (YI UK OT (vv 1) (ZC T.n_len (vv 0)))))))
  refine cU ?_ ?_
  ·exact (YS Cb rfl (ZY (by rfl) T.n_range (X5 (dZ rfl) la (by rfl) T.n_min hG (YI BC dI (vv 1) (ZC T.n_len (vv 0))) cS)) (cH b.nd)
   (cP (bY b.nd (bJ (cN (YI BC dI (vv 2) cS))))))
  exact cP (cI (bI ZN aN (bI ZN aN (bI MU QL (ZT a (vv 0) (YI UK OT (vv 1) (ZC T.n_len (vv 0)))) cS) (vv 1)) (bI MU QL (vv 2) cS)))
def lT:aA P w K mg base "_law_mixed" 2 Qx38 [] V9 495:=
 W9 P base Nx38 Qx38 1 T9 [] T T.p_x38 λa c d b=>by
  refine cU ?_ ?_
  ·exact(bY a.nd (bJ (cN (YI UK OT (bI ZN aN (bI ZN aN (bI MU QL (bW (iD T) c (cR (vv 0) (cR (vv 1) cQ))) cS) (bI MU QL cS (vv 1))) cS) cS))))
  exact cP (cI (YI UK OT (YI UK OT (YI UK OT (YI lZ pJ (vv 3) cS) cS) cS) (vv 2)))
def SD:aA P w K mg base "_law_draw" 3 Nx39 [1] a6 502:=
 W9 P base Nx39 Nx39 2 RP [1] T T.p_x39 λc b d a=>by
  refine cU ?_ ?_
  ·exact(Y7 Bo Bp Z9 X1 (pv 1) (cA (cT cS cJ)))
  exact cP (cI (bW (lT T) b (cR (vv 0) (cR (cN (ZC T.n_len (vo 1))) (cR (vv 2) cQ)))))
def N7:aA P w K mg base "_law_pick" 4 Nx40 [1] Z5 509:=
 W9 P base Nx40 Nx40 3 RT [1] T T.p_x40 λc b d a=>by exact(cP (cI (ZT a (vv 2) (bW (SD T) b (cR (vv 0) (aW (pv 1) (cR (cN (ZC T.n_len (vv 2))) cQ)))))))
def D6:aA P w K mg base "_law_place" 5 Nx41 [1,2] ZV 516:=
 W9 P base Nx41 Nx41 4 UA [1,2] T T.p_x41 λc b d a=>by
  refine cU ?_ ?_
  ·exact(CD a (pv 2) (vv 3) (cN (YI UK OT (bI ZN aN (k4 a (pv 2) (vv 3) (cN (bW (SD T) b (cR (vv 0) (aW (pv 1) (cR (vv 4) cQ))))) ⟨rfl,rfl,rfl,rfl⟩) (bW (N7 T) b (cR (vv 0) (aW (pv 1) (cR (bX (aX (cA (cT cS (cT cS (cT cS (cT cS (cT cS cJ)))))))) cQ))))) (vv 4))) rfl)
  exact cP (cI (ZT a (vo 2) (vv 3)))
def gZ:aA P w K mg base "_law_row" 6 Qx42 [1,3] SV 521:=
 W9 P base Nx42 Qx42 5 PL [1,3] T T.p_x42 λd a b c=>by
  refine cU ?_ ?_
  ·exact(bY d.nd (bJ (cN (bW (SD T) a (cR (vv 0) (aW (pv 1) (cR cS cQ)))))))
  refine cU ?_ ?_
  ·exact(bD (UW (VV (XJ b (vv 2) (bX (aX (cA cJ)))) (XM (XJ b (vv 5) cS))))
   (cU (bD (XJ b (bW (SD T) a (cR (vv 0) (aW (pv 1) (cR cS cQ)))) cS)
   (cP (cI (bP (cT cD (cT (bW (N7 T) a (cR (vv 0) (aW (pv 1) (cR (bX (aX (cA (cT cS (cT cS (cT cS (cT cS (cT cS (cT (bW (SD T) a (cR (vv 0) (aW (pv 1) (cR cS cQ)))) cJ))))))))) cQ)))) cJ)))))
   cC)
   (cP (cI (bP (cT cD (cT (bW (D6 T) a (cR (vv 0) (aW (pv 1) (aW (pv 3) (cR cD (cR (vv 4) cQ)))))) cJ))))))
   cC)
  refine cU ?_ ?_
  ·exact(D4 (bX (aU ["_law_script","_law_town","_law_made","_law_k"] [0,1,2] 1 (ZY (by rfl) T.n_range cS) (λe _ _ _ _=>⟨(cH e),Z1,(cN (ZT c (vv 2) (X5 (jq rfl) hU (by rfl) T.n_max mD cS (YI UL OU (YI UL OU (ZC T.n_len (vv 2)) cS) (bW (SD T) a (cR (vv 0) (aW (pv 1) (cR cS cQ))))))))⟩))) (WV (K:=K) rfl rfl (bB (cH d.nd) (bB (cH d.nd) (bB (cH d.nd) YJ)))))
  refine cU ?_ ?_
  ·exact (bD (bQ (V2 b) (ZI (neg := bd)) (vv 5) (bP (cT cS (cT cS cJ))) (by with_unfolding_all rfl))
   (cP (cI (bP (cT cD (cT (bW (D6 T) a (cR (vv 0) (aW (pv 1) (aW (pv 3) (cR cD (cR (vv 4) cQ)))))) cJ)))))
   cC)
  refine cU ?_ ?_
  ·exact(bD (XJ b (vv 5) cS)
   (cP (cI (bP (cT cD (cT (bW (D6 T) a (cR (vv 0) (aW (pv 1) (aW (pv 3) (cR cD (cR (vv 4) cQ)))))) (cT (vv 8) (cT (vv 6) cJ)))))))
   cC)
  refine cU ?_ ?_
  ·exact (bD (bQ (V2 b) (ZI (neg := bd)) (vv 5) (bP (cT cS (cT cS cJ))) (by with_unfolding_all rfl))
   (cP (cI (bP (cT cD (cT (bW (D6 T) a (cR (vv 0) (aW (pv 1) (aW (pv 3) (cR cD (cR (vv 4) cQ)))))) (cT (vv 6) cJ))))))
   cC)
  refine cU ?_ ?_
  ·exact(bD (XJ b (vv 5) cS)
   (cP (cI (bP (cT cD (cT (bW (D6 T) a (cR (vv 0) (aW (pv 1) (aW (pv 3) (cR cD (cR (vv 4) cQ)))))) (cT (vv 6) (cT (vv 8) cJ)))))))
   cC)
  refine cU ?_ ?_
  ·exact(bD (XJ b (vv 5) cS)
   (cP (cI (bP (cT cD (cT (vv 8) (cT (vv 6) (cT (vv 7) cJ)))))))
   cC)
  exact cP (cI (bP (cT (ZT c (bX (aX (cA (cT cD (cT cD (cT cD (cT cD (cT cD (cT cD (cT cD cJ)))))))))) (bW (SD T) a (cR (vv 0) (aW (pv 1) (cR cS cQ))))) (cT (vv 6) (cT (vv 7) cJ)))))
def l0:aA P w K mg base "_law_next" 5 Qx44 [1,4] YN 535:=
 W9 P base Nx44 Qx44 4 U9 [1,4] T T.p_x44 λb d c a=>by
  refine cU ?_ ?_
  ·exact(bY b.nd (bJ (cN (ZT a (vv 2) (VL cS)))))
  refine cU ?_ ?_
  ·exact(bY b.nd (bJ (cN (OV (bQ (V2 c) (ZI (neg:=bd)) (ZT a (vv 6) cS) (bP (cT cD (cT cD (cT cD (cT cD cJ))))) (by with_unfolding_all rfl)) cS cS))))
  refine cU ?_ ?_
  ·exact(bY b.nd (WJ (aX (cA cJ))))
  refine cU ?_ ?_
  ·exact(YS Cb rfl (Z2 rfl (cN (SK rfl (vv 6) (SN (vv 7)) SM))) (cH b.nd)
   (cU (bY b.nd (bJ (cN (bI ZN aN (gH rfl (vv 3) (vv 9)) (bW (N7 T) d (cR (vv 0) (aW (pv 1) (cR (bX (aX (cA (cT cS (cT cS (cT cS (cT cS (cT (VL cS) (cT cS (cT cS cJ)))))))))) cQ))))))))
   (cP (Y7 Bo Bp Z9 X1 (pv 8) (cA (cT (OV (UW (P7 (lF Wa BE s_le s_lt cS (vv 10) (ZC T.n_len (vv 3))) (TR (bQ (RX c) R7 (ZT a (vv 3) (vv 10)) (YI UL OU (ZC T.n_len (vv 2)) cS))))) (ZT a (vv 3) (vv 10)) (vv 9)) cJ))))))
  refine cU ?_ ?_
  ·exact(bD (XJ c (vv 7) cS)
   (cP (cI (bI ZN aN (SK rfl (vv 6) SM (SN cS)) (GB QW QM (by rfl) T.n_tuple YA (vo 8)))))
   cC)
  refine cU ?_ ?_
  ·exact(CD a (pv 4) (ZT a (vv 6) cS) (cN (YI UK OT (bI ZN aN (ZT a (vv 6) cS) cS) (vv 5))) rfl)
  exact cP (cI (bI ZN aN (bP (cT (ZT a (vv 6) cS) (cT (ZT a (vo 4) (ZT a (vv 6) cS)) cJ))) (GB QW QM (by rfl) T.n_tuple YA (vo 8))))
def o7:aA P w K mg base "_law_rows" 7 Qx43 [1] U2 528:=
 W9 P base Nx43 Qx43 6 RU [1] T T.p_x43 λd c b a=>by
  refine cU ?_ ?_
  ·exact(eE (i:=4) (j:=5) (k:=6) rfl d.nd rfl rfl rfl (by decide) (by decide) (by decide) rfl rfl rfl (WJ (aX (cA cJ))) (WJ (aX (cA cJ))) (WJ GG) rfl)
  refine cU ?_ ?_
  ·exact(NG Cb (bQ BE s_lt (ZC T.n_len (vo 4)) (vv 2))
   (cU (Y7 Bo Bp Z9 X1 (pv 4) (cA (cT (bW (gZ T) c (cR (vv 0) (aW (pv 1) (aW (pv 5) (aW (pv 6) (cR (vv 3) cQ)))))) cJ)))
   (cU (bD (bQ (TD b) (ZI (neg:=bc)) (ZT a (ZT a (vo 4) (VL cS)) cS) (bP (cT cD (cT cD cJ))) (by with_unfolding_all rfl))
   (cP (Y7 Bo Bp Z9 X1 (pv 5) (cA (cT (YI UL OU (ZC T.n_len (vo 4)) cS) cJ))))
   cC)
   (cP (YS Cb rfl (ZY (by rfl) T.n_range (bW (N7 T) c (cR (vv 0) (aW (pv 1) (cR (bX (aX (cA (cT cS (cT cS (cT cS (cT cS (cT cS cJ)))))))) cQ))))) (cH d.nd)
   (cP (bD (UW (P7 (bQ BE s_lt (ZC T.n_len (vo 4)) (vv 2)) (TR (bQ (RX b) R7 (ZT a (ZT a (vo 4) (VL cS)) cS) cD))))
   (cU (Y7 Bo Bp Z9 X1 (pv 4) (cA (cT (bW (l0 T) c (cR (vv 0) (aW (pv 1) (aW (pv 4) (aW (pv 5) (aW (pv 6) (cR (vv 3) cQ))))))) cJ)))
   (cP (bD (bQ (TD b) (ZI (neg:=bc)) (ZT a (ZT a (vo 4) (VL cS)) cS) (bP (cT cD (cT cD cJ))) (by with_unfolding_all rfl))
   (cP (Y7 Bo Bp Z9 X1 (pv 5) (cA (cT (YI UL OU (ZC T.n_len (vo 4)) cS) cJ))))
   cC)))
   cC)))))))
  exact cP (cI (GB QW QM (by rfl) T.n_tuple YA (vo 4)))
def jB:aA P w K mg base "_law_names" 1 Nx46 [] ZU 547:=
 W9 P base Nx46 Nx46 0 OK [] T T.p_x46 λc d b a=>by
  refine cU ?_ ?_
  ·exact(bD (XJ b (ZT a (vv 0) cS) cD)
   (cP (cI (bX (aX (cA cJ)))))
   cC)
  exact cP (cI (OV (bQ (V2 b) (ZI (neg:=bd)) (ZT a (vv 0) cS) (bP (cT cD (cT cD (cT cD (cT cD cJ))))) (by with_unfolding_all rfl)) (bX (Wz Zc RY (by rfl) T.RY NL (GD (SK rfl (vv 0) (SN cS) SM)))) (bX (Wz Zc RY (by rfl) T.RY NL (GD (SK rfl (vv 0) (SN cS) SM))))))
def Vt:aA P w K mg base "_law_may" 1 Qx47 [] XY 552:=
 W9 P base Nx47 Qx47 0 PJ [] T T.p_x47 λc e b a=>by
  refine cU ?_ ?_
  ·exact(bY c.nd (bJ (cN (ZT a (ZT a (vv 0) cS) (vv 1)))))
  refine cU ?_ ?_
  ·exact (bD (bQ (V2 b) (ZI (neg := bd)) (ZT a (vv 2) cS) (bP (cT cD (cT cD (cT cD (cT cD cJ))))) (by with_unfolding_all rfl))
   (cP (cI (YH Wi s_ge (ZT a (vv 2) cS) (ZT a (vv 0) cS))))
   cC)
  exact cP (cI (XH (veq b (ZT a (vv 2) cS) cD) (X2 (YH (TD b) (ZI (neg:=bc)) (SK rfl (ZT a (ZT a (vv 0) cS) (ZT a (vv 2) cS)) SM (SN cS)) (bX (aU ["_law_k"] [] 1 (VT (by rfl) T.n_range cS cS) (λd _ _ _ _=>⟨(cH d),Z1,(cN (bP (cT cD (cT (vv 0) cJ))))⟩))) (by with_unfolding_all rfl)))))
def pN:aA P w K mg base "_law_must" 2 Qx48 [] U1 557:=
 W9 P base Nx48 Qx48 1 RQ [] T T.p_x48 λc d b a=>by
  refine cU ?_ ?_
  ·exact(CF (i:=1) (j:=2) rfl c.nd rfl rfl (by decide) rfl rfl (WJ (aX (cA cJ))) (bJ (cN (bP (cT cD (cT cD (cT cD (cT cD cJ))))))) rfl)
  refine cU ?_ ?_
  ·exact (YS Cb rfl (IQ rfl (by rfl) T.n_enumerate (cN (ZT a (vv 0) cS))) (WV (K := K) rfl rfl (bB (cH c.nd) (bB (cH c.nd) YJ)))
   (cP (YS Cb rfl (IQ rfl (by rfl) T.n_enumerate (cN (SK rfl (ZT a (vv 0) cS) SM (SN (vv 3))))) (WV (K:=K) rfl rfl (bB (cH c.nd) (bB (cH c.nd) YJ)))
   (cU (VU bd c.nd ["_law_row_here"] [] 1 (Z2 rfl (cN (bP (cT (vv 6) (cT (vv 4) cJ))))) (λe _ _ _ _=>⟨(cH e),(WU (bQ (V2 b) (ZI (neg:=bd)) (ZT a (vv 0) cS) (bP (cT cD (cT cD cJ))) (by with_unfolding_all rfl))),(vv 0)⟩))
   (cU (bY c.nd (WJ (aX (cA (cT (YH (V2 b) (ZI (neg:=bd)) (vv 5) (bW (jB T) d (cR (vv 4) cQ)) (by with_unfolding_all rfl)) (cT (XH (bW (Vt T) d (cR (vv 0) (cR (vv 5) cQ))) (X2 (bW (Vt T) d (cR (vv 0) (cR (vv 3) cQ))))) cJ))))))
   (cU (Y7 Bo Bp Z9 X1 (pv 8) (cA (cT (XH (YH (V2 b) (ZI (neg:=bd)) (ZT a (vv 6) cS) (vv 2) (by with_unfolding_all rfl)) (XH (YH (V2 b) (ZI (neg:=bd)) (ZT a (vv 4) cS) (vv 2) (by with_unfolding_all rfl)) (XH (veq b (ZT a (vv 6) cS) (ZT a (vv 4) cS)) (X2 (YH (RX b) R7 (vv 7) (bX (aX (cA cJ)))))))) cJ)))
   (cU (Y7 Bo Bp Z9 X1 (pv 8) (cA (cT (XH (bW (Vt T) d (cR (vv 0) (cR (vv 5) cQ))) (X2 (YH (V2 b) (ZI (neg:=bd)) (ZT a (vv 4) cS) (bP (cT cD (cT cD cJ))) (by with_unfolding_all rfl)))) cJ)))
   (cU (Y7 Bo Bp Z9 X1 (pv 8) (cA (cT (XH (bW (Vt T) d (cR (vv 0) (cR (vv 3) cQ))) (X2 (YH (V2 b) (ZI (neg:=bd)) (ZT a (vv 6) cS) (bP (cT cD (cT cD cJ))) (by with_unfolding_all rfl)))) cJ)))
   (cP (bD (bQ (V2 b) (ZI (neg:=bd)) YV (vo 8) (by with_unfolding_all rfl))
   (cP (Y7 Bo Bp Z9 X1 (pv 1) (cA (cT (bP (cT (vv 5) (cT (vv 3) cJ))) cJ))))
   cC))))))))))
  exact cP (cI (bX (Wk C6 HN (by rfl) T.n_sorted O9 (GD (vo 1)))))
def p7:aA P w K mg base "_law_mixed_order" 5 Qx51 [1] Y5 576:=
 W9 P base Nx51 Qx51 4 YC [1] T T.p_x51 λd e b a=>by
  refine cU ?_ ?_
  ·exact(mZ (i:=3) (j:=4) (k:=5) rfl rfl d.nd rfl rfl rfl (by decide) (by decide) (by decide) (Dg rfl) (Dg rfl) (Ez rfl) (bJ (cN (bW (pN T) e (cR (vv 2) cQ)))) (WJ (eD rfl (by rfl) T.RY NL (by rfl) T.n_range ko (ZC T.n_len (ZT a (vv 2) cS)))) (WJ (aX (cA cJ))))
  refine cU ?_ ?_
  ·exact(NG Cb (bQ (RX b) R7 (vo 4) (bX (aX (cA cJ))))
   (cU (lQ bd d.nd ["_law_pairs","_law_left","_law_row_here"] [3,4] 1 (gX rfl (vo 4)) (λc _ _ _ _=>⟨(cH c),(WU (XJ b (bX (aU ["_law_left","_law_row_here","_law_one","_law_two"] [1,2] 2 (Z2 rfl (vv 0)) (λc _ _ _ _=>⟨(WV (K:=K) rfl rfl (bB (cH c) (bB (cH c) YJ))),(WU (UW (P7 (XJ b (vv 3) (vv 1)) (TR (bQ (V2 b) (ZI (neg:=bd)) (vv 2) (vo 0) (by with_unfolding_all rfl)))))),cS⟩))) (bX (aX (cA cJ))))),(vv 2)⟩))
   (cU (Y7 Bo Bp Z9 X1 (pv 5) (cA (cT (bW (N7 T) e (cR (vv 0) (aW (pv 1) (cR (vv 6) cQ)))) cJ)))
   (cP (Y7 PySem.F.slot_list_remove PySem.F.type_list_remove iW mw (pv 4) (cA (cT (ZT a (vo 5) (VL cS)) cJ)))))))
  exact cP (nB (pv 5))
def eU:aA P w K mg base "_law_renamed" 1 Qx52 [] bK 581:=
 W9 P base Nx52 Qx52 0 aI [] T T.p_x52 λc e b a=>by
  refine cU ?_ ?_
  ·exact(bD (XJ b (ZT a (vv 0) cS) cD)
   (cP (cI (vv 0)))
   cC)
  refine cU ?_ ?_
  ·exact(bY c.nd (bJ (cN (OV (bQ (V2 b) (ZI (neg:=bd)) (ZT a (vv 0) cS) (bP (cT cD (cT cD (cT cD (cT cD cJ))))) (by with_unfolding_all rfl)) cS cS))))
  exact cP (cI (bI ZN aN (SK rfl (vv 0) SM (SN (vv 2))) (GB QW QM (by rfl) T.n_tuple YA (bX (aU ["_law_names_here","_law_name"] [1] 1 (Z2 rfl (cN (SK rfl (vv 0) (SN (vv 2)) SM))) (λd _ _ _ _=>⟨(cH d),Z1,(cN (ZT a (vv 0) (vv 1)))⟩))))))
def kX:aA P w K mg base "_law_block" 8 Qx45 [1] YL 540:=
 W9 P base Nx45 Qx45 7 WF [1] T T.p_x45 λb a e c=>by
  refine cU ?_ ?_
  ·exact(bY b.nd (bJ (cN (bW (N7 T) a (cR (vv 0) (aW (pv 1) (cR (bX (aX (cA (cT cS (cT cS (cT cS (cT cS cJ))))))) cQ)))))))
  refine cU ?_ ?_
  ·exact(bY b.nd (bJ (cN (bW (N7 T) a (cR (vv 0) (aW (pv 1) (cR (bX (aX (cA (cT cS (cT (vv 3) (cT (vv 3) (cT (bW (SD T) a (cR (vv 0) (aW (pv 1) (cR (cN (bI ZN aN (vv 3) cS)) cQ)))) cJ))))))) cQ)))))))
  refine cU ?_ ?_
  ·exact(bY b.nd (bJ (cN (bP (cT (vv 4) (cT (bW (o7 T) a (cR (vv 0) (aW (pv 1) (cR (cN (bW (SD T) a (cR (vv 0) (aW (pv 1) (cR (cN (bI ZN aN (vv 2) cS)) cQ))))) (cR (vv 3) cQ))))) cJ))))))
  refine cU ?_ ?_
  ·exact(bD (bQ BD s_gt (bW (SD T) a (cR (vv 0) (aW (pv 1) (cR cS cQ)))) cS)
   (cP (cI (vv 5)))
   cC)
  refine cU ?_ ?_
  ·exact(bY b.nd (bJ (cN (bW (p7 T) a (cR (vv 0) (aW (pv 1) (cR (vv 5) cQ)))))))
  refine cU ?_ ?_
  ·exact(bY b.nd (bJ (bX (lS rfl rfl (by rfl) T.n_dict dM (bX (aU ["_law_number","_law_row_here"] [] 2 (IQ rfl (by rfl) T.n_enumerate (vv 6)) (λd _ _ _ _=>⟨(WV (K:=K) rfl rfl (bB (cH d) (bB (cH d) YJ))),Z1,(cN (bP (cT (vv 1) (cT (vv 0) cJ))))⟩)))))))
  exact cP (cI (bP (cT (vv 4) (cT (GB QW QM (by rfl) T.n_tuple YA (bX (aU ["_law_block_here","_law_names_here","_law_row_here"] [5,7] 1 (Z2 rfl (vv 6)) (λd _ _ _ _=>⟨(cH d),Z1,(cN (bW (eU T) a (cR (cN (ZT c (ZT c (vv 0) cS) (vv 2))) (cR (vv 1) cQ))))⟩)))) cJ))))
omit T in
def zCG:aS Nx49 Qx49 (cL (top 88)):=MZ
def oh{f:Ux}{fd:Ci}(F:SO K "_law_which" "_law_which" (top 88) f fd):FnH P w K mg base 1 f fd Qx49 (spV K [] 1 WA):=
 okWH P w K mg base Nx49 Qx49 0 OL [] F zCG λ_ _ _ _ _ c b a=>by
  refine cU ?_ ?_
  ·exact(bY zCG.nd (WJ (aX (cA (cT (X5 RW (WT (xi T)) (by rfl) T.n_isinstance bR (vv 0) (bO (by rfl) (vF T T.g_NoBlock))) (cT (X5 RW (WT (xi T)) (by rfl) T.n_isinstance bR (vv 0) (bO (by rfl) (vF T T.g_NoCells))) (cT (X5 RW (WT (xi T)) (by rfl) T.n_isinstance bR (vv 0) (bO (by rfl) (vF T T.g_NoRow))) (cT (X5 RW (WT (xi T)) (by rfl) T.n_isinstance bR (vv 0) (bO (by rfl) (vF T T.g_NoLanes))) cJ))))))))
  refine cU ?_ ?_
  ·exact(Y7 Gp Gq (AY (K:=K) rfl) HM (pv 1) (cA (cT (bX (aX (cA (cT (X5 RW (WT (xi T)) (by rfl) T.n_isinstance bR (vv 0) (bO (by rfl) (vF T T.g_NoPlan))) (cT (X5 RW (WT (xi T)) (by rfl) T.n_isinstance bR (vv 0) (bO (by rfl) (vF T T.g_NoProgram))) (cT (X5 RW (WT (xi T)) (by rfl) T.n_isinstance bR (vv 0) (bO (by rfl) (vF T T.g_NoTree))) (cT (X5 RW (WT (xi T)) (by rfl) T.n_isinstance bR (vv 0) (bO (by rfl) (vF T T.g_NoLoop))) cJ))))))) cJ)))
  refine cU ?_ ?_
  ·exact(Y7 Gp Gq (AY (K:=K) rfl) HM (pv 1) (cA (cT (bX (aX (cA (cT (X5 RW (WT (xi T)) (by rfl) T.n_isinstance bR (vv 0) (bO (by rfl) (vF T T.g_NoText))) (cT (X5 RW (WT (xi T)) (by rfl) T.n_isinstance bR (vv 0) (bO (by rfl) (vF T T.g_NoName))) (cT (X5 RW (WT (xi T)) (by rfl) T.n_isinstance bR (vv 0) (bO (by rfl) (vF T T.g_TooMany))) (cT (X5 RW (WT (xi T)) (by rfl) T.n_isinstance bR (vv 0) (bO (by rfl) (vF T T.g_TooLong))) cJ))))))) cJ)))
  refine cU ?_ ?_
  ·exact(Y7 Gp Gq (AY (K:=K) rfl) HM (pv 1) (cA (cT (bX (aX (cA (cT (X5 RW (WT (xi T)) (by rfl) T.n_isinstance bR (vv 0) (bO (by rfl) (vF T T.g_NotValid))) (cT (X5 RW (WT (xi T)) (by rfl) T.n_isinstance bR (vv 0) (bO (by rfl) (vF T T.g_Nothing))) cJ))))) cJ)))
  refine cU ?_ ?_
  ·exact (bD (UW (VV (bQ (RX b) R7 (Zk rfl PySem.F.slot_list_count PySem.F.type_list_count nZ p3 (vo 1) YV) cS) (XM (Y8 (aP (X5 RW (WT (xi T)) (by rfl) T.n_isinstance bR (vv 0) (vty T.n_ValueError LJ)))))))
   (cP (cI (bP (cT cD (cT (VL cS) cJ)))))
   cC)
  exact cP (cI (bP (cT cD (cT (Zk rfl Mm Mn jl fA (vo 1) YV) cJ))))
def iP:DefH P w K mg base "_law_which" 1 Qx49 (spV K [] 1 WA) 564:=
 pQ T.fnm T.p_x49 (λU=>oh T U) (Len1 λ_=>rfl)
def kx:aA P w K mg base "_law_none" 5 Qx50 [1] WO 571:=
 W9 P base Nx40 Qx50 4 RS [1] T T.p_x50 λa c d b=>by
  refine cU ?_ ?_
  ·exact(@bY _ _ _ _ _ _ _ _ _ a.nd (@bJ _ _ _ _ _ _ (@bX _ _ _ _ _ _ (@V6 _ _ _ 3 _ _ _ rfl (by decide)))) rfl (by first|exact .inl rfl|exact .inr rfl) (by decide) rfl (by first|exact .inl rfl|exact .inr rfl|assumption))
  refine cU ?_ ?_
  ·exact(@bY _ _ _ _ _ _ _ _ _ a.nd (@bJ _ _ _ _ _ _ (@cN _ _ _ _ _ _ _ _ (@bI _ _ _ _ _ _ _ _ _ _ _ _ _ _ _ _ _ ZN aN (@vv _ _ _ _ _ 2 rfl (by first|exact Ez rfl|exact Dg (Ez rfl)|exact Dg (Dg rfl)) (by decide) (by decide)) (@bX _ _ _ _ _ _ (@V6 _ _ _ 3 _ _ _ rfl (by decide))) rfl) rfl)) rfl (by first|exact .inl rfl|exact .inr rfl) (by decide) rfl (by first|exact .inl rfl|exact .inr rfl|assumption))
  refine cU ?_ ?_
  ·exact(@bY _ _ _ _ _ _ _ _ _ a.nd (@bJ _ _ _ _ _ _ (@cN _ _ _ _ _ _ _ _ (@bI _ _ _ _ _ _ _ _ _ _ _ _ _ _ _ _ _ ZN aN (@vv _ _ _ _ _ 2 rfl (by first|exact Ez rfl|exact Dg (Ez rfl)|exact Dg (Dg rfl)) (by decide) (by decide)) (@bX _ _ _ _ _ _ (@V6 _ _ _ 3 _ _ _ rfl (by decide))) rfl) rfl)) rfl (by first|exact .inl rfl|exact .inr rfl) (by decide) rfl (by first|exact .inl rfl|exact .inr rfl|assumption))
  refine cU ?_ ?_
  ·exact(@bY _ _ _ _ _ _ _ _ _ a.nd (@bJ _ _ _ _ _ _ (@cN _ _ _ _ _ _ _ _ (@bI _ _ _ _ _ _ _ _ _ _ _ _ _ _ _ _ _ ZN aN (@vv _ _ _ _ _ 2 rfl (by first|exact Ez rfl|exact Dg (Ez rfl)|exact Dg (Dg rfl)) (by decide) (by decide)) (@bX _ _ _ _ _ _ (@aX _ _ _ _ _ _ _ (@cA _ _ _ _ _ _ _ (@cT _ _ _ _ _ _ _ _ _ _ _ _ (@IP _ _ _ 3 _ _ rfl) (@cT _ _ _ _ _ _ _ _ _ _ _ _ (@bP _ _ _ _ _ _ _ _ _ (@cT _ _ _ _ _ _ _ _ _ _ _ _ cS (@cT _ _ _ _ _ _ _ _ _ _ _ _ (@bI _ _ _ _ _ _ _ _ _ _ _ _ _ _ _ _ _ kRep JJ (@IP _ _ _ 2 _ _ rfl) cS rfl) cJ rfl rfl rfl) rfl rfl rfl)) cJ rfl rfl rfl) rfl rfl rfl) rfl))) rfl) rfl)) rfl (by first|exact .inl rfl|exact .inr rfl) (by decide) rfl (by first|exact .inl rfl|exact .inr rfl|assumption))
  refine cU ?_ ?_
  ·exact(@bY _ _ _ _ _ _ _ _ _ a.nd (@bJ _ _ _ _ _ _ (@cN _ _ _ _ _ _ _ _ (@bI _ _ _ _ _ _ _ _ _ _ _ _ _ _ _ _ _ ZN aN (@vv _ _ _ _ _ 2 rfl (by first|exact Ez rfl|exact Dg (Ez rfl)|exact Dg (Dg rfl)) (by decide) (by decide)) (@bX _ _ _ _ _ _ (@V6 _ _ _ 3 _ _ _ rfl (by decide))) rfl) rfl)) rfl (by first|exact .inl rfl|exact .inr rfl) (by decide) rfl (by first|exact .inl rfl|exact .inr rfl|assumption))
  exact cP (cI (bW (N7 T) c (cR (vv 0) (aW (pv 1) (cR (vv 2) cQ)))))
def jF:Vv P w K mg base "best_plan" 10 "block" "lanes" XS 451:=
 Yd T.fnm T.p_x31 (λU=>gL T U) λ_ _=>rfl
def ni:Vv P w K mg base "found_plan" 11 "block" "lanes" ZF 481:=
 Yd T.fnm T.p_x36 (λU=>iJ T U) λ_ _=>rfl
def D7:aA P w K mg base "_law_ask" 12 Qx53 [] cB 588:=
 W9 P base Nx53 Qx53 11 TC [] T T.p_x53 λc a b d=>by
  exact(cP (gQ (i:=3) rfl rfl rfl c.nd rfl rfl (by decide) (by rfl) (λ_=>T.fnm _ _)
   (cU (bD (XJ b (vv 0) cS)
   (cP (cI (bW (Zv T) a (cR (vv 1) (cR (vv 2) cQ)))))
   cC)
   (cP (cI (OV (XJ b (vv 0) cS) (GC rfl (eO T) a (by decide) (by rfl) (vv 1) (vv 2)) (GC rfl (jW T) a (by decide) (by rfl) (vv 1) (vv 2))))))
   (λ_ _ _ hz=>(IS (ZK (CI (XJ b (vv 0) cS) (ZK (Zl (RE hz rfl (pE T) a (by decide) (by rfl) rfl (cR (vv 1) (cR (vv 2) cQ))))) IT))
   (IU (bD (XJ b (vv 0) cS)
   (cP (cI (bW (Zv T) a (cR (vv 1) (cR (vv 2) cQ)))))
   cC)
   (ZK (Zl (jM (XJ b (vv 0) cS) (GI hz rfl (jF T) a (by decide) (by rfl) rfl (vv 1) (vv 2)) (GI hz rfl (ni T) a (by decide) (by rfl) rfl (vv 1) (vv 2))))))))
   λ_=>(cP (cI (nR (iP T) (a.h.mark _) (cR (vv 3) cQ))))))
def dY{f:Ux}{fd:Ci}(F:SO K "law" "law" (top 93) f fd):YO P w K mg base CX0 13 f fd Qx54 (spV K [] 1 IW):=
 okWg P w K mg base Nx54 Qx54 12 Vy [] F MZ λc a d e=>by
  refine cU ?_ ?_
  ·exact(bY c.nd (WJ (aX (cA cJ))))
  refine cU ?_ ?_
  ·exact(@bD _ _ _ _ _ _ _ _ _ _ _ (@bQ _ _ _ _ _ _ _ _ _ _ _ _ _ _ _ _ _ (RX d) R7 (@bX _ _ _ _ _ _ (aU ["_law_script","_law_town","_law_what"] [0,1] 1 (@ZY _ _ _ _ _ _ _ _ _ _ _ (by rfl) T.n_range cS rfl rfl) (λb _ _ _ _=>⟨(@cH _ _ _ _ _ _ b rfl (by first|exact .inl rfl|exact .inr rfl) (by decide) (by first|exact .inl rfl|exact .inr rfl|assumption)),Z1,(@cN _ _ _ _ _ _ _ _ (@bW _ _ _ _ _ _ _ _ _ _ _ _ _ _ _ _ _ (D7 T) a (@cR _ _ _ _ _ _ _ _ _ (@vv _ _ _ _ _ 2 rfl (by first|exact Ez rfl|exact Dg (Ez rfl)|exact Dg (Dg rfl)) (by decide) (by decide)) (@cR _ _ _ _ _ _ _ _ _ (@cN _ _ _ _ _ _ _ _ (@bW _ _ _ _ _ _ _ _ _ _ _ _ _ _ _ _ _ (kx T) a (@cR _ _ _ _ _ _ _ _ _ (@vv _ _ _ _ _ 0 rfl (by first|exact Ez rfl|exact Dg (Ez rfl)|exact Dg (Dg rfl)) (by decide) (by decide)) (@aW _ _ _ _ _ _ _ _ (pv 1) cQ rfl) rfl) rfl (by decide) rfl (by decide) rfl rfl) rfl) (@cR _ _ _ _ _ _ _ _ _ V5 cQ rfl) rfl) rfl) rfl (by decide) rfl (by decide) rfl rfl) rfl)⟩))) (@bI _ _ _ _ _ _ _ _ _ _ _ _ _ _ _ _ _ kRep JJ (@bX _ _ _ _ _ _ (@V6 _ _ _ 1 _ _ _ rfl (by decide))) cS rfl) (UF _) rfl) (@cP _ _ _ _ _ (@cI _ _ _ _ _ _ _ _ _ YV rfl)) cC)
  refine cU ?_ ?_
  ·exact(bY c.nd (bJ (cN (bW (kX T) a (cR (vv 0) (aW (pv 1) (cR cS cQ)))))))
  refine cU ?_ ?_
  ·exact(@YS _ _ _ _ _ _ _ _ _ _ _ Cb rfl (@Z2 _ _ _ _ _ _ _ rfl (@bX _ _ _ _ _ _ (@V6 _ _ _ 1 _ _ _ rfl (by decide)))) (@cH _ _ _ _ _ _ c.nd rfl (by first|exact .inl rfl|exact .inr rfl) (by decide) (by first|exact .inl rfl|exact .inr rfl|assumption)) (@cP _ _ _ _ _ (@bD _ _ _ _ _ _ _ _ _ _ _ (@bQ _ _ _ _ _ _ _ _ _ _ _ _ _ _ _ _ _ (RX d) R7 (@bX _ _ _ _ _ _ (aU ["_law_block_here","_law_bad","_law_what"] [2,3] 1 (@ZY _ _ _ _ _ _ _ _ _ _ _ (by rfl) T.n_range cS rfl rfl) (λb _ _ _ _=>⟨(@cH _ _ _ _ _ _ b rfl (by first|exact .inl rfl|exact .inr rfl) (by decide) (by first|exact .inl rfl|exact .inr rfl|assumption)),Z1,(@cN _ _ _ _ _ _ _ _ (@bW _ _ _ _ _ _ _ _ _ _ _ _ _ _ _ _ _ (D7 T) a (@cR _ _ _ _ _ _ _ _ _ (@vv _ _ _ _ _ 2 rfl (by first|exact Ez rfl|exact Dg (Ez rfl)|exact Dg (Dg rfl)) (by decide) (by decide)) (@cR _ _ _ _ _ _ _ _ _ (@vv _ _ _ _ _ 0 rfl (by first|exact Ez rfl|exact Dg (Ez rfl)|exact Dg (Dg rfl)) (by decide) (by decide)) (@cR _ _ _ _ _ _ _ _ _ (@vv _ _ _ _ _ 1 rfl (by first|exact Ez rfl|exact Dg (Ez rfl)|exact Dg (Dg rfl)) (by decide) (by decide)) cQ rfl) rfl) rfl) rfl (by decide) rfl (by decide) rfl rfl) rfl)⟩))) (@bI _ _ _ _ _ _ _ _ _ _ _ _ _ _ _ _ _ kRep JJ (@bX _ _ _ _ _ _ (@V6 _ _ _ 1 _ _ _ rfl (by decide))) cS rfl) (UF _) rfl) (@cP _ _ _ _ _ (@cI _ _ _ _ _ _ _ _ _ YV rfl)) cC)) (by intro _;rfl))
  refine cU ?_ ?_
  ·exact(@bY _ _ _ _ _ _ _ _ _ c.nd (@bJ _ _ _ _ _ _ (@cN _ _ _ _ _ _ _ _ (@bP _ _ _ _ _ _ _ _ _ (@cT _ _ _ _ _ _ _ _ _ _ _ _ cS (@cT _ _ _ _ _ _ _ _ _ _ _ _ (@bI _ _ _ _ _ _ _ _ _ _ _ _ _ _ _ _ _ kRep JJ (@IP _ _ _ 2 _ _ rfl) cS rfl) cJ rfl rfl rfl) rfl rfl rfl)) rfl)) rfl (by first|exact .inl rfl|exact .inr rfl) (by decide) rfl (by first|exact .inl rfl|exact .inr rfl|assumption))
  refine cU ?_ ?_
  ·exact(@bD _ _ _ _ _ _ _ _ _ _ _ (@UW _ _ _ _ _ _ (@VV _ _ _ _ _ _ _ _ _ _ _ (@bQ _ _ _ _ _ _ _ _ _ _ _ _ _ _ _ _ _ (RX d) R7 (@bX _ _ _ _ _ _ (aU ["_law_nine","_law_what"] [4] 1 (@ZY _ _ _ _ _ _ _ _ _ _ _ (by rfl) T.n_range cS rfl rfl) (λb _ _ _ _=>⟨(@cH _ _ _ _ _ _ b rfl (by first|exact .inl rfl|exact .inr rfl) (by decide) (by first|exact .inl rfl|exact .inr rfl|assumption)),Z1,(@cN _ _ _ _ _ _ _ _ (@bW _ _ _ _ _ _ _ _ _ _ _ _ _ _ _ _ _ (D7 T) a (@cR _ _ _ _ _ _ _ _ _ (@vv _ _ _ _ _ 1 rfl (by first|exact Ez rfl|exact Dg (Ez rfl)|exact Dg (Dg rfl)) (by decide) (by decide)) (@cR _ _ _ _ _ _ _ _ _ (@vv _ _ _ _ _ 0 rfl (by first|exact Ez rfl|exact Dg (Ez rfl)|exact Dg (Dg rfl)) (by decide) (by decide)) (@cR _ _ _ _ _ _ _ _ _ cS cQ rfl) rfl) rfl) rfl (by decide) rfl (by decide) rfl rfl) rfl)⟩))) (@bI _ _ _ _ _ _ _ _ _ _ _ _ _ _ _ _ _ kRep JJ (@bX _ _ _ _ _ _ (@V6 _ _ _ 1 _ _ _ rfl (by decide))) cS rfl) (UF _) rfl) (@XM _ _ _ _ _ _ _ (@bQ _ _ _ _ _ _ _ _ _ _ _ _ _ _ _ _ _ (RX d) R7 (@bW _ _ _ _ _ _ _ _ _ _ _ _ _ _ _ _ _ (D7 T) a (@cR _ _ _ _ _ _ _ _ _ cS (@cR _ _ _ _ _ _ _ _ _ (@vv _ _ _ _ _ 4 rfl (by first|exact Ez rfl|exact Dg (Ez rfl)|exact Dg (Dg rfl)) (by decide) (by decide)) (@cR _ _ _ _ _ _ _ _ _ cS cQ rfl) rfl) rfl) rfl (by decide) rfl (by decide) rfl rfl) (@bP _ _ _ _ _ _ _ _ _ cJ) (UF _) rfl)))) (@cP _ _ _ _ _ (@cI _ _ _ _ _ _ _ _ _ YV rfl)) cC)
  refine cU ?_ ?_
  ·exact(@bY _ _ _ _ _ _ _ _ _ c.nd (@bJ _ _ _ _ _ _ (@cN _ _ _ _ _ _ _ _ (@bP _ _ _ _ _ _ _ _ _ (@cT _ _ _ _ _ _ _ _ _ _ _ _ cS (@cT _ _ _ _ _ _ _ _ _ _ _ _ (@bI _ _ _ _ _ _ _ _ _ _ _ _ _ _ _ _ _ kRep JJ (@IP _ _ _ 2 _ _ rfl) cS rfl) cJ rfl rfl rfl) rfl rfl rfl)) rfl)) rfl (by first|exact .inl rfl|exact .inr rfl) (by decide) rfl (by first|exact .inl rfl|exact .inr rfl|assumption))
  exact cP (@cI _ _ _ _ _ _ _ _ _ (@veq _ _ _ _ _ _ _ _ _ _ _ _ _ _ d (@bX _ _ _ _ _ _ (aU ["_law_eight","_law_what"] [5] 1 (@ZY _ _ _ _ _ _ _ _ _ _ _ (by rfl) T.n_range cS rfl rfl) (λb _ _ _ _=>⟨(@cH _ _ _ _ _ _ b rfl (by first|exact .inl rfl|exact .inr rfl) (by decide) (by first|exact .inl rfl|exact .inr rfl|assumption)),Z1,(@cN _ _ _ _ _ _ _ _ (@bW _ _ _ _ _ _ _ _ _ _ _ _ _ _ _ _ _ (D7 T) a (@cR _ _ _ _ _ _ _ _ _ (@vv _ _ _ _ _ 1 rfl (by first|exact Ez rfl|exact Dg (Ez rfl)|exact Dg (Dg rfl)) (by decide) (by decide)) (@cR _ _ _ _ _ _ _ _ _ (@vv _ _ _ _ _ 0 rfl (by first|exact Ez rfl|exact Dg (Ez rfl)|exact Dg (Dg rfl)) (by decide) (by decide)) (@cR _ _ _ _ _ _ _ _ _ cS cQ rfl) rfl) rfl) rfl (by decide) rfl (by decide) rfl rfl) rfl)⟩))) (@bX _ _ _ _ _ _ (@V6 _ _ _ 1 _ _ _ rfl (by decide))) rfl rfl) rfl)
end
end RR
namespace L2
open PySem
section
variable{α β:Type}{d x y z c:cV}{δ δ1 δ':Ev}{fa fb fc:VF}{o o':cV->cV->Option cV}{i j k n:Nat}{s:Sl}{b:Bool}{ds:List cV}
def q0(r:Option α)(δ:Ev):Option (α×Ev):=r.map λc=>(c,δ)
@[simp] theorem q0_s{a:α}:q0 (ba a) δ=ba (a,δ):=rfl
@[simp] theorem fC_e:fC d δ=ba (d,δ):=rfl
noncomputable def qV:Option Sl->Ev->Option (cV×Ev)
 |some (.va d),δ=>ba (d,δ)
 |_,_=>bb
noncomputable def qO:Option Sl->Ev->Option (cV×Ev)
 |some (.va d),δ=>ba (d,δ)
 |some (.ow d),δ=>ba (d,δ)
 |_,_=>bb
@[simp] theorem fV_e:fV i δ=qV δ[i]? δ:=by unfold fV qV;split<;>simp_all
@[simp] theorem fO_e:fO i δ=qO δ[i]? δ:=by unfold fO qO;split<;>simp_all
@[simp] theorem qV_s:qV (ba (.va d)) δ=ba (d,δ):=rfl
@[simp] theorem qO_v:qO (ba (.va d)) δ=ba (d,δ):=rfl
@[simp] theorem qO_o:qO (ba (.ow d)) δ=ba (d,δ):=rfl
def q1(o:cV->Option cV)(r:Option (cV×Ev)):Option (cV×Ev):=r.bind λp=>q0 (o p.1) p.2
@[simp] theorem f1_e{o:cV->Option cV}:f1 o fa δ=q1 o (fa δ):=rfl
@[simp] theorem q1_s{o:cV->Option cV}:q1 o (ba (x,δ))=q0 (o x) δ:=rfl
def q2(o:cV->cV->Option cV)(r:Option (cV×Ev))(fb:VF):Option (cV×Ev):=r.bind λp=>(fb p.2).bind λq=>q0 (o p.1 q.1) q.2
def q2b(o:cV->cV->Option cV)(x:cV)(r:Option (cV×Ev)):Option (cV×Ev):=r.bind λq=>q0 (o x q.1) q.2
@[simp] theorem f2_e:f2 o fa fb δ=q2 o (fa δ) fb:=rfl
@[simp] theorem q2_s:q2 o (ba (x,δ)) fb=q2b o x (fb δ):=rfl
@[simp] theorem sJ:q2b o x (ba (y,δ))=q0 (o x y) δ:=rfl
noncomputable def q3(o o':cV->cV->Option cV)(r:Option (cV×Ev))(fb fc:VF):Option (cV×Ev):=r.bind λp=>(fb p.2).bind λq=>(o p.1 q.1).bind λz=>match z with
 |.bl bc=>(fc q.2).bind λs=>(o' q.1 s.1).map λu=>(u,s.2)
 |.bl bd=>ba (.bl bd,q.2)
 |_=>bb
def q3b(o o':cV->cV->Option cV)(x:cV)(r:Option (cV×Ev))(fc:VF):Option (cV×Ev):=q3 o o' (ba (x,[])) (λ_=>r) fc
noncomputable def q3c(o':cV->cV->Option cV)(y:cV)(δ:Ev)(fc:VF):Option cV->Option (cV×Ev)
 |some (.bl bc)=>q2b o' y (fc δ)
 |some (.bl bd)=>ba (.bl bd,δ)
 |_=>bb
@[simp] theorem f3_e:f3 o o' fa fb fc δ=q3 o o' (fa δ) fb fc:=rfl
@[simp] theorem q3_s:q3 o o' (ba (x,δ)) fb fc=q3b o o' x (fb δ) fc:=rfl
@[simp] theorem ut:q3b o o' x (ba (y,δ)) fc=q3c o' y δ fc (o x y):=by
 simp only[q3b,q3,Av];cases o x y with
 |none=>rfl
 |some z=>cases z with
  |bl b=>cases b<;>rfl
  |_=>rfl
@[simp] theorem uo:q3c o' y δ fc (ba (.bl bc))=q2b o' y (fc δ):=rfl
@[simp] theorem uZ:q3c o' y δ fc (ba (.bl bd))=ba (.bl bd,δ):=rfl
noncomputable def qc(r:Option (cV×Ev))(fs:N0):Option (List cV×Ev):=r.bind λp=>(fs p.2).map λq=>(p.1::q.1,q.2)
noncomputable def qcb(x:cV)(r:Option (List cV×Ev)):Option (List cV×Ev):=r.map λq=>(x::q.1,q.2)
@[simp] theorem r6:bU δ=ba ([],δ):=rfl
@[simp] theorem tP{fs:N0}:cO fa fs δ=qc (fa δ) fs:=rfl
@[simp] theorem qc_s{fs:N0}:qc (ba (x,δ)) fs=qcb x (fs δ):=rfl
@[simp] theorem t9:qcb x (ba (ds,δ))=ba (x::ds,δ):=rfl
noncomputable def qT(g:List cV->cV)(r:Option (List cV×Ev)):Option (cV×Ev):=r.bind λp=>if p.1.length<=16777216 then ba (g p.1,p.2)else bb
@[simp] theorem uw{fs:N0}:aH fs δ=qT .tup (fs δ):=rfl
@[simp] theorem sG{fs:N0}:ZG fs δ=qT .lst (fs δ):=rfl
@[simp] theorem qT_s{g:List cV->cV}:qT g (ba (ds,δ))=if ds.length<=16777216 then ba (g ds,δ)else bb:=rfl
noncomputable def qB:Option (cV×Ev)->Option (Bool×Ev)
 |some (.bl k,δ)=>ba (k,δ)
 |_=>bb
@[simp] theorem fB_e:fB fa δ=qB (fa δ):=by
 unfold fB qB;cases fa δ with
 |none=>rfl
 |some p=>
  obtain⟨d,e⟩:=p;cases d<;>rfl
@[simp] theorem qB_s:qB (ba (.bl b,δ))=ba (b,δ):=rfl
variable{tb tb':VB}{g g':VS}
noncomputable def qAnd(r:Option (Bool×Ev))(y:VB):Option (Bool×Ev):=r.bind λp=>if p.1=bc then y p.2 else ba (bd,p.2)
noncomputable def qOr(r:Option (Bool×Ev))(y:VB):Option (Bool×Ev):=r.bind λp=>if p.1=bc then ba (bc,p.2)else y p.2
noncomputable def qNot(r:Option (Bool×Ev)):Option (Bool×Ev):=r.map λp=>(!p.1,p.2)
@[simp] theorem qW:QI tb tb' δ=qAnd (tb δ) tb':=rfl
@[simp] theorem rq:GR tb tb' δ=qOr (tb δ) tb':=rfl
@[simp] theorem tO:VW tb δ=qNot (tb δ):=rfl
@[simp] theorem hV:YK δ=ba (bc,δ):=rfl
@[simp] theorem tZ:qAnd (ba (bc,δ)) tb=tb δ:=rfl
@[simp] theorem tj:qAnd (ba (bd,δ)) tb=ba (bd,δ):=rfl
@[simp] theorem tu:qOr (ba (bc,δ)) tb=ba (bc,δ):=rfl
@[simp] theorem uh:qOr (ba (bd,δ)) tb=tb δ:=rfl
@[simp] theorem si:qNot (ba (b,δ))=ba (!b,δ):=rfl
noncomputable def qA(r:Option (cV×Ev))(y:VF):Option (cV×Ev):=r.bind λp=>match p.1 with
 |.bl bc=>y p.2
 |.bl bd=>ba (.bl bd,p.2)
 |_=>bb
noncomputable def qR(r:Option (cV×Ev))(y:VF):Option (cV×Ev):=r.bind λp=>match p.1 with
 |.bl bd=>y p.2
 |.bl bc=>ba (.bl bc,p.2)
 |_=>bb
@[simp] theorem sY:RM fa fb δ=qA (fa δ) fb:=rfl
@[simp] theorem rC:fOr fa fb δ=qR (fa δ) fb:=rfl
@[simp] theorem qA_t:qA (ba (.bl bc,δ)) fb=fb δ:=rfl
@[simp] theorem qA_f:qA (ba (.bl bd,δ)) fb=ba (.bl bd,δ):=rfl
@[simp] theorem qR_t:qR (ba (.bl bc,δ)) fb=ba (.bl bc,δ):=rfl
@[simp] theorem qR_f:qR (ba (.bl bd,δ)) fb=fb δ:=rfl
def qI(r:Option (Bool×Ev))(x y:VF):Option (cV×Ev):=r.bind λp=>if p.1=bc then x p.2 else y p.2
@[simp] theorem sk:fIf tb fa fb δ=qI (tb δ) fa fb:=rfl
@[simp] theorem qI_t:qI (ba (bc,δ)) fa fb=fa δ:=rfl
@[simp] theorem qI_f:qI (ba (bd,δ)) fa fb=fb δ:=rfl
def qS(r:Option Ou)(g:VS):Option Ou:=r.bind λo=>match o with
 |.nx δ'=>g δ'
 |o=>ba o
@[simp] theorem uQ:aL δ=ba (.nx δ):=rfl
@[simp] theorem Xh:cG g g' δ=qS (g δ) g':=rfl
@[simp] theorem qS_n:qS (ba (.nx δ)) g=g δ:=rfl
@[simp] theorem qS_r:qS (ba (.rt d δ)) g=ba (.rt d δ):=rfl
@[simp] theorem qS_b:qS (ba (.bk δ)) g=ba (.bk δ):=rfl
@[simp] theorem qS_c:qS (ba (.ct δ)) g=ba (.ct δ):=rfl
def qJ(r:Option (Bool×Ev))(x y:VS):Option Ou:=r.bind λp=>if p.1=bc then x p.2 else y p.2
@[simp] theorem uD:X4 tb g g' δ=qJ (tb δ) g g':=rfl
@[simp] theorem qJ_t:qJ (ba (bc,δ)) g g'=g δ:=rfl
@[simp] theorem qJ_f:qJ (ba (bd,δ)) g g'=g' δ:=rfl
noncomputable def qRet(r:Option (cV×Ev)):Option Ou:=r.map λp=>.rt p.1 p.2
def Yi(r:Option (cV×Ev)):Option Ou:=r.map λp=>.nx p.2
@[simp] theorem rL:bS fa δ=qRet (fa δ):=rfl
@[simp] theorem rK:qRet (ba (d,δ))=ba (.rt d δ):=rfl
@[simp] theorem uU:Q8 fa δ=Yi (fa δ):=rfl
@[simp] theorem uI:Yi (ba (d,δ))=ba (.nx δ):=rfl
noncomputable def qx(f:cV->Sl)(r:Option (cV×Ev)):Option (Sl×Ev):=r.map λp=>(f p.1,p.2)
@[simp] theorem xV_e:xV fa δ=qx .va (fa δ):=rfl
@[simp] theorem xO_e:xO fa δ=qx .ow (fa δ):=rfl
@[simp] theorem qx_s{f:cV->Sl}:qx f (ba (d,δ))=ba (f d,δ):=rfl
noncomputable def qSet(i:Nat)(r:Option (Sl×Ev)):Option Ou:=r.bind λp=>if i<p.2.length then ba (.nx (p.2.set i p.1))else bb
@[simp] theorem sf{x:VX}:bH i x δ=qSet i (x δ):=rfl
@[simp] theorem uK:qSet i (ba (s,δ))=if i<δ.length then ba (.nx (δ.set i s))else bb:=rfl
noncomputable def qP2(i j:Nat)(r:Option (Sl×Ev))(y:VX):Option Ou:=r.bind λp=>(y p.2).bind λq=>if i<q.2.length/\j<q.2.length then ba (.nx ((q.2.set j q.1).set i p.1))else bb
noncomputable def qP2b(i j:Nat)(s:Sl)(r:Option (Sl×Ev)):Option Ou:=r.bind λq=>if i<q.2.length/\j<q.2.length then ba (.nx ((q.2.set j q.1).set i s))else bb
@[simp] theorem v6{x y:VX}:FV i j x y δ=qP2 i j (x δ) y:=rfl
@[simp] theorem uR{y:VX}:qP2 i j (ba (s,δ)) y=qP2b i j s (y δ):=rfl
@[simp] theorem uF{s':Sl}:qP2b i j s (ba (s',δ))=if i<δ.length/\j<δ.length then ba (.nx ((δ.set j s').set i s))else bb:=rfl
noncomputable def qP3(i j k:Nat)(r:Option (Sl×Ev))(y z:VX):Option Ou:=r.bind λp=>(y p.2).bind λq=>(z q.2).bind λr=>if i<r.2.length/\j<r.2.length/\k<r.2.length then ba (.nx (((r.2.set k r.1).set j q.1).set i p.1))else bb
noncomputable def qP3b(i j k:Nat)(s:Sl)(r:Option (Sl×Ev))(z:VX):Option Ou:=r.bind λq=>(z q.2).bind λr=>if i<r.2.length/\j<r.2.length/\k<r.2.length then ba (.nx (((r.2.set k r.1).set j q.1).set i s))else bb
noncomputable def qP3c(i j k:Nat)(s s':Sl)(r:Option (Sl×Ev)):Option Ou:=r.bind λr=>if i<r.2.length/\j<r.2.length/\k<r.2.length then ba (.nx (((r.2.set k r.1).set j s').set i s))else bb
@[simp] theorem pX{x y z:VX}:NB i j k x y z δ=qP3 i j k (x δ) y z:=rfl
@[simp] theorem ti{y z:VX}:qP3 i j k (ba (s,δ)) y z=qP3b i j k s (y δ) z:=rfl
@[simp] theorem sS{s':Sl}{z:VX}:qP3b i j k s (ba (s',δ)) z=qP3c i j k s s' (z δ):=rfl
@[simp] theorem rl{s' a:Sl}:qP3c i j k s s' (ba (a,δ))=if i<δ.length/\j<δ.length/\k<δ.length then ba (.nx (((δ.set k a).set j s').set i s))else bb:=rfl
@[simp] theorem gN_e:gN i d δ=ba (δ.set i (.va d)):=rfl
def qg(r:Option Ev)(a:VGs)(ds:List cV):Option Ev:=r.bind λδ1=>a ds δ1
@[simp] theorem t0:W8 [] δ=ba δ:=rfl
@[simp] theorem qN{gg:VG}{a:VGs}:a7 gg a (d::ds) δ=qg (gg d δ) a ds:=rfl
@[simp] theorem qg_s{a:VGs}:qg (ba δ) a ds=a ds δ:=rfl
@[simp] theorem qL{a:VGs}:GU n a (.tup ds) δ=if ds.length=n then a ds δ else bb:=rfl
@[simp] theorem pZ{a:VGs}:GU n a (.lst ds) δ=if ds.length=n then a ds δ else bb:=rfl
noncomputable def qAsg(r:Option (cV×Ev))(gg:VG):Option Ou:=r.bind λp=>(gg p.1 p.2).map Ou.nx
@[simp] theorem uW{gg:VG}:sAsg fa gg δ=qAsg (fa δ) gg:=rfl
@[simp] theorem sI{gg:VG}:qAsg (ba (d,δ)) gg=(gg d δ).map Ou.nx:=rfl
def qM(i:Nat)(m:List cV->List cV->Option (List cV))(r:Option (List cV))(δ:Ev)(fs:N0):Option Ou:=r.bind λ_=>(fs δ).bind λp=>(N5 p.2 i).bind λds=>(m ds p.1).map λa=>.nx (p.2.set i (.ow (.lst a)))
def qMb(i:Nat)(m:List cV->List cV->Option (List cV))(r:Option (List cV×Ev)):Option Ou:=r.bind λp=>(N5 p.2 i).bind λds=>(m ds p.1).map λa=>.nx (p.2.set i (.ow (.lst a)))
noncomputable def qMc(i:Nat)(m:List cV->List cV->Option (List cV))(es:List cV)(δ:Ev)(r:Option (List cV)):Option Ou:=r.bind λds=>(m ds es).map λa=>.nx (δ.set i (.ow (.lst a)))
noncomputable def qMd(i:Nat)(δ:Ev)(r:Option (List cV)):Option Ou:=r.map λa=>.nx (δ.set i (.ow (.lst a)))
@[simp] theorem ri{m:List cV->List cV->Option (List cV)}{fs:N0}:V4 i m fs δ=qM i m (N5 δ i) δ fs:=rfl
@[simp] theorem qM_s{m:List cV->List cV->Option (List cV)}{fs:N0}:qM i m (ba ds) δ fs=qMb i m (fs δ):=rfl
@[simp] theorem uG{m:List cV->List cV->Option (List cV)}{es:List cV}:qMb i m (ba (es,δ))=qMc i m es δ (N5 δ i):=rfl
@[simp] theorem ur{m:List cV->List cV->Option (List cV)}{es:List cV}:qMc i m es δ (ba ds)=qMd i δ (m ds es):=rfl
@[simp] theorem sP:qMd i δ (ba ds)=ba (.nx (δ.set i (.ow (.lst ds)))):=rfl
noncomputable def qOl:Option Sl->Option (List cV)
 |some (.ow (.lst ds))=>ba ds
 |_=>bb
@[simp] theorem uf:N5 δ i=qOl δ[i]? :=by unfold N5 qOl;split<;>simp_all
@[simp] theorem uk:qOl (ba (.ow (.lst ds)))=ba ds:=rfl
@[simp] theorem ul:SR ds [d]=if ds.length<16777216 then ba (ds++[d])else bb:=rfl
noncomputable def qOd:Option Sl->Option (List aK×List cV)
 |some (.ow (.dct ks ds))=>ba (ks,ds)
 |_=>bb
@[simp] theorem q8:XB δ i=qOd δ[i]? :=by unfold XB qOd;split<;>simp_all
@[simp] theorem ve{ks:List aK}:qOd (ba (.ow (.dct ks ds)))=ba (ks,ds):=rfl
def qi(r:Option (cV×Ev)):Option (List cV×Ev):=r.bind λp=>(XG p.1).map λds=>(ds,p.2)
@[simp] theorem tW:YQ fa δ=qi (fa δ):=rfl
@[simp] theorem qi_t:qi (ba (.tup ds,δ))=ba (ds,δ):=rfl
@[simp] theorem qi_l:qi (ba (.lst ds,δ))=ba (ds,δ):=rfl
noncomputable def qr1:Option (cV×Ev)->Option (List cV×Ev)
 |some (.int j,δ)=>if -4611686018427387904<=j/\j<4611686018427387904 then ba (Y4 0 j.toNat,δ)else bb
 |_=>bb
@[simp] theorem tU:HG fa δ=qr1 (fa δ):=by
 unfold HG qr1;cases fa δ with
 |none=>rfl
 |some p=>
  obtain⟨d,e⟩:=p;cases d<;>rfl
@[simp] theorem ro{j:Int}:qr1 (ba (.int j,δ))=if -4611686018427387904<=j/\j<4611686018427387904 then ba (Y4 0 j.toNat,δ)else bb:=rfl
def qe(r:Option (cV×Ev)):Option (List cV×Ev):=r.bind λp=>(XG p.1).map λds=>(YB 0 ds,p.2)
@[simp] theorem sg:MR fa δ=qe (fa δ):=rfl
@[simp] theorem qe_t:qe (ba (.tup ds,δ))=ba (YB 0 ds,δ):=rfl
@[simp] theorem qe_l:qe (ba (.lst ds,δ))=ba (YB 0 ds,δ):=rfl
def qz(r:Option (cV×Ev))(g:VF):Option (List cV×Ev):=r.bind λp=>(g p.2).bind λq=>(XG p.1).bind λds=>(XG q.1).map λes=>(SU ds es,q.2)
def qzb(x:cV)(r:Option (cV×Ev)):Option (List cV×Ev):=r.bind λq=>(XG x).bind λds=>(XG q.1).map λes=>(SU ds es,q.2)
@[simp] theorem qj:iZip fa fb δ=qz (fa δ) fb:=rfl
@[simp] theorem qz_s:qz (ba (x,δ)) fb=qzb x (fb δ):=rfl
@[simp] theorem qC:qzb x (ba (y,δ))=(XG x).bind λds=>(XG y).map λes=>(SU ds es,δ):=rfl
@[simp] theorem sH:XG (.tup ds)=ba ds:=rfl
@[simp] theorem sB:XG (.lst ds)=ba ds:=rfl
def qF(r:Option (List cV×Ev))(gg:VG)(g:VS):Option Ou:=r.bind λp=>W4 gg g p.1 p.2
@[simp] theorem Yv{fi:VI}{gg:VG}:VH fi gg g δ=qF (fi δ) gg g:=rfl
@[simp] theorem qF_s{gg:VG}:qF (ba (ds,δ)) gg g=W4 gg g ds δ:=rfl
def qK(ix:List Nat)(nl:Nat)(r:Option (List cV×Ev))(gg:VG)(tb:VB)(fe:VF):Option (cV×Ev):=r.bind λp=>(ZB ix.length nl gg tb fe p.1 [] (aQ ix p.2)).map λq=>(.lst q.1,ZM ix q.2 p.2)
def qKb(ix:List Nat)(δ:Ev)(r:Option (List cV×Ev)):Option (cV×Ev):=r.map λq=>(.lst q.1,ZM ix q.2 δ)
@[simp] theorem qp{ix:List Nat}{nl:Nat}{fi:VI}{gg:VG}:aZ ix nl fi gg tb fa δ=qK ix nl (fi δ) gg tb fa:=rfl
@[simp] theorem qK_s{ix:List Nat}{nl:Nat}{gg:VG}:qK ix nl (ba (ds,δ)) gg tb fa=qKb ix δ (ZB ix.length nl gg tb fa ds [] (aQ ix δ)):=rfl
@[simp] theorem tV{ix:List Nat}:qKb ix δ (ba (ds,δ1))=ba (.lst ds,ZM ix δ1 δ):=rfl
variable{as:List AV}{fs:JB}{mF:List Nat}{F:bM}
noncomputable def qa(r:Option (cV×Ev))(fs:JB):Option (List AV×Ev):=r.bind λp=>(fs p.2).map λq=>(.d p.1::q.1,q.2)
noncomputable def qab(x:AV)(r:Option (List AV×Ev)):Option (List AV×Ev):=r.map λq=>(x::q.1,q.2)
@[simp] theorem jo:cE δ=ba ([],δ):=rfl
@[simp] theorem EC:aE fa fs δ=qa (fa δ) fs:=rfl
@[simp] theorem qa_s:qa (ba (x,δ)) fs=qab (.d x) (fs δ):=rfl
@[simp] theorem Wy{a:AV}:qab a (ba (as,δ))=ba (a::as,δ):=rfl
def qao(j:Nat)(r:Option cV)(δ:Ev)(fs:JB):Option (List AV×Ev):=r.bind λ_=>qab (.o j) (fs δ)
@[simp] theorem aO_e:aO j fs δ=qao j (slot δ j) δ fs:=rfl
@[simp] theorem gE:qao j (ba d) δ fs=qab (.o j) (fs δ):=rfl
noncomputable def qsl:Option Sl->Option cV
 |some (.va d)=>ba d
 |some (.ow d)=>ba d
 |_=>bb
@[simp] theorem rZ:slot δ j=qsl δ[j]? :=by unfold slot qsl;split<;>simp_all
@[simp] theorem rh:qsl (ba (.va d))=ba d:=rfl
@[simp] theorem sC:qsl (ba (.ow d))=ba d:=rfl
@[simp] theorem tz:WD δ []=ba []:=rfl
@[simp] theorem uY:WD δ (.d d::as)=(WD δ as).map λds=>d::ds:=rfl
@[simp] theorem qh:WD δ (.o j::as)=(slot δ j).bind λd=>(WD δ as).map λds=>d::ds:=rfl
def Zd(n:Nat)(mF:List Nat)(F:bM)(r:Option (List AV×Ev)):Option (cV×Ev):=r.bind λp=>(WD p.2 p.1).bind λds=>if ds.length=n/\U7 mF p.1 p.2=bc then(F ds).bind λq=>if VY mF p.1 q.1 q.2=bc then ba (q.1,WM p.1 mF q.2 p.2)else bb else bb
def qCb(n:Nat)(mF:List Nat)(F:bM)(as:List AV)(δ:Ev)(r:Option (List cV)):Option (cV×Ev):=r.bind λds=>if ds.length=n/\U7 mF as δ=bc then(F ds).bind λq=>if VY mF as q.1 q.2=bc then ba (q.1,WM as mF q.2 δ)else bb else bb
def qCc(mF:List Nat)(as:List AV)(δ:Ev)(r:Option (cV×List cV)):Option (cV×Ev):=r.bind λq=>if VY mF as q.1 q.2=bc then ba (q.1,WM as mF q.2 δ)else bb
@[simp] theorem NP:cK n mF F fs δ=Zd n mF F (fs δ):=rfl
@[simp] theorem oz:Zd n mF F (ba (as,δ))=qCb n mF F as δ (WD δ as):=rfl
@[simp] theorem iX:qCb n mF F as δ (ba ds)=if ds.length=n/\U7 mF as δ=bc then qCc mF as δ (F ds)else bb:=rfl
@[simp] theorem nP{os:List cV}:qCc mF as δ (ba (d,os))=if VY mF as d os=bc then ba (d,WM as mF os δ)else bb:=rfl
@[simp] theorem uL:A5 δ as i=(match as[i]? with
 |some (.o j)=>match δ[j]? with
  |some (.ow _)=>bc
  |_=>bd
 |_=>bd):=rfl
@[simp] theorem uA:UU []=[]:=rfl
@[simp] theorem sw:UU (.d d::as)=UU as:=rfl
@[simp] theorem uJ:UU (.o j::as)=j::UU as:=rfl
@[simp] theorem rG:U7 mF as δ=(mF.all (A5 δ as)&&decide (UU as).Nodup):=rfl
@[simp] theorem tR:WP mF [] i=bc:=rfl
@[simp] theorem uv:WP mF (.d d::as) i=WP mF as (i+1):=rfl
@[simp] theorem tG:WP mF (.o j::as) i=(decide (i∈mF)&&WP mF as (i+1)):=rfl
@[simp] theorem rT{os:List cV}:VY mF as d os=((WP mF as 0 || d.hard)&&(WP mF as 0 || os.all UD)&&decide (mF.length=os.length)):=rfl
@[simp] theorem qG{os:List cV}:WM as [] os δ=δ:=by cases os<;>rfl
@[simp] theorem qk{os:List cV}{is:List Nat}:WM as (i::is) (d::os) δ=(match as[i]? with
  |some (.o j)=>WM as is os (δ.set j (.ow d))
  |_=>WM as is os δ):=rfl
@[simp] theorem qq:pNo δ=ba (bb,δ):=rfl
noncomputable def qpS:Option (cV×Ev)->Option (Option Int×Ev)
 |some (.int i,δ)=>ba (ba i,δ)
 |_=>bb
@[simp] theorem tJ:DG fa δ=qpS (fa δ):=by
 unfold DG qpS;cases fa δ with
 |none=>rfl
 |some p=>
  obtain⟨d,e⟩:=p;cases d<;>rfl
@[simp] theorem qv{i:Int}:qpS (ba (.int i,δ))=ba (ba i,δ):=rfl
def qSl(r:Option (cV×Ev))(a b:VP):Option (cV×Ev):=r.bind λp=>(a p.2).bind λl=>(b l.2).bind λu=>(oSl p.1 l.1 u.1).map λc=>(c,u.2)
def qSlb(x:cV)(r:Option (Option Int×Ev))(a:VP):Option (cV×Ev):=r.bind λl=>(a l.2).bind λu=>(oSl x l.1 u.1).map λc=>(c,u.2)
def qSlc(x:cV)(l:Option Int)(r:Option (Option Int×Ev)):Option (cV×Ev):=r.bind λu=>q0 (oSl x l u.1) u.2
@[simp] theorem tY{a b:VP}:C4 fa a b δ=qSl (fa δ) a b:=rfl
@[simp] theorem qU{a b:VP}:qSl (ba (x,δ)) a b=qSlb x (a δ) b:=rfl
@[simp] theorem rJ{l:Option Int}{a:VP}:qSlb x (ba (l,δ)) a=qSlc x l (a δ):=rfl
@[simp] theorem su{l u:Option Int}:qSlc x l (ba (u,δ))=q0 (oSl x l u) δ:=rfl
@[simp] theorem tq{l u:Option Int}:oSl (.tup ds) l u=ba (.tup (VN ds l u)):=rfl
@[simp] theorem sL{l u:Option Int}:oSl (.lst ds) l u=ba (.lst (VN ds l u)):=rfl
noncomputable def qSt(i j:Nat):Option (cV×Ev)->Option Ou
 |some (.tup (d::ds),δ)=>ba (.nx ((δ.set i (.va d)).set j (.va (.lst ds))))
 |_=>bb
@[simp] theorem tw:K2 i j fa δ=qSt i j (fa δ):=by
 unfold K2 qSt;cases fa δ with
 |none=>rfl
 |some p=>
  obtain⟨d,e⟩:=p;cases d with
  |tup ds=>cases ds<;>rfl
  |_=>rfl
@[simp] theorem sF:qSt i j (ba (.tup (d::ds),δ))=ba (.nx ((δ.set i (.va d)).set j (.va (.lst ds)))):=rfl
def qDg(i:Nat)(r:Option (List aK×List cV))(δ:Ev)(fk fx:VF):Option (cV×Ev):=r.bind λ_=>(fk δ).bind λp=>(fx p.2).bind λq=>(VQ p.1).bind λk=>(XB q.2 i).map λz=>((aV z.1 z.2 k).getD q.1,q.2)
def qDgb(i:Nat)(r:Option (cV×Ev))(fx:VF):Option (cV×Ev):=r.bind λp=>(fx p.2).bind λq=>(VQ p.1).bind λk=>(XB q.2 i).map λz=>((aV z.1 z.2 k).getD q.1,q.2)
def qDgc(i:Nat)(x:cV)(r:Option (cV×Ev)):Option (cV×Ev):=r.bind λq=>(VQ x).bind λk=>(XB q.2 i).map λz=>((aV z.1 z.2 k).getD q.1,q.2)
@[simp] theorem qt:HC i fa fb δ=qDg i (XB δ i) δ fa fb:=rfl
@[simp] theorem tH{z:List aK×List cV}:qDg i (ba z) δ fa fb=qDgb i (fa δ) fb:=rfl
@[simp] theorem tT:qDgb i (ba (x,δ)) fb=qDgc i x (fb δ):=rfl
@[simp] theorem uS:qDgc i x (ba (y,δ))=(VQ x).bind λk=>(XB δ i).map λz=>((aV z.1 z.2 k).getD y,δ):=rfl
def qDp(i:Nat)(r:Option (cV×Ev))(fk:VF):Option Ou:=r.bind λp=>(XB p.2 i).bind λ_=>(fk p.2).bind λq=>(VQ q.1).bind λk=>(XB q.2 i).bind λz=>if z.1.length<16777216/\z.1.Nodup then ba (.nx (q.2.set i (.ow (let r:=YG z.1 z.2 k p.1;.dct r.1 r.2))))else bb
def qDpb(i:Nat)(x:cV)(r:Option (List aK×List cV))(δ:Ev)(fk:VF):Option Ou:=r.bind λ_=>(fk δ).bind λq=>(VQ q.1).bind λk=>(XB q.2 i).bind λz=>if z.1.length<16777216/\z.1.Nodup then ba (.nx (q.2.set i (.ow (let r:=YG z.1 z.2 k x;.dct r.1 r.2))))else bb
def qDpc(i:Nat)(x:cV)(r:Option (cV×Ev)):Option Ou:=r.bind λq=>(VQ q.1).bind λk=>(XB q.2 i).bind λz=>if z.1.length<16777216/\z.1.Nodup then ba (.nx (q.2.set i (.ow (.dct (YG z.1 z.2 k x).1 (YG z.1 z.2 k x).2))))else bb
@[simp] theorem ua{fk a:VF}:FT i fk a δ=qDp i (a δ) fk:=rfl
@[simp] theorem tM{fk:VF}:qDp i (ba (x,δ)) fk=qDpb i x (XB δ i) δ fk:=rfl
@[simp] theorem rP{z:List aK×List cV}{fk:VF}:qDpb i x (ba z) δ fk=qDpc i x (fk δ):=rfl
@[simp] theorem sE:qDpc i x (ba (y,δ))=(VQ y).bind λk=>(XB δ i).bind λz=>if z.1.length<16777216/\z.1.Nodup then ba (.nx (δ.set i (.ow (.dct (YG z.1 z.2 k x).1 (YG z.1 z.2 k x).2))))else bb:=rfl
@[simp] theorem sy{i:Int}:VQ (.int i)=ba (.inl i):=rfl
@[simp] theorem rX{s:Va}:VQ (.str s)=ba (.inr s):=rfl
def qRun(ml:List Nat):Option Ou->Option (cV×List cV)
 |some (.rt d δ)=>(UV ml δ).map λos=>(d,os)
 |some (.nx δ)=>(UV ml δ).map λos=>(.non,os)
 |_=>bb
def bG{ml:List Nat}:a9 n ml g ds=qRun ml (g (bA ml n ds)):=by
 unfold a9 qRun;cases g (bA ml n ds)with
 |none=>rfl
 |some o=>cases o<;>rfl
@[simp] theorem qZ{ml:List Nat}:qRun ml (ba (.rt d δ))=(UV ml δ).map λos=>(d,os):=rfl
@[simp] theorem sW{ml:List Nat}:qRun ml (ba (.nx δ))=(UV ml δ).map λos=>(.non,os):=rfl
def qow:Option Sl->Option cV
 |some (.ow d)=>ba d
 |_=>bb
@[simp] theorem qX:UV [] δ=ba []:=rfl
@[simp] theorem q9{ml:List Nat}:UV (i::ml) δ=(qow δ[i]?).bind λd=>(UV ml δ).map λos=>d::os:=by
 unfold UV;rw[Sw];cases h:(δ[i]? :Option Sl)with
 |none=>rfl
 | some s => cases s with
  |no=>rfl
  |va d=>rfl
  |ow d=>
   show(Option.bind _ λos=>ba (d::os))=Option.map (λos=>d::os) _;cases (List.mapM _ ml:Option (List cV))<;>rfl
@[simp] theorem qQ:qow (ba (.ow d))=ba d:=rfl
end
section
variable{i j:Int}{x y:Va}{ds es:List cV}
@[simp] theorem oI_e{C:Int->Int->Bool}{g:Int->Int->cV}:oI C g (.int i) (.int j)=if C i j=bc then ba (g i j)else bb:=rfl
@[simp] theorem qP:aC (.int i) (.int j)=ba (.int (i+j)):=rfl
@[simp] theorem rm:aC (.tup ds) (.tup es)=if ds.length+es.length<=16777216 then ba (.tup (ds++es))else bb:=rfl
@[simp] theorem sO:aC (.lst ds) (.lst es)=if ds.length+es.length<=16777216 then ba (.lst (ds++es))else bb:=rfl
@[simp] theorem sT{g:Int->Int->Int}:o2I g (.int i) (.int j)=ba (.int (g i j)):=rfl
@[simp] theorem sx:Z0 (.tup ds)=ba (.int ds.length):=rfl
@[simp] theorem rn:Z0 (.lst ds)=ba (.int ds.length):=rfl
@[simp] theorem rN:FF (.tup ds)=ba (.lst ds):=rfl
@[simp] theorem rA:FF (.lst ds)=ba (.lst ds):=rfl
@[simp] theorem tE:UI (.tup ds)=ba (.tup ds):=rfl
@[simp] theorem v9:UI (.lst ds)=ba (.tup ds):=rfl
@[simp] theorem uq:bT (.tup ds) (.int i)=SQ ds i:=rfl
@[simp] theorem v7:bT (.lst ds) (.int i)=SQ ds i:=rfl
@[simp] theorem sU{ks:List aK}:bT (.dct ks ds) (.int i)=aV ks ds (.inl i):=rfl
@[simp] theorem sZ{ks:List aK}:bT (.dct ks ds) (.str x)=aV ks ds (.inr x):=rfl
@[simp] theorem sA:KI (.int i)=bc:=rfl
@[simp] theorem rM:KI .non=bc:=rfl
@[simp] theorem uB{b:Bool}:KI (.bl b)=bc:=rfl
@[simp] theorem qr:N4 "int" "bool"=ba bd:=by decide+kernel
@[simp] theorem tX:N4 "int" "int"=ba bc:=by decide+kernel
@[simp] theorem tD:N4 "tuple" "tuple"=ba bc:=by decide+kernel
@[simp] theorem qY:N4 "str" "str"=ba bc:=by decide+kernel
@[simp] theorem uN{n:String}:Q0 (.int i) (.ty n)=(N4 "int" n).map cV.bl:=rfl
@[simp] theorem sj{n:String}:Q0 (.tup ds) (.ty n)=(N4 "tuple" n).map cV.bl:=rfl
@[simp] theorem uX{n:String}:Q0 (.lst ds) (.ty n)=(N4 "list" n).map cV.bl:=rfl
@[simp] theorem ud{n:String}:Q0 (.str x) (.ty n)=(N4 "str" n).map cV.bl:=rfl
@[simp] theorem sK:FE .non .non=ba (.bl bc):=rfl
@[simp] theorem sV:FE (.int i) .non=ba (.bl bd):=rfl
@[simp] theorem ui:FE (.str x) .non=ba (.bl bd):=rfl
@[simp] theorem tL:FE (.tup ds) .non=ba (.bl bd):=rfl
@[simp] theorem uT:OS .non .non=ba (.bl bd):=rfl
@[simp] theorem pW:OS (.int i) .non=ba (.bl bc):=rfl
@[simp] theorem qE:OS (.str x) .non=ba (.bl bc):=rfl
@[simp] theorem tN:OS (.tup ds) .non=ba (.bl bc):=rfl
end
section
variable{d x:cV}{δ δ1:Ev}{r acc:List cV}{gg:VG}{tb:VB}{fe:VF}{n nl:Nat}{g:VS}
def qk1(n nl:Nat)(gg:VG)(tb:VB)(fe:VF)(r acc:List cV)(o:Option Ev):Option (List cV×Ev):=o.bind λδ1=>(tb δ1).bind λp=>if p.1=bc then(fe p.2).bind λq=>if acc.length<16777216 then ZB n nl gg tb fe r (acc++[q.1]) (q.2.take n)else bb else ZB n nl gg tb fe r acc (p.2.take n)
def qk2(n nl:Nat)(gg:VG)(tb:VB)(fe:VF)(r acc:List cV)(o:Option (Bool×Ev)):Option (List cV×Ev):=o.bind λp=>if p.1=bc then(fe p.2).bind λq=>if acc.length<16777216 then ZB n nl gg tb fe r (acc++[q.1]) (q.2.take n)else bb else ZB n nl gg tb fe r acc (p.2.take n)
def qk3(n nl:Nat)(gg:VG)(tb:VB)(fe:VF)(r acc:List cV)(o:Option (cV×Ev)):Option (List cV×Ev):=o.bind λq=>if acc.length<16777216 then ZB n nl gg tb fe r (acc++[q.1]) (q.2.take n)else bb
@[simp] theorem pU:ZB n nl gg tb fe [] acc δ=ba (acc,δ):=rfl
@[simp] theorem QN:ZB n nl gg tb fe (d::r) acc δ=qk1 n nl gg tb fe r acc (gg d (δ++KH nl)):=rfl
@[simp] theorem FN:qk1 n nl gg tb fe r acc (ba δ)=qk2 n nl gg tb fe r acc (tb δ):=rfl
@[simp] theorem Wo:qk2 n nl gg tb fe r acc (ba (bc,δ))=qk3 n nl gg tb fe r acc (fe δ):=rfl
@[simp] theorem Xo:qk2 n nl gg tb fe r acc (ba (bd,δ))=ZB n nl gg tb fe r acc (δ.take n):=rfl
@[simp] theorem Wm:qk3 n nl gg tb fe r acc (ba (x,δ))=if acc.length<16777216 then ZB n nl gg tb fe r (acc++[x]) (δ.take n)else bb:=rfl
def qf1(gg:VG)(g:VS)(r:List cV)(o:Option Ev):Option Ou:=o.bind λδ1=>(g δ1).bind (again (W4 gg g r))
def qf2(gg:VG)(g:VS)(r:List cV)(o:Option Ou):Option Ou:=o.bind (again (W4 gg g r))
@[simp] theorem sX:W4 gg g [] δ=ba (.nx δ):=rfl
@[simp] theorem PF:W4 gg g (d::r) δ=qf1 gg g r (gg d δ):=rfl
@[simp] theorem KQ:qf1 gg g r (ba δ)=qf2 gg g r (g δ):=rfl
@[simp] theorem KS:qf2 gg g r (ba (.nx δ))=W4 gg g r δ:=rfl
@[simp] theorem uH:qf2 gg g r (ba (.ct δ))=W4 gg g r δ:=rfl
@[simp] theorem rW:qf2 gg g r (ba (.bk δ))=ba (.nx δ):=rfl
@[simp] theorem ug:qf2 gg g r (ba (.rt d δ))=ba (.rt d δ):=rfl
@[simp] theorem qH{ss:Ev}:ZM [] ss δ=δ:=by cases ss<;>rfl
@[simp] theorem qo{i:Nat}{is:List Nat}{ss:Ev}:ZM (i::is) (.ow d::ss) δ=ZM is ss (δ.set i (.ow d)):=rfl
@[simp] theorem qD{i:Nat}{is:List Nat}{ss:Ev}:ZM (i::is) (.va d::ss) δ=ZM is ss δ:=rfl
@[simp] theorem uP{i:Nat}{is:List Nat}{ss:Ev}:ZM (i::is) (.no::ss) δ=ZM is ss δ:=rfl
end
@[simp] theorem Wq:KH 1=[.no]:=rfl
@[simp] theorem Zn:KH 2=[.no,.no]:=rfl
@[simp] theorem sN:KH 3=[.no,.no,.no]:=rfl
@[simp] theorem sh{i:Int}:Y4 i 0=[]:=rfl
@[simp] theorem tI:Y4 0 1=[.int 0]:=rfl
@[simp] theorem rH:Y4 0 2=[.int 0,.int 1]:=rfl
@[simp] theorem uV:Y4 0 3=[.int 0,.int 1,.int 2]:=rfl
@[simp] theorem uc:Y4 0 4=[.int 0,.int 1,.int 2,.int 3]:=rfl
def T3{α:Type}{xs:List α}{i:Int}(a:0<=i)(h1:i<xs.length):SQ xs i=xs[i.toNat]? :=by unfold SQ ixN;rw[if_pos a,if_pos h1];rfl
def CO{α:Type}{xs:List α}{i:Int}(a:0<=i)(h1:i<xs.length):∃x∈xs,SQ xs i=ba x:=by
 rw[T3 a h1];have h:i.toNat<xs.length:=by lia
 exact⟨xs[i.toNat],Mw _,Bm h⟩
section
variable{F:bM}{fa fb fc:VF}{δ:Ev}{x y z d o:cV}{j:Nat}
noncomputable def BQ(δ:Ev):Option (cV×List cV)->Option (cV×Ev)
 |some (d,[])=>ba (d,δ)
 |_=>bb
@[simp] theorem ue:BQ δ (ba (d,[]))=ba (d,δ):=rfl
def CS{n:Nat}{ds:List cV}{as:List AV}(h:WD δ as=ba ds)(a:ds.length=n)(b:UU as=[])(c:WP [] as 0=bc):qCb n [] F as δ (ba ds)=BQ δ (F ds):=by
 have hc:U7 [] as δ=bc:=by simp[b]
 rw[iX,if_pos ⟨a,hc⟩];cases F ds with
 |none=>rfl
 |some q=>
  obtain⟨r,os⟩:=q;rw[nP];cases os with
  |nil=>simp[c,BQ]
  |cons o os=>simp[BQ]
def qx1(F:bM)(r:Option (cV×Ev)):Option (cV×Ev):=r.bind λp=>BQ p.2 (F [p.1])
@[simp] theorem u9:qx1 F (ba (x,δ))=BQ δ (F [x]):=rfl
@[simp high] theorem call1:cK 1 [] F (aE fa cE) δ=qx1 F (fa δ):=by
 rw[NP,EC];cases fa δ with
 |none=>rfl
 |some p=>exact CS (as:=[.d p.1]) rfl rfl rfl rfl
def qx2(F:bM)(r:Option (cV×Ev))(fb:VF):Option (cV×Ev):=r.bind λp=>(fb p.2).bind λq=>BQ q.2 (F [p.1,q.1])
def qx2b(F:bM)(x:cV)(r:Option (cV×Ev)):Option (cV×Ev):=r.bind λq=>BQ q.2 (F [x,q.1])
@[simp] theorem k9:qx2 F (ba (x,δ)) fb=qx2b F x (fb δ):=rfl
@[simp] theorem rV:qx2b F x (ba (y,δ))=BQ δ (F [x,y]):=rfl
@[simp high] theorem call2:cK 2 [] F (aE fa (aE fb cE)) δ=qx2 F (fa δ) fb:=by
 rw[NP,EC];cases fa δ with
 |none=>rfl
 |some p=>
  rw[qa_s,EC,k9];cases fb p.2 with
  |none=>rfl
  |some q=>exact CS (as:=[.d p.1,.d q.1]) rfl rfl rfl rfl
def qx3(F:bM)(r:Option (cV×Ev))(fb fc:VF):Option (cV×Ev):=r.bind λp=>(fb p.2).bind λq=>(fc q.2).bind λs=>BQ s.2 (F [p.1,q.1,s.1])
def qx3b(F:bM)(x:cV)(r:Option (cV×Ev))(fc:VF):Option (cV×Ev):=r.bind λq=>(fc q.2).bind λs=>BQ s.2 (F [x,q.1,s.1])
def qx3c(F:bM)(x y:cV)(r:Option (cV×Ev)):Option (cV×Ev):=r.bind λs=>BQ s.2 (F [x,y,s.1])
@[simp] theorem kP:qx3 F (ba (x,δ)) fb fc=qx3b F x (fb δ) fc:=rfl
@[simp] theorem nT:qx3b F x (ba (y,δ)) fc=qx3c F x y (fc δ):=rfl
@[simp] theorem sD:qx3c F x y (ba (z,δ))=BQ δ (F [x,y,z]):=rfl
@[simp high] theorem call3:cK 3 [] F (aE fa (aE fb (aE fc cE))) δ=qx3 F (fa δ) fb fc:=by
 rw[NP,EC];cases fa δ with
 |none=>rfl
 |some p=>
  rw[qa_s,EC,kP];cases fb p.2 with
  |none=>rfl
  |some q=>
   rw[qa_s,EC,nT];cases fc q.2 with
   |none=>rfl
   |some s=>exact CS (as:=[.d p.1,.d q.1,.d s.1]) rfl rfl rfl rfl
noncomputable def qw3(j:Nat)(δ:Ev):Option (cV×List cV)->Option (cV×Ev)
 |some (r,[o])=>ba (r,δ.set j (.ow o))
 |_=>bb
def qw2(F:bM)(j:Nat)(x y:cV)(δ:Ev):Option Sl->Option (cV×Ev)
 |some (.ow d)=>qw3 j δ (F [x,d,y])
 |_=>bb
def qwb(F:bM)(j:Nat)(x:cV)(r:Option (cV×Ev)):Option (cV×Ev):=r.bind λq=>qw2 F j x q.1 q.2 q.2[j]?
def qwa(F:bM)(j:Nat)(x:cV)(δ:Ev)(fb:VF)(s:Option cV):Option (cV×Ev):=s.bind λ_=>qwb F j x (fb δ)
def qw(F:bM)(j:Nat)(r:Option (cV×Ev))(fb:VF):Option (cV×Ev):=r.bind λp=>qwa F j p.1 p.2 fb (slot p.2 j)
@[simp] theorem sr:qw3 j δ (ba (x,[o]))=ba (x,δ.set j (.ow o)):=rfl
@[simp] theorem uz:qw2 F j x y δ (ba (.ow d))=qw3 j δ (F [x,d,y]):=rfl
@[simp] theorem o9:qwb F j x (ba (y,δ))=qw2 F j x y δ δ[j]? :=rfl
@[simp] theorem kY:qwa F j x δ fb (ba d)=qwb F j x (fb δ):=rfl
@[simp] theorem qw_s:qw F j (ba (x,δ)) fb=qwa F j x δ fb (slot δ j):=rfl
@[simp high] theorem callO:cK 3 [1] F (aE fa (aO j (aE fb cE))) δ=qw F j (fa δ) fb:=by
 rw[NP,EC];cases fa δ with
 |none=>rfl
 |some p=>
  obtain⟨x,δ1⟩:=p;rw[qa_s,aO_e,qw_s];cases h:slot δ1 j with
  |none=>rfl
  |some b=>
   rw[gE,EC,kY];cases fb δ1 with
   |none=>rfl
   |some q=>
    obtain⟨y,δ2⟩:=q;rw[o9,qa_s,jo,Wy,Wy,Wy,oz];cases h2:δ2[j]? with
    |none=>simp[h2,qsl,qCb,qw2]
    |some s=>
     cases s with
     |no=>simp[h2,qsl,qCb,qw2]
     |va d=>simp[h2,qw2]
     |ow d=>
      simp[h2];cases F [x,d,y]with
      |none=>rfl
      |some r=>
       obtain⟨v,os⟩:=r;cases os with
       |nil=>simp[qw3]
       |cons o os=>
        cases os with
        |nil=>simp
        |cons a os=>simp[qw3]
end
def YD(a b:String):Bf a=Bf b↔a=b:=by
 refine⟨λh=>?_,λh=>by rw[h]⟩;rw[Jg,Jg]at h;injection h with h;have h2:a.toList.map Qq=b.toList.map Qq:=by simpa using h
 have f:a.toList=b.toList:=by
  have inj:∀(l m:List Char),l.map Qq=m.map Qq->l=m:=by
   intro l;induction l with
   |nil=>intro m h;cases m with
    |nil=>rfl
    |cons=>cases h
   | cons c l d => intro m h;cases m with
    |nil=>cases h
    |cons e m=>
     simp only[Bg,Kz]at h;rw[d m h.2,Char.toNat_inj.mp h.1]
  exact inj _ _ h2
 exact String.toList_inj.mp f
def gG(a:String):Ul (Bf a)=bc:=by
 unfold Ul;rw[Jg];simp only[List.all_toArray,Uk,Fy,Tu,decide_eq_true_eq];intro c _;have:=c.valid
 rcases this with h|⟨_,h⟩
 ·show c.val.toNat<1114112
  have:c.val.toNat<55296:=h
  lia
 ·exact h
def P8(k:Nat)(d:cV):Prop:=d.isD=bc/\d.pd.canLay0=bc/\d.pd.depth<=k
def YE{k:Nat}{i:Int}:P8 k (.int i):=⟨rfl,rfl,Df _⟩
def Yb{k:Nat}{i:Bool}:P8 k (.bl i):=⟨rfl,rfl,Df _⟩
def Y1{k:Nat}{a:String}:P8 k (.str (Bf a)):=⟨rfl,by simp[cV.pd,Hd,gG],Df _⟩
theorem HV{k:Nat}:∀{ds:List cV},(∀d∈ds,P8 k d)->EU ds=bc/\Jp (pds ds)=bc/\Fp (pds ds)<=k
 |[],_=>⟨rfl,rfl,Df _⟩
 |d::ds,h=>by obtain⟨g,f,j⟩:=h d Ax;obtain⟨c,b,i⟩:=HV λe a=>h e (Ap _ a);refine⟨by simp[EU,g,c],by simp[pds,Jp,f,b],?_⟩;simp only[pds,Fp];lia
def Q1{k:Nat}{ds:List cV}(h:∀d∈ds,P8 k d):P8 (k+1) (.tup ds):=by obtain⟨a,b,c⟩:=HV h;exact⟨by simpa[cV.isD]using a,by simpa[cV.pd,Hd]using b,by simp only[cV.pd,Jy];lia⟩
def YF{k:Nat}{ds:List cV}(h:∀d∈ds,P8 k d):P8 (k+1) (.lst ds):=by obtain⟨a,b,c⟩:=HV h;exact⟨by simpa[cV.isD]using a,by simpa[cV.pd,Hd]using b,by simp only[cV.pd,Jy];lia⟩
def P8.ok{k:Nat}{d:cV}(h:P8 k d)(a:k<=64:=by decide):KI d=bc:=by
 unfold KI Fd;simp only[h.1,h.2.1,Ue,Af,decide_eq_true_eq];have:=h.2.2
 lia
@[simp] theorem tF{a:String}:KI (.str (Bf a))=bc:=(Y1 (k:=0)).ok
def Y2{k:Nat}:∀d∈([]:List cV),P8 k d:=λ_ h=>nomatch h
def a8{k:Nat}{d:cV}{ds:List cV}(h:P8 k d)(t:∀d∈ds,P8 k d):∀e∈d::ds,P8 k e:=λe a=>by
 rcases Ak.mp a with z|z
 ·rw[z];exact h
 ·exact t e z
@[simp] theorem lg{i j:Int}:eqD (.int i) (.int j)=decide (i=j):=by show(i==j)=_;rw[Nt]
@[simp] theorem rF{a b:String}:eqD (.str (Bf a)) (.str (Bf b))=decide (a=b):=by show(Bf a==Bf b)=_;rw[Nt];simp only[YD]
@[simp] theorem pV{i j:Int}:XN (.int i) (.int j)=ba (.bl (decide (i=j))):=by unfold XN;simp
@[simp] theorem uj{i j:Int}:UH (.int i) (.int j)=ba (.bl (!decide (i=j))):=by unfold UH;simp
@[simp] theorem tQ{a b:String}:XN (.str (Bf a)) (.str (Bf b))=ba (.bl (decide (a=b))):=by unfold XN;simp
@[simp] theorem so{a b:String}:UH (.str (Bf a)) (.str (Bf b))=ba (.bl (!decide (a=b))):=by unfold UH;simp
def o6{j k:Nat}{d e:cV}(h:P8 j d)(h':P8 k e)(b:j<=64:=by decide)(a:k<=64:=by decide):XN d e=ba (.bl (eqD d e)):=by unfold XN;rw[h.ok b,h'.ok a];rfl
def BB{j k:Nat}{d e:cV}(h:P8 j d)(h':P8 k e)(b:j<=64:=by decide)(a:k<=64:=by decide):UH d e=ba (.bl (!eqD d e)):=by unfold UH;rw[h.ok b,h'.ok a];rfl
def Wl{j k:Nat}{neg:Bool}{d:cV}{ds:List cV}(h:P8 j d)(h':∀e∈ds,P8 k e)(b:j<=64:=by decide)(a:k+1<=64:=by decide):Z4 neg d (.tup ds)=ba (.bl (if neg then !JW d ds else JW d ds)):=by unfold Z4;simp[h.ok b,(Q1 h').ok a]
def HR{j k:Nat}{neg:Bool}{d:cV}{ds:List cV}(h:P8 j d)(h':∀e∈ds,P8 k e)(b:j<=64:=by decide)(a:k+1<=64:=by decide):Z4 neg d (.lst ds)=ba (.bl (if neg then !JW d ds else JW d ds)):=by unfold Z4;simp[h.ok b,(YF h').ok a]
@[simp] theorem rR{d:cV}:JW d []=bd:=(rfl)
@[simp] theorem Wd{d e:cV}{ds:List cV}:JW d (e::ds)=(eqD e d || JW d ds):=(rfl)
@[simp] theorem AW{neg:Bool}{a b c:String}:Z4 neg (.str (Bf a)) (.tup [.str (Bf b),.str (Bf c)])=ba (.bl (if neg then !(decide (b=a) || decide (c=a))else decide (b=a) || decide (c=a))):=by rw[Wl (j:=0) Y1 (a8 (Y1 (k:=0)) (a8 Y1 Y2))];simp
@[simp] theorem Xl{neg:Bool}{a b c d e:String}:Z4 neg (.str (Bf a)) (.tup [.str (Bf b),.str (Bf c),.str (Bf d),.str (Bf e)])=ba (.bl (if neg then !(decide (b=a) || (decide (c=a) || (decide (d=a) || decide (e=a))))else decide (b=a) || (decide (c=a) || (decide (d=a) || decide (e=a))))):=by rw[Wl (j:=0) Y1 (a8 (Y1 (k:=0)) (a8 Y1 (a8 Y1 (a8 Y1 Y2))))];simp
@[simp] theorem ql{neg:Bool}{a b c:Int}:Z4 neg (.int a) (.tup [.int b,.int c])=ba (.bl (if neg then !(decide (b=a) || decide (c=a))else decide (b=a) || decide (c=a))):=by rw[Wl (j:=0) YE (a8 (YE (k:=0)) (a8 YE Y2))];simp
def nq{k:Nat}{d:cV}(h:P8 k d):eqD d d=bc:=PySem.SeqAt.eqv_refl _ h.2.1
def X3(ns:List Int):cV:=.lst (ns.map .int)
def XW(n:Nat):cV:=.lst (As n (.int 0))
theorem JY:∀ns:List Int,EU (ns.map cV.int)=bc
 |[]=>rfl
 |n::ns=>by simp[EU,cV.isD,JY ns]
theorem FH:∀ns:List Int,pds (ns.map cV.int)=ns.map Qf
 |[]=>rfl
 |n::ns=>by simp[pds,cV.pd,FH ns]
def jt(ns:List Int):KI (.lst (ns.map .int))=bc:=by unfold KI;simp only[cV.isD,JY,cV.pd,FH,Ue];exact FY ns
def RK(ns:List Int):XN (.lst (ns.map .int)) (.lst [])=ba (.bl ns.isEmpty):=by unfold XN;rw[jt,show KI (.lst [])=bc from by decide+kernel];cases ns<;>rfl
theorem JV:∀n:Nat,UB (As n (.int 0))=bc
 |0=>rfl
 |n+1=>by simp[Ei,UB,cV.hard,JV n]
@[simp] theorem um(n:Nat):UD (XW n)=bc:=JV n
theorem JL:∀(ds:List cV) (a b:cV) (r:Int) (s:Sl),∃r' s',W4 (gN 3) (bH 2 (xV (f2 A8 (fV 2) (fC (.int 1000003))))) ds [.va a,.va b,.va (.int r),s]=ba (.nx [.va a,.va b,.va (.int r'),s'])
 |[],a,b,r,s=>⟨r,s,rfl⟩
 |d::ds,a,b,r,s=>by obtain⟨r',s',h⟩:=JL ds a b (r/1000003) (.va d);exact⟨r',s',by simp[cDiv,h]⟩
def NQ{ns:List Int}{i:Int}(c:0<=i)(h1:i<ns.length):∃r∈ns,SQ (ns.map cV.int) i=ba (.int r):=by obtain⟨x,a,e⟩:=CO (xs:=ns.map cV.int) c (by simpa using h1);obtain⟨r,b,rfl⟩:=Dw.mp a;exact⟨r,b,e⟩
def fJ(ns:List Int)(k:Nat)(hl:ns.length<=63)(s:k<1000000):∃r,Y9 [X3 ns,.int k]=ba (.int r,[]):=by
 unfold Y9;rw[bG];unfold V1 UX X3;by_cases h:(k:Int)<ns.length
 ·obtain ⟨r,_,e⟩ := NQ (ns := ns) (i := k) (by lia) h
  exact⟨r,by simp[bA,h,e]⟩
 ·cases ns with
  |nil=>
   have o:¬((k:Int)<0):=by lia
   have e:XN (.lst []) (.lst [])=ba (.bl bc):=RK [];exact⟨0,by simp[bA,o,e]⟩
  |cons m g=>
   generalize a:m::g=ns at*;have f:(0:Int)<ns.length:=by rw[<-a];simp
   have n:=Ja (k:Int) (show(ns.length:Int)≠0 by lia);have d:=Fh (k:Int) f;obtain⟨r,_,e⟩:=NQ (ns:=ns) n d;have l:ns.isEmpty=bd:=by rw[<-a];rfl
   have q:0<=(k:Int)/ns.length:=Int.ediv_nonneg (by lia) (by lia);have j: -4611686018427387904<=(if(60:Int)<(k:Int)/ns.length then 60 else(k:Int)/ns.length)/\(if(60:Int)<(k:Int)/ns.length then 60 else(k:Int)/ns.length)<4611686018427387904:=by split<;>lia
   obtain⟨r',s',p⟩:=JL (Y4 0 (if(60:Int)<(k:Int)/ns.length then 60 else(k:Int)/ns.length).toNat) (.lst (ns.map .int)) (.int k) r .no;have c:0<ns.length:=by lia
   have b:(ns.length:Int)<1073741824:=by lia
   exact⟨r*31+k+r'*101,by simp[bA,h,RK,l,f,c,b,e,cDiv,j,p,cMul]⟩
noncomputable def cel(ns:List Int)(k:Nat):Int:=match Y9 [X3 ns,.int k]with
 |some (.int r,_)=>r
 |_=>0
def iR(ns:List Int)(k:Nat)(hl:ns.length<=63)(a:k<1000000):Y9 [X3 ns,.int k]=ba (.int (cel ns k),[]):=by obtain⟨r,e⟩:=fJ ns k hl a;unfold cel;rw[e]
noncomputable def GS(ns:List Int)(n:Nat)(b:Int):Int:=((cel ns (n+1)*1103515245+7919*(((n+1:Nat)):Int)+12345) % 2147483647) ^ 5 % 2147483647 % 999983 % b
def MF(ns:List Int)(n:Nat){b:Int}(h:0<b):0<=GS ns n b:=Ja _ (by lia)
def AK(ns:List Int)(n:Nat){b:Int}(h:0<b):GS ns n b<b:=Fh _ h
def oV(ns:List Int)(n:Nat)(b:Int)(hl:ns.length<=63)(d:n<900000)(c:0<b):V9 [X3 ns,.int ((n+1:Nat):Int),.int b]=ba (.int (GS ns n b),[]):=by
 have e:=iR ns (n+1) hl (by lia);unfold V9;rw[bG];unfold T9 GS;have h:=Ja (cel ns (n+1)*1103515245+7919*((n+1:Nat):Int)+12345) (show(2147483647:Int)≠0 by decide);have g:=Fh (cel ns (n+1)*1103515245+7919*((n+1:Nat):Int)+12345) (show(0:Int)<2147483647 by decide);generalize hz:(cel ns (n+1)*1103515245+7919*((n+1:Nat):Int)+12345) % 2147483647=z at*;have a:z.natAbs<18446744073709551616:=by lia
 generalize f:((n+1:Nat):Int)=k at*;simp[bA,e,cMul,cPow,hz,a,c]
def W3(ns:List Int)(n:Nat)(b:Int)(hl:ns.length<=63)(f:n<900000)(g:0<b):a6 [X3 ns,XW n,.int b]=ba (.int (GS ns n b),[XW (n+1)]):=by
 have e:=oV ns n b hl f g;unfold a6;rw[bG];unfold RP;have c:XW n=.lst (As n (.int 0)):=rfl;have a:XW (n+1)=.lst (As n (.int 0)++[.int 0]):=by unfold XW;rw[List.replicate_succ']
 rw[a,c];have d:n<16777216:=by lia
 push_cast at e
 simp[bA,d,e]
def WI(ns:List Int)(n:Nat)(xs:List cV)(hl:ns.length<=63)(b:n<900000)(d:0<xs.length):∃x∈xs,Z5 [X3 ns,XW n,.lst xs]=ba (x,[XW (n+1)]):=by
 have a:(0:Int)<xs.length:=by lia
 obtain⟨x,c,e⟩:=CO (xs:=xs) (MF ns n a) (AK ns n a);refine⟨x,c,?_⟩;unfold Z5;rw[bG];unfold RT;simp[bA,W3 ns n _ hl b a,e]
def AJ(ns:List Int)(n:Nat)(b:Int)(hl:ns.length<=63)(a:n<900000)(c:0<b)(tl:Ev):cK 3 [1] a6 (aE (fV 0) (aO 1 (aE (fC (.int b)) cE))) (.va (X3 ns):: .ow (XW n)::tl)=ba (.int (GS ns n b),.va (X3 ns):: .ow (XW (n+1))::tl):=by simp[W3 ns n b hl a c]
abbrev Sn(m:Nat)(d:cV):Prop:=∃(ks:List aK) (vs:List Int),d=.dct ks (vs.map .int)/\ks.length=vs.length/\ks.Nodup/\ks.length<=m
abbrev L7(n:Nat)(d:cV):Prop:=Sn (8*n) d
def L7.mono{n m:Nat}{d:cV}(h:L7 n d)(b:n<=m):L7 m d:=by obtain⟨ks,vs,h1,h2,a,c⟩:=h;exact⟨ks,vs,h1,h2,a,by lia⟩
theorem Xe:∀(ks:List aK) (vs:List Int) (k:aK) (q:Int),∃r,(aV ks (vs.map .int) k).getD (.int q)=.int r
 |[],_,_,q=>⟨q,by simp[aV]⟩
 |_::_,[],_,q=>⟨q,by simp[aV]⟩
 | k' :: ks,v :: vs,k,q => by
  by_cases h:k'=k
  ·exact⟨v,by simp[aV,h]⟩
  ·obtain⟨r,e⟩:=Xe ks vs k q
   exact⟨r,by simp only[Bg,aV,if_neg h];exact e⟩
theorem putI:∀(ks:List aK) (vs:List Int) (k:aK) (p:Int),ks.length=vs.length->ks.Nodup->∃(a:List aK) (b:List Int),YG ks (vs.map .int) k (.int p)=(a,b.map .int)/\a.length=b.length/\a.Nodup/\a.length<=ks.length+1/\(∀z∈a,z=k∨z∈ks)/\aV a (b.map .int) k=ba (.int p)
 |[],[],k,p,_,_=>⟨[k],[p],by simp[YG],rfl,by simp,by simp,by simp,by simp[aV]⟩
 | k' :: ks,v :: vs,k,p,hl,c => by
  by_cases h:k'=k
  ·subst h
   exact⟨k'::ks,p::vs,by simp[YG],by simpa using hl,c,by simp,by simp,by simp[aV]⟩
  ·obtain ⟨a,b,e,h1,h2,g,d,f⟩ := putI ks vs k p (by simpa using hl) (Di.mp c).2
   refine⟨k'::a,v::b,by simp only[Bg,YG,if_neg h,e],by simp[h1],?_,by simp;lia,?_,by simp only[Bg,aV,if_neg h];exact f⟩
   ·refine Di.mpr ⟨λz => ?_,h2⟩
    rcases d _ z with y|y
    ·exact h y
    ·exact(Di.mp c).1 y
   ·intro z hz
    rcases Ak.mp hz with y|y
    ·exact .inr (by rw[y];exact Ax)
    ·exact(d z y).imp id (Ap _)
def FL(ns:List Int)(n:Nat)(sn:cV)(x:Va)(c:Int)(hl:ns.length<=63)(t:n<800000)(k:L7 n sn)(i:0<c):∃p f,0<=p/\p<c/\L7 (n+2) f/\ZV [X3 ns,XW n,sn,.str x,.int c]=ba (.int p,[XW (n+2),f]):=by
 obtain⟨ks,vs,rfl,h1,h2,w⟩:=k;obtain⟨a,m⟩:=Xe ks vs (.inr x) (GS ns n c);obtain⟨y,j,s⟩:=WI ns (n+1) [.int 1,.int 1,.int 1,.int 0,.int 3] hl (by lia) (by simp);obtain⟨b,rfl⟩:∃b,y=.int b:=by simp only[Ak,Be,or_false]at j;rcases j with h|h|h|h|h<;>exact⟨_,h⟩
 obtain⟨g,d,e,r,q,v,u,o⟩:=putI ks vs (.inr x) ((a+b) % c) h1 h2;refine⟨(a+b) % c,.dct g (d.map .int),Ja _ (by lia),Fh _ i,⟨g,d,rfl,r,q,by lia⟩,?_⟩;have l:ks.length<16777216:=by lia
 unfold ZV;rw[bG];unfold UA;simp[bA,W3 ns n c hl (by lia) i,m,s,i,l,h2,e,o]
inductive Z3(M:Int->Prop):cV->Prop
 |number {n:Int}:0<=n->n<=999->Z3 M (.tup [.str "number",.int n])
 |two {x:String}{a b:Int}:x∈["over","plus","minus","times","least","most","less"]->M a->M b->Z3 M (.tup [.str x,.int a,.int b])
 |pick {c a b:Int}:M c->M a->M b->Z3 M (.tup [.str "pick",.int c,.int a,.int b])
 |load {p:Int}:0<=p->p<=63->Z3 M (.tup [.str "load",.int p])
 |take {p c a:Int}:0<=p->p<=63->M c->M a->Z3 M (.tup [.str "take",.int p,.int c,.int a])
 |store {p a:Int}:0<=p->p<=63->M a->Z3 M (.tup [.str "store",.int p,.int a])
 |put {p a c:Int}:0<=p->p<=63->M a->M c->Z3 M (.tup [.str "put",.int p,.int a,.int c])
def mf(ns:List Int)(n:Nat)(made:List Int)(hl:ns.length<=63)(l:n<800000)(o:0<made.length)(s:Sl):∃a b c,a∈made/\b∈made/\c∈made∧ZB 3 1 (gN 3) YK (f2 bT (fV 2) (f2 oMax (fC (.int 0)) (f2 M3 (f2 M3 (f1 Z0 (fV 2)) (fC (.int 1))) (cK 3 [1] a6 (aE (fV 0) (aO 1 (aE (fC (.int 6)) cE))))))) [.int 0,.int 1,.int 2] [] [.va (X3 ns),.ow (XW n),.va (.lst (made.map .int))]=ba ([.int a,.int b,.int c],[.va (X3 ns),.ow (XW (n+3)),.va (.lst (made.map .int))]):=by
 have one:∀m,∃a∈made,SQ (made.map cV.int) (if(made.length:Int)-1-GS ns m 6>0 then(made.length:Int)-1-GS ns m 6 else 0)=ba (.int a):=λm=>by
  have:=MF ns m (b:=6) (by decide)
  exact NQ (by split<;>lia) (by split<;>lia)
 obtain⟨a,h,f⟩:=one n;obtain⟨b,g,e⟩:=one (n+1);obtain⟨c,hc,d⟩:=one (n+2);refine⟨a,b,c,h,g,hc,?_⟩;have k:=W3 ns n 6 hl (by lia) (by decide);have j:=W3 ns (n+1) 6 hl (by lia) (by decide);have i:=W3 ns (n+2) 6 hl (by lia) (by decide);simp only[gt_iff_lt,Int.sub_pos]at f e d;simp[k,j,i,f,e,d]
def onC(x:String):Prop:=x= "load" ∨x= "take" ∨x= "store" ∨x= "put"
def PlOK(b:Int)(a:cV):Prop:=∀(x:String) (p:Int) (t:List cV),a=.tup (.str x:: .int p::t)->onC x->p<b
def Q3{a p:Int}{x:String}{t:List cV}(h:p<a):PlOK a (.tup (.str x:: .int p::t)):=λy q u e _=>by simp only[cV.tup.injEq,Kz,cV.int.injEq]at e;lia
def DJ{b:Int}{x:String}{t:List cV}(h:¬onC x):PlOK b (.tup (.str x::t)):=λy q u e a=>by simp only[cV.tup.injEq,Kz,cV.str.injEq,YD]at e;rw[<-e.1]at a;exact absurd a h
def CA{x:String}(a:x∈["over","plus","minus","times","least","most","less"]):¬onC x:=λh=>by simp only[Ak,Be,or_false]at a;rcases a with rfl|rfl|rfl|rfl|rfl|rfl|rfl<;>rcases h with h|h|h|h<;>exact absurd h (by decide)
def DT{s1 a:VS}{δ δ1:Ev}(h:s1 δ=ba (.nx δ1)):cG s1 a δ=a δ1:=by rw[Xh,h,qS_n]
def jQ(ns:List Int)(n:Nat)(made:List Int)(sn:cV)(g:Int)(hl:ns.length<=63)(X:n<700000)(l:L7 n sn)(I:0<g)(P:g<=64):∃k v d,n<=v/\v<=n+10/\L7 v d/\Z3 (· ∈made) k/\PlOK g k/\SV [X3 ns,XW n,.lst (made.map .int),sn,.int g]=ba (k,[XW v,d]):=by
  have t:=AJ ns n 13 hl (by lia) (by decide);have k0:=MF ns n (b:=13) (by decide);have k1:=AK ns n (b:=13) (by decide);generalize GS ns n 13=e at*;unfold SV;rw[bG];unfold PL;by_cases K:made.isEmpty=bc∨e=0
  · have z := AJ ns (n + 1) 2 hl (by lia) (by decide)
    have m:made.isEmpty=bc∨(made.isEmpty=bd/\e=0):=by
      cases D:made.isEmpty with
      |true=>exact .inl rfl
      | false => rcases K with h | h
                 · rw[D]at h;cases h
                 · exact .inr ⟨rfl,h⟩
    by_cases h2:GS ns (n+1) 2=0
    · have L := AJ ns (n + 2) 1000 hl (by lia) (by decide)
      obtain⟨y,w,r⟩:=WI ns (n+3) [.int 0,.int 1,.int 2,.int 5,.int 999,.int (GS ns (n+2) 1000)] hl (by lia) (by simp);obtain⟨b,rfl,G,F⟩:∃b,y=.int b/\0<=b/\b<=999:=by
        have:=MF ns (n+2) (b:=1000) (by decide)
        have:=AK ns (n+2) (b:=1000) (by decide)
        simp only[Ak,Be,or_false]at w;rcases w with h|h|h|h|h|h<;>exact⟨_,h,by lia,by lia⟩
      refine⟨.tup [.str "number",.int b],n+4,sn,by lia,by lia,l.mono (by lia),.number G F,DJ (by unfold onC;decide),?_⟩;rcases m with h|⟨h,h'⟩
      · simp[bA,↓t,RK,h,↓z,h2,↓L,r]
      · simp[bA,↓t,RK,h,h',↓z,h2,↓L,r]
    · obtain ⟨p,d,j,i,f,ep⟩ := FL ns (n + 2) sn "load" g hl (by lia) (l.mono (by lia)) I
      refine⟨.tup [.str "load",.int p],n+4,d,by lia,by lia,f,.load j (by lia),Q3 i,?_⟩;rcases m with h|⟨h,h'⟩
      · simp[bA,↓t,RK,h,↓z,h2,ep]
      · simp[bA,↓t,RK,h,h',↓z,h2,ep]
  · obtain⟨D,E⟩:=not_or.mp K
    have o:made.isEmpty=bd:=by simpa using D
    have S:0<made.length:=by
      cases made with
      |nil=>cases o
      |cons=>simp
    obtain⟨a,b,c,q,J,hc,Q⟩:=mf ns (n+1) made hl (by lia) S .no;rw[show bA [1,3] 9 [X3 ns,XW n,.lst (made.map .int),sn,.int g]=[.va (X3 ns),.ow (XW n),.va (.lst (made.map .int)),.ow sn,.va (.int g),.no,.no,.no,.no] from rfl,DT (δ1:=[.va (X3 ns),.ow (XW (n+1)),.va (.lst (made.map .int)),.ow sn,.va (.int g),.va (.int e),.no,.no,.no]) (by simp[↓t]),DT (δ1:=[.va (X3 ns),.ow (XW (n+1)),.va (.lst (made.map .int)),.ow sn,.va (.int g),.va (.int e),.no,.no,.no]) (by simp[RK,o,E]),DT (δ1:=[.va (X3 ns),.ow (XW (n+4)),.va (.lst (made.map .int)),.ow sn,.va (.int g),.va (.int e),.va (.int a),.va (.int b),.va (.int c)]) (by simp[aQ,Q])]
    have O:(e=1∨e=2)∨e=3∨(e=4∨e=5)∨e=6∨e=7∨(8<=e/\e<=12):=by lia
    have u:∀x:Va,∃p d,0<=p/\p<=63/\p<g/\L7 (n+6) d/\∀s tl,cK 5 [1,2] ZV (aE (fV 0) (aO 1 (aO 3 (aE (fC (.str x)) (aE (fV 4) cE))))) (.va (X3 ns):: .ow (XW (n+4))::s:: .ow sn:: .va (.int g)::tl)=ba (.int p,.va (X3 ns):: .ow (XW (n+6))::s:: .ow d:: .va (.int g)::tl):=λx=>by obtain⟨p,d,j,i,f,ep⟩:=FL ns (n+4) sn x g hl (by lia) (l.mono (by lia)) I;exact⟨p,d,j,by lia,i,f,λs tl=>by simp[ep]⟩
    rcases O with h|h|h|h|h|h
    · have B : (decide (1 = e) || decide (2 = e)) = bc := by rcases h with rfl | rfl <;> decide
      obtain⟨p,d,j,i,p2,f,ep⟩:=u "load";exact⟨.tup [.str "load",.int p],n+6,d,by lia,by lia,f,.load j i,Q3 p2,by simp[↓ep,B]⟩
    · subst h
      obtain⟨p,d,j,i,p2,f,ep⟩:=u "take";exact⟨.tup [.str "take",.int p,.int c,.int a],n+6,d,by lia,by lia,f,.take j i hc q,Q3 p2,by simp[↓ep]⟩
    · have A : (decide (4 = e) || decide (5 = e)) = bc := by rcases h with rfl | rfl <;> decide
      have C:¬e=3:=by lia
      have m1:¬1=e:=by lia
      have m2:¬2=e:=by lia
      obtain⟨p,d,j,i,p2,f,ep⟩:=u "store";exact⟨.tup [.str "store",.int p,.int a],n+6,d,by lia,by lia,f,.store j i q,Q3 p2,by simp[↓ep,C,m1,m2,A]⟩
    · subst h
      obtain⟨p,d,j,i,p2,f,ep⟩:=u "put";exact⟨.tup [.str "put",.int p,.int a,.int c],n+6,d,by lia,by lia,f,.put j i q hc,Q3 p2,by simp[↓ep]⟩
    · subst h
      exact⟨.tup [.str "pick",.int c,.int a,.int b],n+4,sn,by lia,by lia,l.mono (by lia),.pick hc q J,DJ (by unfold onC;decide),by simp⟩
    · have R := AJ ns (n + 4) 7 hl (by lia) (by decide)
      have q0:=MF ns (n+4) (b:=7) (by decide);have q1:=AK ns (n+4) (b:=7) (by decide);obtain⟨y,w,r⟩:=CO (xs:=["over","plus","minus","times","least","most","less"].map λs:String=>cV.str (Bf s)) q0 (by simpa using q1);obtain⟨x,H,rfl⟩:=Dw.mp w;simp only[Bg,Ey]at r;have W:¬e=1:=by lia
      have V:¬e=2:=by lia
      have C:¬e=3:=by lia
      have U:¬e=4:=by lia
      have T:¬e=5:=by lia
      have N:¬e=6:=by lia
      have M:¬e=7:=by lia
      have m1:¬1=e:=by lia
      have m2:¬2=e:=by lia
      have m4:¬4=e:=by lia
      have m5:¬5=e:=by lia
      exact⟨.tup [.str x,.int a,.int b],n+5,sn,by lia,by lia,l.mono (by lia),.two H q J,DJ (CA H),by simp[C,N,M,m1,m2,m4,m5,↓R,r]⟩
inductive Kd where
 |w|p|n
 deriving DecidableEq
def Nm(kds:List Kd)(k:Kd)(a:Int):Prop:=0<=a/\kds[a.toNat]?=ba k
def Nm.lt{kds:List Kd}{k:Kd}{a:Int}(h:Nm kds k a):a<kds.length:=by
 have:=(Ai.mp h.2).1
 have:=h.1
 lia
def Nm.snoc{kds:List Kd}{k j:Kd}{a:Int}(h:Nm kds k a):Nm (kds++[j]) k a:=⟨h.1,by rw[Ar (Ai.mp h.2).1];exact h.2⟩
def Nm.new{kds:List Kd}{k:Kd}:Nm (kds++[k]) k kds.length:=⟨by lia,by simp⟩
noncomputable def NS(k:Kd):cV->Kd
 |.tup (.str x::_)=>if x= "store" ∨x= "put" then .n else k
 |_=>.n
def Z3.imp{M M':Int->Prop}{e:cV}(h:Z3 M e)(f:∀a,M a->M' a):Z3 M' e:=by
 cases h with
 |number a b=>exact .number a b
 |two a b c=>exact .two a (f _ b) (f _ c)
 |pick a b c=>exact .pick (f _ a) (f _ b) (f _ c)
 |load a b=>exact .load a b
 |take a b c d=>exact .take a b (f _ c) (f _ d)
 |store a b c=>exact .store a b (f _ c)
 |put a b c d=>exact .put a b (f _ c) (f _ d)
def Z3.hard{M:Int->Prop}{a:cV}(h:Z3 M a):a.hard=bc:=by
 cases h<;>simp[cV.hard,UB]
@[simp] theorem sQ{i:Int}:LQ (.int i)=ba (.int (-i)):=(rfl)
def SZ{ds:List cV}{k:Nat}(h:k<=ds.length):VN ds (ba (k:Int)) bb=ds.drop k:=by unfold VN;rw[HT.B4,HT.FU,Iy h,Cu (by simp)]
def QP{ds:List cV}{k:Nat}:VN ds bb (ba (k:Int))=ds.take k:=by
 unfold VN;rw[HT.B4,HT.FU];simp only[Of,Nat.sub_zero];by_cases h:k<=ds.length
 ·rw[Iy h]
 ·rw[Nat.min_eq_right (by lia),Cu (by lia),Cu (by lia)]
@[simp] theorem qb{d:cV}{ds:List cV}:VN (d::ds) (ba 1) bb=ds:=SZ (k:=1) (by simp)
@[simp] theorem uC{d e:cV}{ds:List cV}:VN (d::e::ds) (ba 2) bb=ds:=SZ (k:=2) (by simp)
@[simp] theorem vc{ds:List cV}:VN ds bb (ba 2)=ds.take 2:=QP (k:=2)
@[simp] theorem uE{ds:List cV}:VN ds bb (ba 1)=ds.take 1:=QP (k:=1)
@[simp] theorem v8{α:Type}{xs:List α}{x:α}:SQ (xs++[x]) (-1)=ba x:=by
 unfold SQ ixN;rw[if_neg (by decide),if_pos (by simp;lia)];have e:(-1+((xs++[x]).length:Int)).toNat=xs.length:=by simp;lia
 show(xs++[x])[(-1+((xs++[x]).length:Int)).toNat]?=ba x;rw[e];simp
@[simp] theorem rQ{α:Type}{x:α}{xs:List α}:SQ (x::xs) 0=ba x:=by rw[T3 (by decide) (by simp)];rfl
@[simp] theorem sM{α:Type}{x y:α}{xs:List α}:SQ (x::y::xs) 1=ba y:=by rw[T3 (by decide) (by simp;lia)];rfl
@[simp] theorem qf{α:Type}{x y z:α}{xs:List α}:SQ (x::y::z::xs) 2=ba z:=by rw[T3 (by decide) (by simp;lia)];rfl
def p6{k:Kd}{x:String}{t:List cV}(a:x∉["store","put"]):NS k (.tup (.str x::t))=k:=by simp only[Ak,Be,or_false,not_or]at a;simp[NS,YD,a]
def mG{k:Kd}{x:String}{t:List cV}(a:x= "store" ∨x= "put"):NS k (.tup (.str x::t))=.n:=by
 rcases a with rfl|rfl<;>simp[NS,YD]
def Q6{M:Int->Prop}{a:cV}(h:Z3 M a):∃(x:String) (t:List cV),a=.tup (.str x::t)/\x∉["wide","gather","shuffle"]:=by
 cases h with
 |two b _ _=>
  simp only[Ak,Be,or_false]at b;rcases b with rfl|rfl|rfl|rfl|rfl|rfl|rfl<;>exact⟨_,_,rfl,by decide⟩
 |_=>exact⟨_,_,rfl,by decide⟩
@[simp] theorem rB(n lo hi:Int):ZP [.int n,.int lo,.int hi]=ba (.bl (decide (lo<=n)&&decide (n<=hi)),[]):=by unfold ZP;rw[bG];unfold RO;simp[bA];by_cases h:lo<=n<;>simp[h]
def fU{x:String}(h:x∈["over","plus","minus","times","least","most","less"]):ZQ [.str x]=ba (.tup [.str "row",.str "row"],[]):=by simp only[Ak,Be,or_false]at h;rcases h with rfl|rfl|rfl|rfl|rfl|rfl|rfl<;>kernel_rfl
@[simp] theorem qy:ZQ [.str "number"]=ba (.tup [.str "word"],[]):=by kernel_rfl
@[simp] theorem rp:ZQ [.str "pick"]=ba (.tup [.str "row",.str "row",.str "row"],[]):=by kernel_rfl
@[simp] theorem uu:ZQ [.str "load"]=ba (.tup [.str "place"],[]):=by kernel_rfl
@[simp] theorem rY:ZQ [.str "take"]=ba (.tup [.str "place",.str "row",.str "row"],[]):=by kernel_rfl
@[simp] theorem v5:ZQ [.str "store"]=ba (.tup [.str "place",.str "row"],[]):=by kernel_rfl
@[simp] theorem tK:ZQ [.str "put"]=ba (.tup [.str "place",.str "row",.str "row"],[]):=by kernel_rfl
def Ab(b:List Bool)(a:Int):Prop:=0<=a/\b[a.toNat]?=ba bc
def iL{b:List Bool}{a:Int}(h:Ab b a):U3 [.int a,.lst (b.map .bl)]=ba (.bl bc,[]):=by
 have d:=(Ai.mp h.2).1;have c:=h.1;have h1:a<=(b.length:Int)-1:=by lia
 have h2:SQ (b.map cV.bl) a=ba (.bl bc):=by rw[T3 c (by simp;lia)];simp[h.2]
 unfold U3;rw[bG];unfold RV;simp[bA,c,h1,h2]
def YT{b:List Bool}{a:Int}(h:Ab b a):TY [.str "row",.int a,.lst (b.map .bl)]=ba (.bl bc,[]):=by unfold TY;rw[bG];unfold MK;simp[bA,iL h]
def oR{d:cV}{a:Int}(h:0<=a)(h':a<=999):TY [.str "word",.int a,d]=ba (.bl bc,[]):=by unfold TY;rw[bG];unfold MK;simp[bA,OE,h,h']
def U8{d:cV}{a:Int}(h:0<=a)(h':a<=63):TY [.str "place",.int a,d]=ba (.bl bc,[]):=by unfold TY;rw[bG];unfold MK;simp[bA,QK,h,h']
@[simp] theorem qu:LI []=ba []:=(rfl)
@[simp] theorem vd{b:Bool}{ds:List cV}:LI (.bl b::ds)=(LI ds).map λks=>b::ks:=(rfl)
@[simp] theorem rD{g:List Bool->Bool}{ds:List cV}:A6 g (.lst ds)=(LI ds).map λks=>.bl (g ks):=(rfl)
@[simp] theorem uM{ds:List cV}:SU ds []=[]:=by cases ds<;>rfl
@[simp] theorem qm{d e:cV}{ds es:List cV}:SU (d::ds) (e::es)=.tup [d,e]::SU ds es:=(rfl)
def pT{e:List Bool}{f:cV}(h:Z3 (Ab e) f):QB [f,.lst (e.map .bl)]=ba (.bl bc,[]):=by
 unfold QB;rw[bG];unfold MM;cases h with
 |number a b=>simp[bA,aQ,oR a b]
 |two g a b=>simp[bA,aQ,fU g,YT a,YT b]
 |pick a b c=>simp[bA,aQ,YT a,YT b,YT c]
 |load a b=>simp[bA,aQ,U8 a b]
 |take a b c d=>simp[bA,aQ,U8 a b,YT c,YT d]
 |store a b c=>simp[bA,aQ,U8 a b,YT c]
 |put a b c d=>simp[bA,aQ,U8 a b,YT c,YT d]
theorem ME(a:Nat)(fe:VF)(δ:Ev)(f:cV->cV)(b:δ.length=a):∀(ds acc:List cV),(∀d∈ds,fe (δ++[Sl.va d])=ba (f d,δ++[Sl.va d]))->acc.length+ds.length<16777216->ZB a 1 (gN a) YK fe ds acc δ=ba (acc++ds.map f,δ)
 |[],acc,_,_=>by simp
 |d::ds,acc,h,hl=>by
  have i:(δ++[Sl.no]).set a (.va d)=δ++[Sl.va d]:=by rw[Ga _ _ (by lia)];simp[b]
  have j:(δ++[Sl.va d]).take a=δ:=by rw[Eg (by lia),Cu (by lia)]
  have k:acc.length<16777216:=by simp at hl;lia
  have c:=ME a fe δ f b ds (acc++[f d]) (λe g=>h e (Ap _ g)) (by simp at hl⊢;lia);simp only[QN,Wq,gN_e,i,FN,hV,Wo,h d Ax,Wm,if_pos k,j,c];simp
def dU(k:Nat):(Y4 0 k).length=k:=by simp[Y4]
theorem E4:∀(ks:List aK) (a:List cV) (i:Nat) (k:aK),ks.Nodup->ks.length=a.length->ks[i]?=ba k->aV ks a k=a[i]?
 |[],_,i,k,_,_,e=>by simp at e
 |k'::ks,[],i,k,_,hl,_=>by simp at hl
 |k'::ks,w::a,0,k,_,_,e=>by simp at e;simp[aV,e]
 |k'::ks,w::a,i+1,k,c,hl,e=>by
  have d:ks[i]?=ba k:=by simpa using e
  have b:¬k'=k:=λz=>(Di.mp c).1 (by rw[z];exact Ew d);have:=E4 ks a i k (Di.mp c).2 (by simpa using hl) d
  simp[aV,b,this]
noncomputable def cnt:cV->Nat
 |.tup (.str x::_)=>if x= "number" ∨x= "load" then 0 else if x= "store" then 1 else if x= "pick" then 3 else 2
 |_=>0
def dne{x:String}(b:x∈["over","plus","minus","times","least","most","less"]){y:String}(a:(["over","plus","minus","times","least","most","less"].contains y)=bd):(¬x=y)/\¬y=x:=by
 have h:¬x=y:=λe=>by subst e;rw[List.contains_iff_mem.mpr b]at a;cases a
 exact⟨h,λe=>h e.symm⟩
def C9{M:Int->Prop}{d:cV}(h:Z3 M d):∃as:List Int,(∀a∈as,M a)/\as.length=cnt d/\ZU [d]=ba (.lst (as.map .int),[])/\ZU [d]=ba (.lst (as.map .int),[]):=by
 cases h with
 | @number n _ _=>
  refine⟨[],(λ_ h=>nomatch h),by kernel_rfl,?_,?_⟩
  ·kernel_rfl
  ·kernel_rfl
 | @two x a b f e g=>
  refine⟨[a,b],by simp[e,g],?_,?_,?_⟩
  ·simp only[Ak,Be,or_false]at f
   rcases f with rfl|rfl|rfl|rfl|rfl|rfl|rfl<;>kernel_rfl
  ·simp only[Ak,Be,or_false]at f
   rcases f with rfl|rfl|rfl|rfl|rfl|rfl|rfl<;>kernel_rfl
  ·simp only[Ak,Be,or_false]at f
   rcases f with rfl|rfl|rfl|rfl|rfl|rfl|rfl<;>kernel_rfl
 | @pick c a b hc e g=>
  refine⟨[c,a,b],by simp[hc,e,g],by kernel_rfl,?_,?_⟩
  ·kernel_rfl
  ·kernel_rfl
 | @load p _ _=>
  refine⟨[],(λ_ h=>nomatch h),by kernel_rfl,?_,?_⟩
  ·kernel_rfl
  ·kernel_rfl
 | @take p c a _ _ hc e=>
  refine⟨[c,a],by simp[hc,e],by kernel_rfl,?_,?_⟩
  ·kernel_rfl
  ·kernel_rfl
 | @store p a _ _ e=>
  refine⟨[a],by simp[e],by kernel_rfl,?_,?_⟩
  ·kernel_rfl
  ·kernel_rfl
 | @put p a c _ _ e hc=>
  refine⟨[a,c],by simp[e,hc],by kernel_rfl,?_,?_⟩
  ·kernel_rfl
  ·kernel_rfl
inductive Bl:List Kd->List cV->List Kd->Prop
 |nil {kds:List Kd}:Bl kds [] kds
 |cons {kds ai:List Kd}{row:cV}{rows:List cV}:Z3 (Nm kds .w) row->Bl (kds++[NS .w row]) rows ai->Bl kds (row::rows) ai
def Bl.snoc{kds c:List Kd}{rows:List cV}{b:cV}(h:Bl kds rows c)(r:Z3 (Nm c .w) b):Bl kds (rows++[b]) (c++[NS .w b]):=by
 induction h with
 |nil=>exact .cons r .nil
 |cons a _ d=>exact .cons a (d r)
def Bl.len{kds a:List Kd}{rows:List cV}(h:Bl kds rows a):a.length=kds.length+rows.length:=by
 induction h with
 |nil=>simp
 |cons _ _ b=>simp only[b,Cs,Bu,Nh];lia
def Bl.all{kds e:List Kd}{rows:List cV}(h:Bl kds rows e):∀d∈rows,Z3 (Nm e .w) d:=by
 induction h with
 |nil=>intro d b;cases b
 | @cons kds e g rows a t c=>
  intro d b;rcases Ak.mp b with rfl|b
  ·refine a.imp λx i => ?_
   have:∀{k k':List Kd}{f:List cV},Bl k f k'->Nm k .w x->Nm k' .w x:=by
    intro k k' f h;induction h with
    |nil=>exact id
    |cons _ _ c=>exact λz=>c z.snoc
   exact this t i.snoc
  ·exact c d b
theorem PN:∀ns:List Int,UY (ns.map .int)=ba ns
 |[]=>rfl
 |i::ns=>by show(UY (ns.map .int)).map (λns=>i::ns)=_;rw[PN ns];rfl
theorem BM{n:Int}:∀{ns:List Int},n∈ns->∃j:Nat,VD n ns=ba j/\j<ns.length
 | i :: ns,h => by
  unfold VD;by_cases e:i=n
  ·rw[if_pos e];exact⟨0,rfl,by simp⟩
  ·rw[if_neg e]
   obtain⟨j,h1,h2⟩:=BM (ns:=ns) (by
    rcases Ak.mp h with z|z
    ·exact absurd z.symm e
    ·exact z)
   exact⟨j+1,by rw[h1];rfl,by simp;lia⟩
noncomputable def nst(ns:List Int)(n:Nat)(rows:List cV)(made:List Int)(sn:cV)(c:Int)(last:cV)(fi:Int)(bs:List Int)(b a:Sl):Ev:=
 [.va (X3 ns),.ow (XW n),.va (.lst rows),.va (.lst (made.map .int)),.ow sn,.va (.int c),.va last,.va (.int fi),.ow (.lst (bs.map .int)),b,a]
def lz(ns:List Int)(n:Nat)(rows:List cV)(made:List Int)(sn:cV)(h:Int)(last:cV)(fi:Int)(bs:List Int)(a:Int)(d:Sl)(hl:ns.length<=63)(r:n<700000)(e:a∈made)(s:bs.length<100):∃b∈made,∃o,YX (nst ns n rows made sn h last fi bs (.va (.int a)) d)=ba (.nx (nst ns (n+1) rows made sn h last fi (bs++[b]) (.va (.int a)) o)):=by
 obtain⟨j,l,k⟩:=BM e;obtain⟨x,g,ex⟩:=WI ns n [.int 1,.int 1,.int 1,.int 1,.int (-1),.int 0,.int 2] hl (by lia) (by simp);obtain⟨p,rfl⟩:∃p,x=.int p:=by simp only[Ak,Be,or_false]at g;rcases g with rfl|rfl|rfl|rfl|rfl|rfl|rfl<;>exact⟨_,rfl⟩
 have hi:DE (.lst (made.map .int)) (.int a)=ba (.int j):=by show(UY (made.map .int)).bind (λns=>(VD a ns).map λj=>cV.int j)=_;rw[PN,Av,l];rfl
 have c:bs.length<16777216:=by lia
 by_cases h1:0<=(j:Int)+p/\(j:Int)+p<made.length
 ·obtain⟨q,i,eq⟩:=NQ (ns:=made) h1.1 h1.2
  by_cases h2:q=(rows.length:Int)-1
  ·refine⟨a,e,.va (.int (j+p)),?_⟩
   unfold YX;simp[nst,hi,ex,h1.1,h1.2,eq,h2,c]
  ·refine⟨q,i,.va (.int (j+p)),?_⟩
   unfold YX;simp[nst,hi,ex,h1.1,h1.2,eq,h2,c]
 ·refine⟨a,e,.va (.int (j+p)),?_⟩
  unfold YX;by_cases f:0<=(j:Int)+p
  ·have m : ¬ (j : Int) + p < made.length := λz => h1 ⟨f,z⟩
   simp[nst,hi,ex,f,m,c]
  ·simp[nst,hi,ex,f,c]
theorem DB(ns:List Int)(rows:List cV)(made:List Int)(sn:cV)(g:Int)(last:cV)(fi:Int)(hl:ns.length<=63):∀(as:List Int) (n:Nat) (bs:List Int) (h d:Sl),n+as.length<700000->(∀a∈as,a∈made)->bs.length+as.length<100->∃i:List Int,(∀c∈i,c∈made)/\i.length=as.length/\∃f l,W4 (gN 9) YX (as.map .int) (nst ns n rows made sn g last fi bs h d)=ba (.nx (nst ns (n+as.length) rows made sn g last fi (bs++i) f l))
 |[],n,bs,h,d,_,_,_=>⟨[],by simp,rfl,h,d,by simp⟩
 | a :: as,n,bs,h,d,q,m,r => by
  simp only[Bu]at q r;obtain⟨b,k,j,e⟩:=lz ns n rows made sn g last fi bs a d hl (by lia) (m a Ax) (by lia);obtain⟨i,h1,h2,f,l,o⟩:=DB ns rows made sn g last fi hl as (n+1) (bs++[b]) (.va (.int a)) j (by lia) (λx p=>m x (Ap _ p)) (by simp;lia);refine⟨b::i,λc hc=>?_,by simp[h2],f,l,?_⟩
  ·rcases Ak.mp hc with rfl|hc
   ·exact k
   ·exact h1 c hc
  rw[Bg,PF,gN_e,KQ,show(nst ns n rows made sn g last fi bs h d).set 9 (.va (.int a))=nst ns n rows made sn g last fi bs (.va (.int a)) d from rfl,e,KS,o];simp[Uc,Qw 1]
def cel4{x:String}(h:onC x):(decide ("load"=x) || (decide ("take"=x) || (decide ("store"=x) || decide ("put"=x))))=bc:=by
 rcases h with rfl|rfl|rfl|rfl<;>decide
def snM{m k:Nat}{d:cV}(h:Sn m d)(a:m<=k):Sn k d:=by obtain⟨ks,vs,e,h1,h2,b⟩:=h;exact⟨ks,vs,e,h1,h2,by lia⟩
def NT(ns:List Int)(n:Nat)(rows:List cV)(made:List Int)(sn:cV)(d:Int){x:String}{p:Int}{as:List Int}{m:Nat}(hl:ns.length<=63)(C:n<600000)(D:m<8000000)(s:Sn m sn)(l:0<d)(r:onC x)(A:SQ rows (-1)=ba (.tup (.str x:: .int p::as.map .int)))(u:∀a∈as,a∈made)(G:as.length<=3):∃(q:Int) (b:List Int) (g:cV),0<=q/\q<d/\(∀c∈b,c∈made)/\b.length=as.length/\Sn (m+1) g/\YN [X3 ns,XW n,.lst rows,.lst (made.map .int),sn,.int d]=ba (.tup (.str x:: .int q::b.map .int),[XW (n+as.length),g]):=by
 obtain⟨b,h1,h2,B,o,e⟩:=DB ns rows made sn d (.tup (.str x:: .int p::as.map .int)) 2 hl as n [] .no .no (by lia) u (by simp;lia);simp only[nst,Fs,Ey]at e;obtain⟨ks,vs,rfl,k1,k2,k3⟩:=s;obtain⟨h,f,pe,y,w,F,E,v⟩:=putI ks vs (.inr (x:Va)) ((p+1) % d) k1 k2;have t:ks.length<16777216:=by lia
 refine⟨(p+1) % d,b,.dct h (f.map .int),Ja _ (by lia),Fh _ l,h1,h2,⟨h,f,rfl,y,w,by lia⟩,?_⟩;unfold YN;rw[bG,U9.eq_1];have i:=cel4 r;have z:VN (.str x:: .int p::as.map cV.int) (ba 2) bb=as.map cV.int:=by
  have:=SZ (ds:=.str x:: .int p::as.map cV.int) (k:=2) (by simp)
  simpa using this
 have j:2+b.length<=16777216:=by lia
 simp[bA,A,i,z,e,l,t,k2,pe,v,j]
def off4{x:String}(h:¬onC x):(¬x= "load" /\¬ "load"=x)/\(¬x= "take" /\¬ "take"=x)/\(¬x= "store" /\¬ "store"=x)/\¬x= "put" /\¬ "put"=x:=by refine⟨⟨λz=>h (.inl z),λz=>h (.inl z.symm)⟩,⟨λz=>h (.inr (.inl z)),λz=>h (.inr (.inl z.symm))⟩,⟨λz=>h (.inr (.inr (.inl z))),λz=>h (.inr (.inr (.inl z.symm)))⟩,λz=>h (.inr (.inr (.inr z))),λz=>h (.inr (.inr (.inr z.symm)))⟩
def FC(ns:List Int)(n:Nat)(rows:List cV)(made:List Int)(sn:cV)(f:Int){x:String}{as:List Int}(hl:ns.length<=63)(t:n<600000)(m:¬onC x)(r:SQ rows (-1)=ba (.tup (.str x::as.map .int)))(o:∀a∈as,a∈made)(u:as.length<=3):∃b:List Int,(∀c∈b,c∈made)/\b.length=as.length/\YN [X3 ns,XW n,.lst rows,.lst (made.map .int),sn,.int f]=ba (.tup (.str x::b.map .int),[XW (n+as.length),sn]):=by
 obtain⟨b,h1,h2,s,l,e⟩:=DB ns rows made sn f (.tup (.str x::as.map .int)) 1 hl as n [] .no .no (by lia) o (by simp;lia);simp only[nst,Fs,Ey]at e;refine⟨b,h1,h2,?_⟩;unfold YN;rw[bG,U9.eq_1];obtain⟨⟨_,j⟩,⟨_,i⟩,⟨_,h⟩,_,g⟩:=off4 m;have q:VN (.str x::as.map cV.int) (ba 1) bb=as.map cV.int:=by
  have:=SZ (ds:=.str x::as.map cV.int) (k:=1) (by simp)
  simpa using this
 have p:VN (.str x::as.map cV.int) bb (ba 1)=[.str x]:=by
  have:=QP (ds:=.str x::as.map cV.int) (k:=1)
  simpa using this
 have d:1+b.length<=16777216:=by lia
 simp[bA,r,j,i,h,g,q,p,e,d]
def kR(ns:List Int)(n:Nat)(rows:List cV)(made:List Int)(sn:cV)(l:Int){last:cV}{m:Nat}(hl:ns.length<=63)(r:n<600000)(v:m<8000000)(o:Sn m sn)(u:0<l)(E:l<=64)(s:SQ rows (-1)=ba last)(ok:Z3 (· ∈made) last)(D:∀k,last≠ .tup [.str "number",.int k]):∃t A g,n<=A/\A<=n+3/\Sn (m+1) g/\Z3 (· ∈made) t/\YN [X3 ns,XW n,.lst rows,.lst (made.map .int),sn,.int l]=ba (t,[XW A,g]):=by
 cases ok with
 |number=>exact absurd rfl (D _)
 | @two x a b C j B=>
  obtain⟨i,h1,h2,e⟩:=FC ns n rows made sn l (x:=x) (as:=[a,b]) hl r (CA C) s (by simp[j,B]) (by simp);match i,h2 with
  |[c,d],_=>exact⟨_,n+2,sn,by lia,by lia,snM o (by lia),.two C (h1 c (by simp)) (h1 d (by simp)),e⟩
 | @pick c a b hc j B=>
  obtain⟨i,h1,h2,e⟩:=FC ns n rows made sn l (x:= "pick") (as:=[c,a,b]) hl r (λz=>by rcases z with z|z|z|z<;>exact absurd z (by decide)) s (by simp[j,B,hc]) (by simp);match i,h2 with
  |[c,d,f],_=>exact⟨_,n+3,sn,by lia,by lia,snM o (by lia),.pick (h1 c (by simp)) (h1 d (by simp)) (h1 f (by simp)),e⟩
 | @load p y w=>
  obtain⟨q,i,g,q0,q1,h1,h2,h,e⟩:=NT ns n rows made sn l (x:= "load") (p:=p) (as:=[]) hl r v o u (.inl rfl) s (by simp) (by simp);match i,h2 with
  |[],_=>exact⟨_,n+0,g,by lia,by lia,h,.load q0 (by lia),e⟩
 | @take p c a y w hc j=>
  obtain⟨q,i,g,q0,q1,h1,h2,h,e⟩:=NT ns n rows made sn l (x:= "take") (p:=p) (as:=[c,a]) hl r v o u (.inr (.inl rfl)) s (by simp[hc,j]) (by simp);match i,h2 with
  |[c,d],_=>exact⟨_,n+2,g,by lia,by lia,h,.take q0 (by lia) (h1 c (by simp)) (h1 d (by simp)),e⟩
 | @store p a y w j=>
  obtain⟨q,i,g,q0,q1,h1,h2,h,e⟩:=NT ns n rows made sn l (x:= "store") (p:=p) (as:=[a]) hl r v o u (.inr (.inr (.inl rfl))) s (by simp[j]) (by simp);match i,h2 with
  |[c],_=>exact⟨_,n+1,g,by lia,by lia,h,.store q0 (by lia) (h1 c (by simp)),e⟩
 | @put p a c y w j hc=>
  obtain⟨q,i,g,q0,q1,h1,h2,h,e⟩:=NT ns n rows made sn l (x:= "put") (p:=p) (as:=[a,c]) hl r v o u (.inr (.inr (.inr rfl))) s (by simp[j,hc]) (by simp);match i,h2 with
  |[c,d],_=>exact⟨_,n+2,g,by lia,by lia,h,.put q0 (by lia) (h1 c (by simp)) (h1 d (by simp)),e⟩
structure RI(rows:List cV)(made:List Int)(kds:List Kd):Prop where
 bl:Bl [] rows kds
 ex:∀a,a∈made↔Nm kds .w a
 ml:made.length<=rows.length
def RI.len{rows:List cV}{made:List Int}{kds:List Kd}(h:RI rows made kds):kds.length=rows.length:=by
 have:=h.bl.len
 simpa using this
def pM{kds:List Kd}{k:Kd}{a:Int}:Nm (kds++[k]) .w a↔Nm kds .w a∨(k=.w/\a=kds.length):=by
 constructor
 ·intro h
  have b:=h.1;have hl:=h.lt;rw[Cs,Jx]at hl;by_cases hi:a.toNat<kds.length
  ·exact .inl ⟨b,by have:=h.2;rwa[Ar hi]at this⟩
  ·have hi : a.toNat = kds.length := by lia
   have e:=h.2;rw[hi]at e;simp at e;exact .inr ⟨e,by lia⟩
 ·rintro (h|⟨rfl,rfl⟩)
  ·exact h.snoc
  ·exact Nm.new
def RI.more{rows:List cV}{made:List Int}{kds:List Kd}{b:cV}(h:RI rows made kds)(r:Z3 (· ∈made) b):RI (rows++[b]) (if NS .w b=.w then made++[(rows.length:Int)]else made) (kds++[NS .w b]):=by
 refine⟨h.bl.snoc (r.imp λa c=>(h.ex a).mp c),λa=>?_,?_⟩
 ·rw[pM,<- h.ex a,h.len]
  split
  ·rename_i e
   simp[e]
  ·rename_i e
   simp[e]
 ·have:=h.ml
  split<;>simp<;>lia
theorem RI.last{b:List cV}{last:cV}{made:List Int}{kds:List Kd}(h:RI (b++[last]) made kds):Z3 (· ∈made) last:=(h.bl.all last (by simp)).imp λa c=>(h.ex a).mpr c
noncomputable def N6(ns:List Int)(n:Nat)(a c:Int)(rows:List cV)(made:List Int)(sn:cV)(b:Sl):Ev:=
 [.va (X3 ns),.ow (XW n),.va (.int a),.va (.int c),.ow (.lst rows),.ow (.lst (made.map .int)),.ow sn,b]
theorem JU:∀vs:List Int,UB (vs.map .int)=bc
 |[]=>rfl
 |_::vs=>by show((cV.int _).hard&&UB (vs.map .int))=bc;rw[JU vs];rfl
def B5{m:Nat}{sn:cV}(h:Sn m sn):UD sn=bc:=by obtain⟨ks,vs,rfl,_⟩:=h;exact JU vs
def A2{a:cV}(x:String)(t:List cV)(e:a=.tup (.str x::t)):NS .w a=.w↔ ¬(x= "store" ∨x= "put"):=by
 subst e;by_cases h:x= "store" ∨x= "put"
 ·rw[mG h];simp[h]
 ·have : x ∉ ["store","put"] := by simpa using h
  rw[p6 this];simp[h]
def kL(ns:List Int)(n:Nat)(a s:Int){rows:List cV}{made:List Int}{kds:List Kd}{sn:cV}{m:Nat}(C:Sl)(hl:ns.length<=63)(K:n<600000)(L:m<8000000)(w:Sn m sn)(J:0<s)(A:s<=64)(R:RI rows made kds)(D:rows≠[])(O:rows.length<1000):∃r E M i b,RI r E M/\rows.length<=r.length/\((rows.length:Int)<=a->(r.length:Int)<=a)/\r.length<=rows.length+1/\n<=i/\i<=n+3/\Sn (m+1) b/\YY (N6 ns n a s rows made sn C)=ba (.nx (N6 ns i a s r E b C)):=by
 obtain⟨h,last,rfl⟩:∃h last,rows=h++[last]:=⟨rows.dropLast,rows.getLast D,(List.dropLast_concat_getLast D).symm⟩;have ok:=R.last;have q:=QH h last;have B:made.length<16777216:=by have:=R.ml;lia
 have f:(h++[last]).length<16777216:=by lia
 generalize N:h++[last]=rows at*;obtain⟨x,t,p,_⟩:=Q6 ok;by_cases h1:(rows.length:Int)<a
 ·by_cases h2:x= "number"
  ·refine ⟨rows,made,kds,n,sn,R,Am _,id,by lia,by lia,by lia,snM w (by lia),?_⟩
   unfold YY;simp[N6,h1,q,p,h2]
  ·obtain ⟨v,i,b,I,H,j,okr,e⟩ := kR ns n rows made sn s hl K L w J A q ok (λk z => by rw [p]at z;simp [YD]at z;exact h2 z.1)
   obtain⟨y,u,o,_⟩:=Q6 okr;have g:=QH rows v;refine⟨_,_,_,i,b,R.more okr,by simp,by simp;lia,by simp,I,H,j,?_⟩;unfold YY;have key:=A2 y u o;have c:=okr.hard;rw[o]at c;have d:=B5 j;by_cases l:y= "store" ∨y= "put"
   ·rw [if_neg (by rw [key];simp [l])]
    rcases l with rfl|rfl
    ·simp[N6,h1,q,p,h2,e,g,o,f,c,d]
    ·simp[N6,h1,q,p,h2,e,g,o,f,c,d]
   ·rw [if_pos (by rw [key];exact l)]
    have G:¬ "store"=y:=λz=>l (.inl z.symm);have F:¬ "put"=y:=λz=>l (.inr z.symm);simp[N6,h1,q,p,h2,e,g,o,f,c,d,G,F,B]
 ·refine ⟨rows,made,kds,n,sn,R,Am _,id,by lia,by lia,by lia,snM w (by lia),?_⟩
  unfold YY;simp[N6,h1]
theorem Xd(ns:List Int)(a c:Int)(hl:ns.length<=63)(s:0<c)(j:c<=64):∀(ds:List cV) (n:Nat) {rows:List cV}{made:List Int}{kds:List Kd}{sn:cV}{m:Nat}(h:Sl),n+3*ds.length<600000->m+ds.length<8000000->Sn m sn->RI rows made kds->rows≠[]->rows.length+ds.length<1000->∃g k q i b f,RI g k q/\rows.length<=g.length/\((rows.length:Int)<=a->(g.length:Int)<=a)/\n<=i/\i<=n+3*ds.length/\Sn (m+ds.length) b/\W4 (gN 7) YY ds (N6 ns n a c rows made sn h)=ba (.nx (N6 ns i a c g k b f))
 |[],n,rows,made,kds,sn,m,h,_,_,p,R,_,_=>⟨rows,made,kds,n,sn,h,R,Am _,id,by lia,by simp,p,by simp⟩
 |d::ds,n,rows,made,kds,sn,m,h,w,x,p,R,t,hz=>by simp only[Bu]at w x hz;obtain⟨G,F,E,v,u,C,r,B,L,a4,K,l,y⟩:=kL ns n a c (.va d) hl (by lia) (by lia) p s j R t (by lia);obtain⟨g,k,q,i,b,f,D,J,A,I,H,o,e⟩:=Xd ns a c hl s j ds v (.va d) (by lia) (by lia) l C (λz=>by rw[z]at r;simp at r;exact t r) (by lia);refine⟨g,k,q,i,b,f,D,by lia,λz=>A (B z),by lia,by simp only[Bu];lia,snM o (by simp only[Bu];lia),?_⟩;rw[PF,gN_e,KQ,show(N6 ns n a c rows made sn h).set 7 (.va d)=N6 ns n a c rows made sn (.va d) from rfl,y,KS,e]
def mh(ns:List Int)(n:Nat)(a p:Int){rows:List cV}{made:List Int}{kds:List Kd}{sn:cV}(C:Sl)(hl:ns.length<=63)(S:n<500000)(J:L7 n sn)(F:0<p)(r:p<=64)(R:RI rows made kds)(K:(rows.length:Int)<a)(M:a<=40):∃o t B m b f,RI o t B/\rows.length<o.length/\(o.length:Int)<=a/\n<=m/\m<=n+20/\L7 m b/\W2 (N6 ns n a p rows made sn C)=ba (.nx (N6 ns m a p o t b f)):=by
 obtain⟨v,D,I,U,T,q,okr,_,e⟩:=jQ ns n made sn p hl (by lia) J F r;obtain⟨x,E,ex⟩:=WI ns D [.int 0,.int 1,.int 1,.int 2,.int 3] hl (by lia) (by simp);obtain⟨k,rfl,k0,k3⟩:∃k:Nat,x=.int k/\0<=k/\k<=3:=by
  simp only[Ak,Be,or_false]at E;rcases E with rfl|rfl|rfl|rfl|rfl
  ·exact⟨0,rfl,by lia,by lia⟩
  ·exact⟨1,rfl,by lia,by lia⟩
  ·exact⟨1,rfl,by lia,by lia⟩
  ·exact⟨2,rfl,by lia,by lia⟩
  ·exact⟨3,rfl,by lia,by lia⟩
 have P:=R.more okr;have h:rows.length<16777216:=by lia
 have A:made.length<16777216:=by have:=R.ml;lia
 have L:(Y4 0 k).length=k:=dU k;obtain⟨o,t,B,m,b,f,Q,O,N,W,V,w,d⟩:=Xd ns a p hl F r (Y4 0 k) (D+1) C (by lia) (by lia) q P (by simp) (by simp;lia);refine⟨o,t,B,m,b,f,Q,by simp at O;lia,N (by simp;lia),by lia,by lia,snM w (by lia),?_⟩;obtain⟨y,u,l,_⟩:=Q6 okr;have i:=QH rows v;have key:=A2 y u l;have c:=okr.hard;rw[l]at c;have g:=B5 q;have j:(-4611686018427387904:Int)<=k/\(k:Int)<4611686018427387904:=by lia
 unfold W2;by_cases s:y= "store" ∨y= "put"
 ·rw [if_neg (by rw [key];simp [s])]at d
  simp only[N6]at d;rw[l]at d;rcases s with rfl|rfl
  ·simp[N6,e,i,l,h,c,g,ex,j,d]
  ·simp[N6,e,i,l,h,c,g,ex,j,d]
 ·rw [if_pos (by rw [key];exact s)]at d
  simp only[N6,Ix,Bg,Ey]at d;rw[l]at d;have H:¬ "store"=y:=λz=>s (.inl z.symm);have G:¬ "put"=y:=λz=>s (.inr z.symm);simp[N6,e,i,l,h,c,g,ex,j,H,G,A,d]
def GK{t:VB}{g:VS}{k:Nat}{δ δ1 δ2:Ev}(h:t δ=ba (bc,δ1))(h2:g δ1=ba (.nx δ2)):aM t g (k+1) δ=aM t g k δ2:=by show((t δ).bind λp=>if p.1=bc then(g p.2).bind (again (aM t g k))else ba (.nx p.2))=_;rw[h,Av];show(if bc=bc then(g δ1).bind (again (aM t g k))else _)=_;rw[if_pos rfl,h2];rfl
def NI{t:VB}{g:VS}{k:Nat}{δ δ1:Ev}(h:t δ=ba (bd,δ1)):aM t g (k+1) δ=ba (.nx δ1):=by show((t δ).bind λp=>if p.1=bc then(g p.2).bind (again (aM t g k))else ba (.nx p.2))=_;rw[h];rfl
theorem Xu(ns:List Int)(a h:Int)(hl:ns.length<=63)(r:0<h)(j:h<=64)(k:a<=40):∀(f:Nat) (n:Nat) {rows:List cV}{made:List Int}{kds:List Kd}{sn:cV}(d:Sl),a-rows.length<=f->(rows.length:Int)<=a->n+20*f<500000->L7 n sn->RI rows made kds->∃l m p i b c,RI l m p/\(l.length:Int)=a/\n<=i/\i<=n+20*f/\aM (fB (f2 oLt (f1 Z0 (fO 4)) (fV 2))) W2 (f+1) (N6 ns n a h rows made sn d)=ba (.nx (N6 ns i a h l m b c))
 |0,n,rows,made,kds,sn,d,h1,h2,v,q,R=>by
  refine⟨rows,made,kds,n,sn,d,R,by lia,by lia,by lia,NI ?_⟩;have:¬(rows.length:Int)<a:=by lia
  simp[N6,this]
 | f + 1,n,rows,made,kds,sn,d,h1,h2,v,q,R => by
  by_cases g:(rows.length:Int)<a
  ·obtain ⟨D,C,B,u,t,s,z,H,y,G,a4,o,w⟩ := mh ns n a h d hl (by lia) q r j R g k
   obtain⟨l,m,p,i,b,c,A,x,F,E,e⟩:=Xu ns a h hl r j k f u s (by lia) y (by lia) o z;refine⟨l,m,p,i,b,c,A,x,by lia,by lia,?_⟩;rw[GK (δ1:=N6 ns n a h rows made sn d) (by simp[N6,g]) w,e]
  ·refine ⟨rows,made,kds,n,sn,d,R,by lia,by lia,by lia,NI ?_⟩
   simp[N6,g]
def eB(ns:List Int)(n:Nat)(b d:Int)(hl:ns.length<=63)(m:n<400000)(h:0<d)(f:d<=64)(i:0<=b)(g:b<=40):∃rows kds c,Bl [] rows kds/\(rows.length:Int)=b/\n<=c/\c<=n+20*40/\U2 [X3 ns,XW n,.int b,.int d]=ba (.tup rows,[XW c]):=by obtain⟨rows,made,kds,c,sn,l,R,k,j,o,e⟩:=Xu ns b d hl h f g b.toNat n (rows:=[]) (made:=[]) (kds:=[]) (sn:=.dct [] []) .no (by simp;lia) (by simpa using i) (by lia) ⟨[],[],rfl,rfl,List.nodup_nil,Df _⟩ ⟨.nil,λa=>by simp[Nm],by simp⟩;refine⟨rows,kds,c,R.bl,k,j,by lia,?_⟩;have e:=P2 e;simp only[N6,Ey]at e;unfold U2;rw[bG,RU.eq_1];simp[bA,e]
def mK{f g:VF}{δ δ1 δ2:Ev}{i j:Int}(h1:f δ=ba (.int i,δ1))(h2:g δ1=ba (.int j,δ2))(a:(-4611686018427387904<=i/\i<4611686018427387904)/\ -4611686018427387904<=j/\j<4611686018427387904):iR2 f g δ=ba (Y4 i (j-i).toNat,δ2):=by unfold iR2;rw[h1,Av,h2,Av];exact if_pos a
theorem NM(a:Nat)(tb:VB)(p:cV->Bool)(fe:VF)(f:cV->cV)(δ:Ev)(b:δ.length=a):∀(ds acc:List cV),(∀d∈ds,tb (δ++[Sl.va d])=ba (p d,δ++[Sl.va d])/\(p d=bc->fe (δ++[Sl.va d])=ba (f d,δ++[Sl.va d])))->acc.length+ds.length<16777216->ZB a 1 (gN a) tb fe ds acc δ=ba (acc++(ds.filter p).map f,δ)
 |[],acc,_,_=>by simp
 | d :: ds,acc,h,hl => by
  have j:(δ++[Sl.no]).set a (.va d)=δ++[Sl.va d]:=by rw[Ga _ _ (by lia)];simp[b]
  have k:(δ++[Sl.va d]).take a=δ:=by rw[Eg (by lia),Cu (by lia)]
  have l:acc.length<16777216:=by simp at hl;lia
  obtain⟨h1,h2⟩:=h d Ax;cases c:p d with
  |true=>
   have g:=NM a tb p fe f δ b ds (acc++[f d]) (λe i=>h e (Ap _ i)) (by simp at hl⊢;lia);have h2:=h2 c;rw[c]at h1;simp only[QN,Wq,gN_e,j,FN,h1,Wo,h2,Wm,if_pos l,k,g];simp[c]
  |false=>
   have g:=NM a tb p fe f δ b ds acc (λe i=>h e (Ap _ i)) (by simp at hl⊢;lia);rw[c]at h1;simp only[QN,Wq,gN_e,j,FN,h1,Xo,k,g];simp[c]
def Z3.ints{M:Int->Prop}{d:cV}(h:Z3 M d):∃(x:String) (a:Int) (as:List Int),d=.tup (.str x:: .int a::as.map .int)/\(x= "over" ->∃b,as=[b]/\M b):=by
 cases h with
 | @number n _ _=>exact⟨"number",n,[],rfl,λz=>absurd z (by decide)⟩
 | @two x a b f g e=>exact⟨x,a,[b],rfl,λ_=>⟨b,rfl,e⟩⟩
 | @pick c a b _ _ _=>exact⟨"pick",c,[a,b],rfl,λz=>absurd z (by decide)⟩
 | @load p _ _=>exact⟨"load",p,[],rfl,λz=>absurd z (by decide)⟩
 | @take p c a _ _ _ _=>exact⟨"take",p,[c,a],rfl,λz=>absurd z (by decide)⟩
 | @store p a _ _ _=>exact⟨"store",p,[a],rfl,λz=>absurd z (by decide)⟩
 | @put p a c _ _ _ _=>exact⟨"put",p,[a,c],rfl,λz=>absurd z (by decide)⟩
theorem UC{k:Nat}:∀as:List Int,∀d∈as.map cV.int,P8 k d
 |[],d,h=>nomatch h
 |a::as,d,h=>by
  rcases Ak.mp h with rfl|h
  ·exact YE
  ·exact UC as d h
def BZ{M:Int->Prop}{b:cV}(h:Z3 M b):P8 1 b:=by obtain⟨x,a,as,rfl,_⟩:=h.ints;exact Q1 (a8 Y1 (a8 YE (UC as)))
def Yr{sure:Int}{rows:List cV}{kds:List Kd}(u:Bl [] rows kds){i:Int}(G:0<=i)(h1:i<rows.length):∃b,XY [.tup [.int sure,.tup rows],.int i]=ba (.bl b,[]):=by
 have P:kds.length=rows.length:=by simpa using u.len
 obtain⟨c,K,v⟩:∃c∈rows,SQ rows i=ba c:=by
  have hi:i.toNat<rows.length:=by lia
  exact⟨rows[i.toNat],Mw hi,by rw[T3 G h1];simp[hi]⟩
 have ok:=u.all c K;obtain⟨x,a,as,rfl,p⟩:=ok.ints;unfold XY;rw[bG];unfold PJ;by_cases w:onC x
 ·have m1:=cel4 w
  exact⟨_,by simp[bA,v,m1];rfl⟩
 ·obtain⟨⟨_,D⟩,⟨_,C⟩,⟨_,B⟩,_,A⟩:=off4 w
  by_cases r:x= "over"
  ·obtain⟨b,rfl,h⟩:=p r
   subst r;have M:=h.1;have O:=h.lt;obtain⟨E,o,I⟩:∃c∈rows,SQ rows b=ba c:=by
    have hi:b.toNat<rows.length:=by lia
    exact⟨rows[b.toNat],Mw hi,by rw[T3 M (by lia)];simp[hi]⟩
   obtain⟨m,n,l,rfl,_⟩:=(u.all E o).ints;have J:VN (.str m:: .int n::l.map cV.int) bb (ba 2)=[.str m,.int n]:=by
    have:=QP (ds:=.str m:: .int n::l.map cV.int) (k:=2)
    simpa using this
   have H:∀δ,iR2 (fC (.int 1)) (fC (.int 1000)) δ=ba (Y4 1 ((1000:Int)-1).toNat,δ):=λδ=>mK (f:=fC (.int 1)) (g:=fC (.int 1000)) (δ:=δ) (δ1:=δ) (δ2:=δ) (i:=1) (j:=1000) rfl rfl (by lia);have z:=ME 0 (aH (cO (fC (.str "number")) (cO (fV 0) bU))) [] (λd=>.tup [.str "number",d]) rfl (Y4 1 ((1000:Int)-1).toNat) [] (λd _=>by simp) (by simp[Y4]);have s:∀neg,∃b,Z4 neg (.tup [.str m,.int n]) (.lst ((Y4 1 ((1000:Int)-1).toNat).map λd=>.tup [.str "number",d]))=ba (.bl b):=λneg=>⟨_,HR (j:=1) (k:=1) (Q1 (a8 Y1 (a8 YE Y2))) (λe F=>by
    obtain⟨d,y,rfl⟩:=Dw.mp F;obtain⟨q,rfl⟩:∃q,d=.int q:=by unfold Y4 at y;obtain⟨q,_,rfl⟩:=Dw.mp y;exact⟨_,rfl⟩
    exact Q1 (a8 Y1 (a8 YE Y2)))⟩
   obtain⟨L,t⟩:=s bc;simp only[Fs]at z;generalize (Y4 1 ((1000:Int)-1).toNat).map (λd=>cV.tup [.str "number",d])=big at*;generalize Y4 1 ((1000:Int)-1).toNat=N at*;exact⟨L,by simp -implicitDefEqProofs [bA,v,I,J,aQ,H,z,t]⟩
  ·exact⟨bd,by simp[bA,v,D,C,B,A,r]⟩
def ZX(p:Int×Int):cV:=.tup [.int p.1,.int p.2]
noncomputable def MC:cV:=.tup [.str "load",.str "take",.str "store",.str "put"]
def PU(a:cV)(ps:List (Int×Int))(j:Int)(there:Sl)(s5 d c b:Sl):Ev:=
 [.va a,.ow (.lst (ps.map ZX)),.va MC,.va (.int j),there,s5,d,c,b]
def eZ{bs:List Bool}:Z4 bd (.bl bc) (.lst (bs.map .bl))=ba (.bl (bs.any id)):=by
 rw[HR (j:=0) (k:=0) Yb (λe c=>by obtain⟨b,_,rfl⟩:=Dw.mp c;exact Yb)]
 induction bs with
 |nil=>rfl
 |cons b bs a=>
  have e:eqD (.bl b) (.bl bc)=b:=by cases b<;>rfl
  simp only[Bg,Wd,Ho,id,e];simp only[Fg,if_false,Option.some.injEq,cV.bl.injEq]at a⊢;rw[a]
theorem AU{i:Int}:∀{as:List Int},i∈as->JW (.int i) (as.map .int)=bc
 |q::as,h=>by
  simp only[Bg,Wd];rcases Ak.mp h with rfl|h
  ·simp
  ·simp[AU h]
noncomputable def wrT:cV->Bool
 |.tup (.str x::_)=>decide (Bf "store"=x) || decide (Bf "put"=x)
 |_=>bd
def NC{s1 a:VS}{δ δ1:Ev}{r:Option Ou}(h1:s1 δ=ba (.nx δ1))(h2:a δ1=r):cG s1 a δ=r:=by rw[Xh,h1,qS_n,h2]
def jA{sure:Int}{rows:List cV}{kds:List Kd}(s:Bl [] rows kds)(ps:List (Int×Int)){i j:Int}{here there:cV}(W:0<=i)(V:i<rows.length)(U:0<=j)(T:j<rows.length)(hh:here∈rows)(X:there∈rows){as:List Int}(hn:ZU [there]=ba (.lst (as.map .int),[]))(M F:Sl)(hp:ps.length<1000000):∃(c:Bool) (L K:Sl),(i∈as->c=bc)/\W0 (PU (.tup [.int sure,.tup rows]) ps j (.va there) (.va (.int i)) (.va here) M F)=ba (.nx (PU (.tup [.int sure,.tup rows]) (ps++if c then[(i,j)]else[]) j (.va there) (.va (.int i)) (.va here) L K)):=by
 obtain⟨f,J⟩:=Yr (sure:=sure) s W V;obtain⟨l,I⟩:=Yr (sure:=sure) s U T;have q:=s.all here hh;have p:=s.all there X;have R:=BZ q;have Q:=BZ p;obtain⟨x,a,xs,H,_⟩:=q.ints;obtain⟨y,b,ys,G,_⟩:=p.ints;have C:Z4 bd (.int i) (.lst (as.map .int))=ba (.bl (JW (.int i) (as.map .int))):=by rw[HR (j:=0) (k:=0) YE (UC as)];simp
 have S:=AU (i:=i) (as:=as);generalize JW (.int i) (as.map .int)=bi at*;have E:∃w:List cV,ZB 0 1 (gN 0) (fB (f2 (Z4 bd) (f2 bT (fV 0) (fC (.int 0))) (aH (cO (fC (.str "store")) (cO (fC (.str "put")) bU))))) (fV 0) [here,there] [] []=ba (w,[])/\∀d∈w,P8 1 d:=by
  have c:=NM 0 (fB (f2 (Z4 bd) (f2 bT (fV 0) (fC (.int 0))) (aH (cO (fC (.str "store")) (cO (fC (.str "put")) bU))))) wrT (fV 0) id [] rfl [here,there] [] (λd r=>by
   simp only[Ak,Be,or_false]at r;rcases r with rfl|rfl
   ·rw[H];simp[wrT,YD]
   ·rw[G];simp[wrT,YD]) (by simp)
  refine⟨_,c,λd r=>?_⟩;simp only[Fs,List.map_id_fun,id,Ij,Ak,Be,or_false]at r;rcases r.1 with rfl|rfl
  ·exact R
  ·exact Q
 obtain⟨w,E,P⟩:=E;have B:UH (.lst w) (.lst [])=ba (.bl (!eqD (.lst w) (.lst []))):=BB (j:=2) (k:=0+1) (YF P) (YF Y2);generalize (!eqD (.lst w) (.lst []))=m at*;have A:ps.length<16777216:=by lia
 have v:∃h,Z4 bd (.str x) MC=ba (.bl h):=⟨_,Xl⟩;have t:∃e,Z4 bd (.str y) MC=ba (.bl e):=⟨_,Xl⟩;have z:∃h,Z4 bd (.str x) (.tup [.str "store",.str "put"])=ba (.bl h):=⟨_,AW⟩;have u:∃e,Z4 bd (.str y) (.tup [.str "store",.str "put"])=ba (.bl e):=⟨_,AW⟩;obtain⟨h,v⟩:=v;obtain⟨e,t⟩:=t;obtain⟨o,z⟩:=z;obtain⟨n,u⟩:=u;subst H G;have g:=eZ (bs:=[bi,f&&l,h&&(e&&(decide (a=b)&&m)),f&&n,l&&o]);simp only[Bg,Ey]at g;refine⟨[bi,f&&l,h&&(e&&(decide (a=b)&&m)),f&&n,l&&o].any id,.va (.lst w),.ow (.lst [.bl bi,.bl (f&&l),.bl (h&&(e&&(decide (a=b)&&m))),.bl (f&&n),.bl (l&&o)]),?_,?_⟩
 ·intro hi
  rw[S hi];rfl
 ·unfold W0
  refine NC (δ1:=PU (.tup [.int sure,.tup rows]) ps j (.va (.tup (.str y:: .int b::ys.map .int))) (.va (.int i)) (.va (.tup (.str x:: .int a::xs.map .int))) (.va (.lst w)) F) (by simp[PU,aQ,E]) ?_;refine NC (δ1:=PU (.tup [.int sure,.tup rows]) ps j (.va (.tup (.str y:: .int b::ys.map .int))) (.va (.int i)) (.va (.tup (.str x:: .int a::xs.map .int))) (.va (.lst w)) (.ow (.lst [.bl bi,.bl (f&&l)]))) ?_ ?_
  ·clear g
   cases f<;>simp[PU,hn,C,J,I]
  refine NC (δ1:=PU (.tup [.int sure,.tup rows]) ps j (.va (.tup (.str y:: .int b::ys.map .int))) (.va (.int i)) (.va (.tup (.str x:: .int a::xs.map .int))) (.va (.lst w)) (.ow (.lst [.bl bi,.bl (f&&l),.bl (h&&(e&&(decide (a=b)&&m)))]))) ?_ ?_
  ·clear g
   cases h<;>cases e<;>by_cases D:a=b<;>simp[PU,v,t,B,D]
  refine NC (δ1:=PU (.tup [.int sure,.tup rows]) ps j (.va (.tup (.str y:: .int b::ys.map .int))) (.va (.int i)) (.va (.tup (.str x:: .int a::xs.map .int))) (.va (.lst w)) (.ow (.lst [.bl bi,.bl (f&&l),.bl (h&&(e&&(decide (a=b)&&m))),.bl (f&&n)]))) ?_ ?_
  ·clear g
   generalize (h&&(e&&(decide (a=b)&&m)))=q3;cases f<;>simp[-AW,PU,J,u]
  refine NC (δ1:=PU (.tup [.int sure,.tup rows]) ps j (.va (.tup (.str y:: .int b::ys.map .int))) (.va (.int i)) (.va (.tup (.str x:: .int a::xs.map .int))) (.va (.lst w)) (.ow (.lst [.bl bi,.bl (f&&l),.bl (h&&(e&&(decide (a=b)&&m))),.bl (f&&n),.bl (l&&o)]))) ?_ ?_
  ·clear g
   generalize (h&&(e&&(decide (a=b)&&m)))=q3;cases l<;>simp[-AW,PU,I,z]
  generalize (h&&(e&&(decide (a=b)&&m)))=q3 at*;generalize hq1:(f&&l)=q1 at*;generalize Z:(f&&n)=O at*;generalize Y:(l&&o)=N at*;generalize hc:[bi,q1,q3,O,N].any id=c at*;cases c
  ·simp[PU,g]
  ·simp[PU,g,A,ZX]
def PD(i:Nat)(d:cV)(ds:List cV):YB i (d::ds)=.tup [.int i,d]::YB (i+1) ds:=rfl
abbrev GP(a b:Nat):VG:=GU 2 (a7 (gN a) (a7 (gN b) W8))
theorem Ze{sure:Int}{rows:List cV}{kds:List Kd}(u:Bl [] rows kds){j:Int}{there:cV}(q:0<=j)(o:j<rows.length)(r:there∈rows){as:List Int}(s:ZU [there]=ba (.lst (as.map .int),[])):∀(a:List cV) (k:Nat) (ps:List (Int×Int)) (s5 g f b:Sl),(∀d∈a,d∈rows)->k+a.length<=rows.length->ps.length+a.length<1000000->∃(qs:List (Int×Int)) (C B m l:Sl),(∀p∈qs,p.2=j/\(k:Int)<=p.1/\p.1<k+a.length)/\(∀i∈as,(k:Int)<=i->i<k+a.length->(i,j)∈qs)/\qs.length<=a.length∧W4 (GP 5 6) W0 (YB k a) (PU (.tup [.int sure,.tup rows]) ps j (.va there) s5 g f b)=ba (.nx (PU (.tup [.int sure,.tup rows]) (ps++qs) j (.va there) C B m l))
 |[],k,ps,s5,g,f,b,_,_,_=>⟨[],s5,g,f,b,by simp,λi _ h1 h2=>by simp at h2;lia,by simp,by simp[YB]⟩
 | h :: a,k,ps,s5,g,f,b,t,E,n => by
  simp only[Bu]at E n;obtain⟨c,m,l,H,e⟩:=jA (sure:=sure) u ps (i:=(k:Int)) (j:=j) (here:=h) (there:=there) (by lia) (by lia) q o (t h Ax) r s f b (by lia);obtain⟨qs,A,y,x,w,q1,q2,q3,D⟩:=Ze u q o r s a (k+1) (ps++if c then[((k:Int),j)]else[]) (.va (.int k)) (.va h) m l (λd F=>t d (Ap _ F)) (by lia) (by cases c<;>simp<;>lia);refine⟨(if c then[((k:Int),j)]else[])++qs,A,y,x,w,?_,?_,?_,?_⟩
  ·intro p n
   simp only[Bu];rcases Dh.mp n with z|z
   ·cases c
    ·simp at z
    ·simp at z;subst z;exact⟨rfl,by simp,by simp;lia⟩
   ·obtain⟨v,J,I⟩:=q1 p z
    exact⟨v,by lia,by lia⟩
  ·intro i hi h1 h2
   simp only[Bu]at h2;by_cases G:i=k
   ·subst G
    rw[H hi];simp
   ·exact Dh.mpr (.inr (q2 i hi (by lia) (by lia)))
  ·cases c<;>simp<;>lia
  ·rw[PD,PF]
   have s1:GP 5 6 (.tup [.int k,h]) (PU (.tup [.int sure,.tup rows]) ps j (.va there) s5 g f b)=ba (PU (.tup [.int sure,.tup rows]) ps j (.va there) (.va (.int k)) (.va h) f b):=by simp[PU]
   rw[s1,KQ,e,KS,D,Ay]
structure Prs(rows:List cV)(ps:List (Int×Int)):Prop where
 lt:∀p∈ps,0<=p.1/\p.1<p.2/\p.2<rows.length
 nm:∀(j:Nat) (row:cV) (as:List Int),rows[j]?=ba row->ZU [row]=ba (.lst (as.map .int),[])->∀i∈as,0<=i->i<j->(i,(j:Int))∈ps
def m6{as bs:List Int}(h:as.map cV.int=bs.map cV.int):as=bs:=by
 induction as generalizing bs with
 |nil=>cases bs with
  |nil=>rfl
  |cons=>simp at h
 | cons a as c => cases bs with
  |nil=>simp at h
  |cons b bs=>
   simp only[Bg,Kz,cV.int.injEq]at h;rw[h.1,c h.2]
theorem Zs{sure:Int}{rows:List cV}{kds:List Kd}(x:Bl [] rows kds)(y:rows.length<=40):∀(g:List cV) (k:Nat) (ps:List (Int×Int)) (s3:Int) (s4 s5 f c b:Sl) (m:Sl),rows.drop k=g->k+g.length=rows.length->ps.length+40*g.length<10000->∃(qs:List (Int×Int)) (L K s r q o:Sl),(∀p∈qs,0<=p.1/\p.1<p.2/\p.2<rows.length)/\(∀(j:Nat) (a:cV) (as:List Int),k<=j->rows[j]?=ba a->ZU [a]=ba (.lst (as.map .int),[])->∀i∈as,0<=i->i<j->(i,(j:Int))∈qs)/\qs.length<=40*g.length∧W4 (GP 3 4) W1 (YB k g) [.va (.tup [.int sure,.tup rows]),.ow (.lst (ps.map ZX)),.va MC,m,s4,s5,f,c,b]=ba (.nx [.va (.tup [.int sure,.tup rows]),.ow (.lst ((ps++qs).map ZX)),.va MC,L,K,s,r,q,o])
 |[],k,ps,s3,s4,s5,f,c,b,m,h1,h2,_=>by
  refine⟨[],m,s4,s5,f,c,b,by simp,λj a as Z U=>?_,by simp,by simp[YB]⟩;have:=(Ai.mp U).1
  simp at h2;lia
 | t :: g,k,ps,s3,s4,s5,f,c,b,m,h1,h2,v => by
  simp only[Bu]at h2 v;have A:t∈rows:=List.mem_of_mem_drop (by rw[h1];exact Ax);have S:rows[k]?=ba t:=by
   have:(rows.drop k)[0]?=ba t:=by rw[h1];rfl
   simpa using this
  obtain⟨as,_,_,B,_⟩:=C9 (x.all t A);have C:(rows.take k).length=k:=by rw[Cn];lia
  obtain⟨h,s,r,q,o,q1,q2,q3,e⟩:=Ze (sure:=sure) x (j:=(k:Int)) (by lia) (by lia) A B (rows.take k) 0 ps s5 f c b (λd T=>List.mem_of_mem_take T) (by lia) (by lia);obtain⟨u,J,I,H,G,F,E,O,N,X,P⟩:=Zs x y g (k+1) (ps++h) 0 (.va t) s r q o (.va (.int k)) (by rw[<-Tb,h1];rfl) (by lia) (by simp;lia);refine⟨h++u,J,I,H,G,F,E,?_,?_,?_,?_⟩
  ·intro p v
   rcases Dh.mp v with z|z
   ·obtain⟨W,V,D⟩:=q1 p z
    rw[C]at D;exact⟨by lia,by lia,by lia⟩
   ·exact O p z
  ·intro j a bs Y n l i hi R Q
   by_cases w:j=k
   ·subst w
    rw[S]at n;injection n with n;subst n;rw[B]at l;have:as=bs:=m6 (by simpa using l)
    subst this;exact Dh.mpr (.inl (q2 i hi (by lia) (by rw[C];lia)))
   ·exact Dh.mpr (.inr (N j a bs (by lia) n l i hi R Q))
  ·simp only[Cs,Bu];lia
  ·rw[PD,PF]
   have s1:GP 3 4 (.tup [.int k,t]) [.va (.tup [.int sure,.tup rows]),.ow (.lst (ps.map ZX)),.va MC,m,s4,s5,f,c,b]=ba (PU (.tup [.int sure,.tup rows]) ps k (.va t) s5 f c b):=by simp[PU]
   have M:W1 (PU (.tup [.int sure,.tup rows]) ps k (.va t) s5 f c b)=ba (.nx (PU (.tup [.int sure,.tup rows]) (ps++h) k (.va t) s r q o)):=by
    unfold W1;have hc:=QP (ds:=rows) (k:=k);rw[Yv];have:MR (C4 (f2 bT (fV 0) (fC (.int 1))) pNo (DG (fV 3))) (PU (.tup [.int sure,.tup rows]) ps k (.va t) s5 f c b)=ba (YB 0 (rows.take k),PU (.tup [.int sure,.tup rows]) ps k (.va t) s5 f c b):=by simp[PU,hc]
    rw[this,qF_s];exact e
   rw[s1,KQ,M,KS];simp only[PU];rw[P,Ay]
theorem BN:∀ps:List (Int×Int),M7 (ps.map ZX)=ba ps
 |[]=>rfl
 |p::ps=>by show(prD (ZX p)).bind (λq=>(M7 (ps.map ZX)).map λqs=>q::qs)=_;rw[BN ps];rfl
def nU(ps:List (Int×Int)):∃qs:List (Int×Int),qs.Perm ps/\M0 (.lst (ps.map ZX))=ba (.lst (qs.map ZX)):=by
 refine⟨(F0 ps).map λi=>ps.getD i (0,0),?_,?_⟩
 ·have h := (TL ps).map λi => ps.getD i (0,0)
  refine h.trans ?_
  have:(Au ps.length).map (λi=>ps.getD i (0,0))=ps:=by refine List.ext_getElem (by simp) λi h1 h2=>?_;simp at h1;simp[h1]
  rw[this]
 ·show (M7 (ps.map ZX)).bind (λqs => ba (cV.lst ((F0 qs).map λi => (ps.map ZX).getD i cV.non))) = _
  rw[BN,Av,Qx];congr 2;refine Ks λi hi=>?_;have:i<ps.length:=Dm.mp ((TL ps).mem_iff.mp hi)
  simp[this]
def oT{sure:Int}{rows:List cV}{kds:List Kd}(g:Bl [] rows kds)(c:rows.length<=40):∃ps:List (Int×Int),Prs rows ps/\ps.length<=1600/\U1 [.tup [.int sure,.tup rows]]=ba (.lst (ps.map ZX),[]):=by obtain⟨qs,q,o,n,m,l,k,q1,q2,q3,e⟩:=Zs (sure:=sure) g c rows 0 [] 0 .no .no .no .no .no .no (by simp) (by simp) (by simp;lia);simp only[Ey,Fs,MC]at e;obtain⟨ps,b,es⟩:=nU qs;refine⟨ps,⟨λp h=>q1 p (b.mem_iff.mp h),λj a as h1 h2 i hi f d=>b.mem_iff.mpr (q2 j a as (by lia) h1 h2 i hi f d)⟩,by rw[b.length_eq];lia,?_⟩;unfold U1;rw[bG,RQ.eq_1];simp[bA,e,es]
theorem QO(c:Nat)(tb:VB)(p:cV->Bool)(fe:VF)(f:cV->cV)(δ:Ev)(g:δ.length=c):∀(ds acc:List cV),(∀d∈ds,∃a b,d=.tup [a,b]/\tb (δ++[Sl.va a,Sl.va b])=ba (p d,δ++[Sl.va a,Sl.va b])/\(p d=bc->fe (δ++[Sl.va a,Sl.va b])=ba (f d,δ++[Sl.va a,Sl.va b])))->acc.length+ds.length<16777216->ZB c 2 (GP c (c+1)) tb fe ds acc δ=ba (acc++(ds.filter p).map f,δ)
 |[],acc,_,_=>by simp
 | d :: ds,acc,h,hl => by
  obtain⟨a,b,rfl,h1,h2⟩:=h d Ax;have l:GP c (c+1) (.tup [a,b]) (δ++[Sl.no,Sl.no])=ba (δ++[Sl.va a,Sl.va b]):=by
   have o:(δ++[Sl.no,Sl.no]).set c (.va a)=δ++[Sl.va a,Sl.no]:=by rw[Ga _ _ (by lia)];simp[g]
   have n:(δ++[Sl.va a,Sl.no]).set (c+1) (.va b)=δ++[Sl.va a,Sl.va b]:=by rw[Ga _ _ (by lia),g,show c+1-c=1 by lia];rfl
   simp[o,n]
  have m:(δ++[Sl.va a,Sl.va b]).take c=δ:=by rw[Eg (by lia),Cu (by lia)]
  have q:acc.length<16777216:=by simp at hl;lia
  cases i:p (.tup [a,b])with
  |true=>
   have j:=QO c tb p fe f δ g ds (acc++[f (.tup [a,b])]) (λe k=>h e (Ap _ k)) (by simp at hl⊢;lia);have h2:=h2 i;rw[i]at h1;simp only[QN,Zn,l,FN,h1,Wo,h2,Wm,if_pos q,m,j];simp[i]
  |false=>
   have j:=QO c tb p fe f δ g ds acc (λe k=>h e (Ap _ k)) (by simp at hl⊢;lia);rw[i]at h1;simp only[QN,Zn,l,FN,h1,Xo,m,j];simp[i]
noncomputable def ost(ns:List Int)(n:Nat)(a:cV)(ps:List (Int×Int))(left made:List Int)(b:Sl):Ev:=
 [.va (X3 ns),.ow (XW n),.va a,.va (.lst (ps.map ZX)),.ow (.lst (left.map .int)),.ow (.lst (made.map .int)),b]
noncomputable def pw(left:List Int)(r:Int):cV->Bool
 |.tup [.int a,.int b]=>decide (b=r)&&JW (.int a) (left.map .int)
 |_=>bd
theorem HH{i:Int}:∀{as:List Int},JW (.int i) (as.map .int)=bc↔i∈as
 |[]=>by simp
 |a::as=>by rw[Bg,Wd,Ir,lg,decide_eq_true_eq,HH (as:=as),Ak];exact⟨λh=>h.imp Eq.symm id,λh=>h.imp Eq.symm id⟩
def nE(ps:List (Int×Int))(left:List Int)(r:Int)(g:ps.length<16777216):ZB 2 2 (GP 2 3) (QI (fB (f2 XN (fV 3) (fV 1))) (fB (f2 (Z4 bd) (fV 2) (fO 0)))) (fC (.int 1)) (ps.map ZX) [] [.ow (.lst (left.map .int)),.va (.int r)]=ba (((ps.map ZX).filter (pw left r)).map λ_=>.int 1,[.ow (.lst (left.map .int)),.va (.int r)]):=by
 have e:∀a:Int,Z4 bd (.int a) (.lst (left.map .int))=ba (.bl (JW (.int a) (left.map .int))):=λa=>by rw[HR (j:=0) (k:=0) YE (UC left)];simp
 have:=QO 2 (QI (fB (f2 XN (fV 3) (fV 1))) (fB (f2 (Z4 bd) (fV 2) (fO 0)))) (pw left r) (fC (.int 1)) (λ_=>.int 1) [.ow (.lst (left.map .int)),.va (.int r)] rfl (ps.map ZX) [] (λd h=>by
  obtain⟨⟨a,b⟩,_,rfl⟩:=Dw.mp h;refine⟨.int a,.int b,rfl,?_,λ_=>by simp⟩;have hi:=e a;have c:pw left r (ZX (a,b))=(decide (b=r)&&JW (.int a) (left.map .int)):=rfl;rw[c];generalize left.map cV.int=L at*;by_cases f:b=r
  ·simp[f,hi]
  ·simp[f]) (by simpa using g)
 simpa using this
def CZ{ds:List cV}:eqD (.lst ds) (.lst [])=ds.isEmpty:=by cases ds<;>rfl
def rdD(ps:List (Int×Int))(left:List Int):cV->Bool
 |.int r=>((ps.map ZX).filter (pw left r)).isEmpty
 |_=>bd
theorem M6{x:Int}:∀{ns:List Int},x∈ns->∃j,VD x ns=ba j/\ns.eraseIdx j=ns.erase x
 | i :: ns,h => by
  unfold VD;by_cases e:i=x
  ·rw[if_pos e];exact⟨0,rfl,by simp[e]⟩
  ·rw[if_neg e]
   obtain⟨j,h1,h2⟩:=M6 (ns:=ns) (by
    rcases Ak.mp h with z|z
    ·exact absurd z.symm e
    ·exact z)
   refine⟨j+1,by rw[h1];rfl,?_⟩;rw[List.eraseIdx_cons_succ,h2,List.erase_cons_tail (by simpa using e)]
def k8{x:Int}{ns:List Int}(h:x∈ns):mRem (ns.map .int) [.int x]=ba ((ns.erase x).map .int):=by obtain⟨j,h1,h2⟩:=M6 h;show(UY (ns.map .int)).bind (λns=>(VD x ns).map λj=>(ns.eraseIdx j).map cV.int)=_;rw[PN,Av,h1,Go,h2]
def BV{ps:List (Int×Int)}{left:List Int}{r:Int}:rdD ps left (.int r)=bc↔ ∀p∈ps,p.2=r->p.1∉left:=by
 show((ps.map ZX).filter (pw left r)).isEmpty=bc↔_;rw[Rg,List.filter_eq_nil_iff];constructor
 ·intro h p a b hl
  have:=h (ZX p) (Dw.mpr ⟨p,a,rfl⟩)
  refine this ?_;show(decide (p.2=r)&&JW (.int p.1) (left.map .int))=bc;rw[HH.mpr hl,b];simp
 ·intro h d c z
  obtain⟨p,a,rfl⟩:=Dw.mp c;have z:(decide (p.2=r)&&JW (.int p.1) (left.map .int))=bc:=z;rw[Af,decide_eq_true_eq,HH]at z;exact h p a z.1 z.2
def pA(ps:List (Int×Int))(left:List Int)(e:ps.length<16777216)(a:left.length<16777216):ZB 2 1 (gN 2) (fB (f2 XN (aZ [1,2] 2 (YQ (fV 0)) (GU 2 (a7 (gN 2) (a7 (gN 3) W8))) (QI (fB (f2 XN (fV 3) (fV 1))) (fB (f2 (Z4 bd) (fV 2) (fO 0)))) (fC (.int 1))) (ZG bU))) (fV 2) (left.map .int) [] [.va (.lst (ps.map ZX)),.ow (.lst (left.map .int))]=ba ((left.filter λr=>rdD ps left (.int r)).map .int,[.va (.lst (ps.map ZX)),.ow (.lst (left.map .int))]):=by
 have:=NM 2 (fB (f2 XN (aZ [1,2] 2 (YQ (fV 0)) (GU 2 (a7 (gN 2) (a7 (gN 3) W8))) (QI (fB (f2 XN (fV 3) (fV 1))) (fB (f2 (Z4 bd) (fV 2) (fO 0)))) (fC (.int 1))) (ZG bU))) (rdD ps left) (fV 2) id [.va (.lst (ps.map ZX)),.ow (.lst (left.map .int))] rfl (left.map .int) [] (λd b=>by
  obtain⟨r,_,rfl⟩:=Dw.mp b;refine⟨?_,λ_=>by simp⟩;have w:=nE ps left r e;have c:XN (.lst (((ps.map ZX).filter (pw left r)).map λ_=>cV.int 1)) (.lst [])=ba (.bl (rdD ps left (.int r))):=by
   rw[o6 (j:=1) (k:=1) (YF λd b=>by obtain⟨_,_,rfl⟩:=Dw.mp b;exact YE) (YF Y2),CZ,List.isEmpty_map]
   rfl
  generalize ((ps.map ZX).filter (pw left r)).map (λ_=>cV.int 1)=W at*;generalize rdD ps left (.int r)=B at*;generalize left.map cV.int=L at*;generalize ps.map ZX=Q at*;simp[aQ,w,c]) (by simpa using a)
 rw[this,List.filter_map];simp[Function.comp_def]
def mn(ns:List Int)(n:Nat)(c:cV)(ps:List (Int×Int))(left made:List Int)(k:Sl)(hl:ns.length<=63)(G:n<800000)(h:left≠[])(g:left.Pairwise (· < ·))(i:∀p∈ps,p.1<p.2)(y:left.length<1000)(v:made.length<1000)(s:ps.length<10000):∃x∈left,(∀p∈ps,p.2=x->p.1∉left)/\∃e,ZL (ost ns n c ps left made k)=ba (.nx (ost ns (n+1) c ps (left.erase x) (made++[x]) e)):=by
 have q:=pA ps left (by lia) (by lia);have C:0<((left.filter λr=>rdD ps left (.int r)).map cV.int).length:=by
  match left,h,g with
  |a::t,_,g=>
   have:a∈((a::t).filter λr=>rdD ps (a::t) (.int r)):=by
    refine Ij.mpr ⟨Ax,BV.mpr λp u A hi=>?_⟩;have h1:=i p u;rw[A]at h1;rcases Ak.mp hi with z|z
    ·lia
    ·have:=(List.pairwise_cons.mp g).1 _ z
     lia
   rw[Ce];exact List.length_pos_of_mem this
 obtain⟨d,B,F⟩:=WI ns n ((left.filter λr=>rdD ps left (.int r)).map .int) hl (by lia) C;obtain⟨x,o,rfl⟩:=Dw.mp B;obtain⟨b,f⟩:=Ij.mp o;have w:=k8 b;have j:=QH (made.map cV.int) (.int x);have l:made.length<16777216:=by lia
 refine⟨x,b,BV.mp f,.va (.lst ((left.filter λr=>rdD ps left (.int r)).map .int)),?_⟩;unfold ZL;simp only[ost,Ix,Bg,Ey];generalize (left.filter λr=>rdD ps left (.int r)).map cV.int=R at*;generalize (left.erase x).map cV.int=E at*;generalize left.map cV.int=L at*;generalize ps.map ZX=Q at*;have m:(made.map cV.int).length<16777216:=by simpa using l
 generalize made.map cV.int=D at*;simp[aQ,q,F,w,j,m]
theorem BH(ns:List Int)(b:cV)(ps:List (Int×Int))(hl:ns.length<=63)(l:∀p∈ps,p.1<p.2)(h:ps.length<10000):∀(f n:Nat) (left made:List Int) (d:Sl),left.length=f->n+f<700000->left.Pairwise (· < ·)->made.length+left.length<1000->(∀p∈ps,p.1∈made∨p.1∈left)->(∀p∈ps,∀k:Nat,made[k]?=ba p.2->p.1∈made.take k)->∃(order:List Int) (c:Sl),order.Perm (made++left)/\(∀p∈ps,∀k:Nat,order[k]?=ba p.2->p.1∈order.take k)/\aM (fB (f2 UH (fO 4) (ZG bU))) ZL (f+1) (ost ns n b ps left made d)=ba (.nx (ost ns (n+f) b ps [] order c))
 |0,n,left,made,d,o,A,q,B,h1,h2=>by
  have:left=[]:=Gy.mp o
  subst this;refine⟨made,d,by simp,h2,NI ?_⟩;have e:UH (.lst []) (.lst [])=ba (.bl bd):=by rw[BB (j:=1) (k:=1) (YF Y2) (YF Y2),CZ];rfl
  simp[ost,e]
 | f + 1,n,left,made,d,o,A,q,B,h1,h2 => by
  have i:left≠[]:=λz=>by rw[z]at o;simp at o
  obtain⟨x,t,y,u,E⟩:=mn ns n b ps left made d hl (by lia) i q l (by lia) (by lia) h;have C:=List.length_erase_of_mem t;obtain⟨order,c,w,v,D⟩:=BH ns b ps hl l h f (n+1) (left.erase x) (made++[x]) u (by lia) (by lia) (q.sublist (List.erase_sublist)) (by simp;lia) (λp a=>by
   rcases h1 p a with z|z
   ·exact .inl (Dh.mpr (.inl z))
   ·by_cases g:p.1=x
    ·exact .inl (by simp[g])
    ·exact .inr ((List.mem_erase_of_ne g).mpr z)) (λp a k m=>by
   by_cases s:k<made.length
   ·rw[Ar s]at m
    rw[Eg (by lia)];exact h2 p a k m
   ·have F:=(Ai.mp m).1
    simp at F;have:k=made.length:=by lia
    subst this;simp at m;have r:=y p a m.symm;rw[Te];exact(h1 p a).resolve_right r)
  refine⟨order,c,?_,v,?_⟩
  ·refine w.trans ?_
   rw[Ay,List.singleton_append];exact(List.perm_cons_erase t).symm.append_left made
  ·have e:UH (.lst (left.map .int)) (.lst [])=ba (.bl bc):=by
    rw[BB (j:=1) (k:=1) (YF (UC left)) (YF Y2),CZ];cases left with
    |nil=>exact absurd rfl i
    |cons=>rfl
   rw[GK (δ1:=ost ns n b ps left made d) (by simp[ost,e]) E,D,show n+1+f=n+(f+1) by lia]
def jO{f:VF}{δ δ1:Ev}{j:Int}(h:f δ=ba (.int j,δ1))(a:0<=j)(h1:j<=16777216):S9 f δ=ba (.lst (Y4 0 j.toNat),δ1):=by unfold S9;rw[h,Av];exact if_pos ⟨a,h1⟩
def rgI(k:Nat):List Int:=(Au k).map λi:Nat=>(i:Int)
def lO(k:Nat):Y4 0 k=(rgI k).map .int:=by simp[Y4,rgI]
def BY{k:Nat}{a:Int}:a∈rgI k↔0<=a/\a<k:=by
 unfold rgI;rw[Dw];constructor
 ·rintro ⟨i,hi,rfl⟩
  have:=Dm.mp hi
  lia
 ·rintro ⟨b,h1⟩
  exact⟨a.toNat,Dm.mpr (by lia),by lia⟩
def DQ(k:Nat):(rgI k).Pairwise (· < ·):=Me _ (λa b h=>by lia) (List.pairwise_lt_range)
def IE(k:Nat):(rgI k).length=k:=by simp[rgI]
def eT(ns:List Int)(n:Nat){sure:Int}{rows:List cV}{kds:List Kd}(hl:ns.length<=63)(m:n<500000)(h:Bl [] rows kds)(b:rows.length<=40):∃(ps:List (Int×Int)) (order:List Int),Prs rows ps/\order.Perm (rgI rows.length)/\(∀p∈ps,∀k:Nat,order[k]?=ba p.2->p.1∈order.take k)/\Y5 [X3 ns,XW n,.tup [.int sure,.tup rows]]=ba (.lst (order.map .int),[XW (n+rows.length)]):=by
 obtain⟨ps,P,f,em⟩:=oT (sure:=sure) h b;obtain⟨order,l,d,c,e⟩:=BH ns (.tup [.int sure,.tup rows]) ps hl (λp a=>(P.lt p a).2.1) (by lia) rows.length n (rgI rows.length) [] .no (IE _) (by lia) (DQ _) (by simp[IE];lia) (λp a=>.inr (BY.mpr ⟨(P.lt p a).1,by have:=P.lt p a;lia⟩)) (λp a k g=>by simp at g);refine⟨ps,order,P,by simpa using d,c,?_⟩;have e:=P2 e;simp only[ost,Ey]at e;have i:S9 (f1 Z0 (f2 bT (fV 2) (fC (.int 1)))) [.va (X3 ns),.ow (XW n),.va (.tup [.int sure,.tup rows]),.no,.no,.no,.no]=ba (.lst ((rgI rows.length).map .int),[.va (X3 ns),.ow (XW n),.va (.tup [.int sure,.tup rows]),.no,.no,.no,.no]):=by rw[<-lO,jO (j:=(rows.length:Int)) (δ1:=[.va (X3 ns),.ow (XW n),.va (.tup [.int sure,.tup rows]),.no,.no,.no,.no]) (by simp) (by lia) (by lia)];simp
 unfold Y5;rw[bG,YC.eq_1];generalize (rgI rows.length).map cV.int=L at*;generalize order.map cV.int=O at*;generalize ps.map ZX=Q at*;simp[bA,em,i,e]
def Z3.strong{M:Int->Prop}{f:cV}(h:Z3 M f):∃as:List Int,(∀a∈as,M a)/\Z3 (· ∈as) f/\ZU [f]=ba (.lst (as.map .int),[]):=by
 cases h with
 | @number n e h1=>exact⟨[],(λ_ h=>nomatch h),.number e h1,by kernel_rfl⟩
 | @two x a b g d i=>
  refine⟨[a,b],by simp[d,i],.two g (by simp) (by simp),?_⟩;simp only[Ak,Be,or_false]at g;rcases g with rfl|rfl|rfl|rfl|rfl|rfl|rfl<;>kernel_rfl
 | @pick c a b hc d i=>exact⟨[c,a,b],by simp[hc,d,i],.pick (by simp) (by simp) (by simp),by kernel_rfl⟩
 | @load p e h1=>exact⟨[],(λ_ h=>nomatch h),.load e h1,by kernel_rfl⟩
 | @take p c a e h1 hc d=>exact⟨[c,a],by simp[hc,d],.take e h1 (by simp) (by simp),by kernel_rfl⟩
 | @store p a e h1 d=>exact⟨[a],by simp[d],.store e h1 (by simp),by kernel_rfl⟩
 | @put p a c e h1 d hc=>exact⟨[a,c],by simp[d,hc],.put e h1 (by simp) (by simp),by kernel_rfl⟩
def DP{as:List Int}{j:cV}(h:Z3 (· ∈as) j){ks:List aK}{vs:List cV}(e:Int->Int)(f:∀a∈as,aV ks vs (.inl a)=ba (.int (e a))):∃l,bK [j,.dct ks vs]=ba (l,[])/\Z3 (λb=>∃a∈as,b=e a) l/\NS .w l=NS .w j:=by
 cases h with
 | @number n g h1=>
  refine⟨_,?_,.number g h1,rfl⟩;unfold bK;rw[bG];unfold aI;simp[bA]
 | @two x a b i d k=>
  have s:=(dne i (y:= "number") (by decide)).1;have r:=(dne i (y:= "load") (by decide)).2;have q:=(dne i (y:= "take") (by decide)).2;have o:=(dne i (y:= "store") (by decide)).2;have m:=(dne i (y:= "put") (by decide)).2;refine⟨.tup [.str x,.int (e a),.int (e b)],?_,.two i ⟨a,d,rfl⟩ ⟨b,k,rfl⟩,?_⟩
  ·unfold bK
   rw[bG];unfold aI;simp[bA,s,r,q,o,m,aQ,f a d,f b k]
  ·simp only[Ak,Be,or_false]at i
   rcases i with rfl|rfl|rfl|rfl|rfl|rfl|rfl<;>rfl
 | @pick c a b hc d k=>
  refine⟨.tup [.str "pick",.int (e c),.int (e a),.int (e b)],?_,.pick ⟨c,hc,rfl⟩ ⟨a,d,rfl⟩ ⟨b,k,rfl⟩,rfl⟩;unfold bK;rw[bG];unfold aI;simp[bA,aQ,f a d,f b k,f c hc]
 | @load p g h1=>
  refine⟨.tup [.str "load",.int p],?_,.load g h1,rfl⟩;unfold bK;rw[bG];unfold aI;simp[bA,aQ]
 | @take p c a g h1 hc d=>
  refine⟨.tup [.str "take",.int p,.int (e c),.int (e a)],?_,.take g h1 ⟨c,hc,rfl⟩ ⟨a,d,rfl⟩,rfl⟩;unfold bK;rw[bG];unfold aI;simp[bA,aQ,f a d,f c hc]
 | @store p a g h1 d=>
  refine⟨.tup [.str "store",.int p,.int (e a)],?_,.store g h1 ⟨a,d,rfl⟩,rfl⟩;unfold bK;rw[bG];unfold aI;simp[bA,aQ,f a d]
 | @put p a c g h1 d hc=>
  refine⟨.tup [.str "put",.int p,.int (e a),.int (e c)],?_,.put g h1 ⟨a,d,rfl⟩ ⟨c,hc,rfl⟩,rfl⟩;unfold bK;rw[bG];unfold aI;simp[bA,aQ,f a d,f c hc]
theorem Bl.at{kds e:List Kd}{rows:List cV}(h:Bl kds rows e):∀{j:Nat}{b:cV},rows[j]?=ba b->Z3 (λa=>Nm e .w a/\a<kds.length+j) b/\e[kds.length+j]?=ba (NS .w b)/\∀a,Nm kds .w a->Nm e .w a:=by
 have keep:∀{k k':List Kd}{g:List cV},Bl k g k'->∀(i:Nat) (x:Kd),k[i]?=ba x->k'[i]?=ba x:=by
  intro k k' g h;induction h with
  |nil=>exact λ_ _ z=>z
  |cons _ _ f=>exact λi x z=>f i x (by rw[Ar (Ai.mp z).1];exact z)
 induction h with
 |nil=>intro j b d;simp at d
 | @cons kds e r rows a t f=>
  intro j b d;cases j with
  |zero=>
   simp at d;subst d;refine⟨a.imp λx c=>⟨⟨c.1,keep t _ _ (c.snoc (j:=NS .w r)).2⟩,by have:=c.lt;lia⟩,keep t _ _ (by simp),λx c=>⟨c.1,keep t _ _ (c.snoc (j:=NS .w r)).2⟩⟩
  |succ j=>
   obtain⟨h1,h2,l⟩:=f (by simpa using d);rw[Cs,Jx]at h1 h2;refine⟨h1.imp λx c=>⟨c.1,by have:=c.2;lia⟩,by rw[show kds.length+(j+1)=kds.length+1+j by lia];exact h2,λx c=>l x c.snoc⟩
noncomputable def swD:cV->cV
 |.tup [a,b]=>.tup [b,a]
 |_=>.non
noncomputable def kvz:Nat->List Int->List (aK×cV)
 |_,[]=>[]
 |k,x::xs=>(.inl x,.int (k:Int))::kvz (k+1) xs
theorem EW:∀(xs:List Int) (k:Nat),QX ((YB k (xs.map .int)).map swD)=ba (kvz k xs)
 |[],_=>rfl
 |x::xs,k=>by rw[Bg,PD,Bg];show(kprD (.tup [.int x,.int (k:Int)])).bind (λp=>(QX ((YB (k+1) (xs.map .int)).map swD)).map λps=>p::ps)=_;rw[EW xs (k+1)];rfl
theorem NR:∀(xs:List Int) (k:Nat),(kvz k xs).map Dk=xs.map .inl
 |[],_=>rfl
 |x::xs,k=>by rw[kvz,Bg,NR xs (k+1)];rfl
theorem A0:∀(xs:List Int) (k i:Nat),i<xs.length->((kvz k xs).map Er)[i]?=ba (.int ((k+i:Nat):Int))
 |[],_,i,h=>by simp at h
 |x::xs,k,0,_=>rfl
 |x::xs,k,i+1,h=>by
  have:=A0 xs (k+1) i (by simpa using h)
  rw[kvz,Bg,List.getElem?_cons_succ,this];congr 3;lia
def fG{order:List Int}(c:order.Nodup){a:Int}(d:a∈order):aV ((kvz 0 order).map Dk) ((kvz 0 order).map Er) (.inl a)=ba (.int (order.idxOf a:Int)):=by
 have hi:order.idxOf a<order.length:=La d;rw[E4 _ _ (order.idxOf a) (.inl a) ?_ (by simp) ?_,A0 _ _ _ hi]
 ·simp
 ·rw[NR]
  exact Me _ (λa b h e=>h (by injection e)) c
 ·rw[NR,Cg,Bm hi,Ps hi]
  rfl
def UZ(rows:List cV)(r:Int):cV:=(rows[r.toNat]?).getD .non
noncomputable def DO(rows:List cV)(names:cV):cV->cV
 |.int r=>match bK [UZ rows r,names]with
  |some (d,_)=>d
  |none=>.non
 |_=>.non
def BW{rows os:List cV}{names a:cV}{r:Int}(e:bK [UZ rows r,names]=ba (a,os)):DO rows names (.int r)=a:=by simp only[DO,e]
def HA(order:List Int):cV:=.dct ((kvz 0 order).map Dk) ((kvz 0 order).map Er)
def Xn{rows:List cV}{kds:List Kd}(o:Bl [] rows kds){ps:List (Int×Int)}(P:Prs rows ps){order:List Int}(s:order.Perm (rgI rows.length))(x:∀p∈ps,∀k:Nat,order[k]?=ba p.2->p.1∈order.take k){c rest:List Int}{r:Int}(g:order=c++r::rest):∃j,bK [UZ rows r,HA order]=ba (j,[])/\SQ rows r=ba (UZ rows r)/\Z3 (Nm (c.map λa=>NS .w (UZ rows a)) .w) j/\NS .w j=NS .w (UZ rows r):=by
 have y:order.Nodup:=s.nodup_iff.mpr ((DQ _).imp λh=>by lia);have z:r∈order:=by rw[g];simp
 have l:=BY.mp (s.mem_iff.mp z);have q:rows[r.toNat]?=ba (UZ rows r):=by unfold UZ;rw[Bm (by lia)];rfl
 obtain⟨h1,h2,_⟩:=o.at q;obtain⟨as,v,E,D⟩:=h1.strong;have u:∀a∈as,a∈c:=λa d=>by
  have f:=v a d;have F:a<r:=by have:=f.2;simp at this;lia
  have A:=P.nm r.toNat _ as q D a d f.1.1 (by lia);have:=x _ A c.length (by rw[g];simp;lia)
  rw[g,Te]at this;exact this
 obtain⟨j,e,ok,mk⟩:=DP E (ks:=(kvz 0 order).map Dk) (vs:=(kvz 0 order).map Er) (λa=>(order.idxOf a:Int)) (λa d=>fG y (by rw[g];exact Dh.mpr (.inl (u a d))));refine⟨j,e,by rw[T3 l.1 (by lia)];exact q,ok.imp λb n=>?_,mk⟩;obtain⟨a,d,rfl⟩:=n;have i:=u a d;have hi:c.idxOf a<c.length:=La i;have m:order.idxOf a=c.idxOf a:=by rw[g,List.idxOf_append,if_pos i]
 refine⟨by lia,?_⟩;rw[m,Jj,Cg,Bm hi,Ps hi];have f:=(v a d).1;have B:=f.lt;have G:kds.length=rows.length:=by simpa using o.len
 have C:rows[a.toNat]?=ba (UZ rows a):=by unfold UZ;rw[Bm (by have:=f.1;lia)];rfl
 obtain⟨_,t,_⟩:=o.at C;simp only[Nh,Jv]at t;have:=f.2
 rw[t]at this;injection this with this;rw[Go,this]
theorem dH{rows:List cV}{kds:List Kd}(g:Bl [] rows kds){ps:List (Int×Int)}(P:Prs rows ps){order:List Int}(f:order.Perm (rgI rows.length))(d:∀p∈ps,∀k:Nat,order[k]?=ba p.2->p.1∈order.take k):∀(rest b:List Int),order=b++rest->Bl (b.map λa=>NS .w (UZ rows a)) ((rest.map .int).map (DO rows (HA order))) (order.map λa=>NS .w (UZ rows a))
 |[],b,c=>by rw[c,Ep];exact .nil
 |r::rest,b,c=>by obtain⟨j,e,_,ok,mk⟩:=Xn g P f d c;have i:=BW e;have h:=dH g P f d rest (b++[r]) (by rw[c,Ay];rfl);rw[Bg,Bg,i];refine .cons ok ?_;rw[mk];simpa using h
def nC(ns:List Int)(n:Nat)(c:Int)(hl:ns.length<=63)(hn:n<100000)(h0:0<=c)(V:c<=40):∃(sure:Int) (rows:List cV) (kds:List Kd) (u:Nat),Bl [] rows kds/\(rows.length:Int)<=c/\0<=sure/\sure<=64/\u<=n+1000/\YL [X3 ns,XW n,.int c]=ba (.tup [.int sure,.tup rows],[XW u]):=by
 obtain⟨x,w,ex⟩:=WI ns n [.int 3,.int 6,.int 9,.int 64] hl (by lia) (by simp);obtain⟨f,rfl,L,K⟩:∃q:Int,x=.int q/\0<q/\q<=64:=by simp only[Ak,Be,or_false]at w;rcases w with rfl|rfl|rfl|rfl<;>exact⟨_,rfl,by lia,by lia⟩
 have H:=W3 ns (n+1) (f+1) hl (by lia) (by lia);have d1a:=MF ns (n+1) (b:=f+1) (by lia);have d1b:GS ns (n+1) (f+1)<f+1:=Fh _ (by lia);obtain⟨y,v,C⟩:=WI ns (n+2) [.int 0,.int f,.int f,.int (GS ns (n+1) (f+1))] hl (by lia) (by simp);obtain⟨sure,rfl,s,s1⟩:∃q:Int,y=.int q/\0<=q/\q<=64:=by simp only[Ak,Be,or_false]at v;rcases v with rfl|rfl|rfl|rfl<;>exact⟨_,rfl,by lia,by lia⟩
 have G:=W3 ns (n+3) (c+1) hl (by lia) (by lia);have p:=MF ns (n+3) (b:=c+1) (by lia);have Z:GS ns (n+3) (c+1)<c+1:=Fh _ (by lia);obtain⟨rows,kds,g,l,ag,m1,m2,E⟩:=eB ns (n+4) (GS ns (n+3) (c+1)) f hl (by lia) L K p (by lia);have F:=W3 ns g 3 hl (by lia) (by decide);have m:rows.length<=40:=by lia
 by_cases A:0<GS ns g 3
 ·refine ⟨sure,rows,kds,g + 1,l,by lia,s,s1,by lia,?_⟩
  unfold YL;rw[bG];unfold WF;simp[bA,ex,H,C,G,E,F,A]
 ·obtain ⟨ps,order,P,k,t,Y⟩ := eT ns (g + 1) (sure := sure) hl (by lia) l m
  have Q:order.length=rows.length:=by rw[k.length_eq,IE]
  have N:order.Nodup:=k.nodup_iff.mpr ((DQ _).imp λh=>by lia);have J:=QO 0 YK (λ_=>bc) (aH (cO (fV 1) (cO (fV 0) bU))) swD [] rfl (YB 0 (order.map .int)) [] (λd j=>by obtain⟨i,hi,e⟩:=List.getElem_of_mem j;obtain⟨z,_,rfl⟩:=MG (Ai.mpr ⟨hi,e⟩);exact⟨_,_,rfl,by simp,λ_=>by simp[swD]⟩) (by rw[MH];simp;lia)
  have f1:(YB 0 (order.map cV.int)).filter (λ_=>bc)=YB 0 (order.map .int):=List.filter_eq_self.mpr λ_ _=>rfl;rw[f1,Fs]at J;have j:A7 (.lst ((YB 0 (order.map .int)).map swD))=ba (HA order):=by
   show(QX ((YB 0 (order.map .int)).map swD)).bind (λkds=>if(kds.map Dk).Nodup then ba (cV.dct (kds.map Dk) (kds.map Er))else bb)=_;rw[EW,Av,if_pos]
   ·rfl
   ·rw[NR]
    exact Me _ (λa b h e=>h (by injection e)) N
  have I:=ME 2 (cK 2 [] bK (aE (f2 bT (f2 bT (fV 0) (fC (.int 1))) (fV 2)) (aE (fV 1) cE))) [.va (.tup [.int sure,.tup rows]),.va (HA order)] (DO rows (HA order)) rfl (order.map .int) [] (λd j=>by obtain⟨r,O,rfl⟩:=Dw.mp j;obtain⟨M,rest,T⟩:=List.append_of_mem O;obtain⟨bq,e,X,_,_⟩:=Xn l P k t T;have W:=BW e;rw[W];simp[X,e]) (by simp;lia)
  rw[Fs]at I;have B:=dH l P k t order [] rfl;refine⟨sure,(order.map .int).map (DO rows (HA order)),_,g+1+rows.length,B,by simp;lia,s,s1,by lia,?_⟩;have o:¬0<GS ns g 3:=A;unfold YL;rw[bG];unfold WF;have U:((order.map cV.int).map (DO rows (HA order))).length<=16777216:=by simp;lia
  generalize (order.map cV.int).map (DO rows (HA order))=R at*;generalize (YB 0 (order.map cV.int)).map swD=S at*;generalize HA order=D at*;simp[bA,ex,H,C,G,E,F,o,Y,aQ,J,j,I]
noncomputable def KG:List cV:=[.non,.int 5,.tup [],.tup [.int 0],.tup [.int 0,.lst []],.lst [.int 0,.tup []],.tup [.int (-1),.tup []],.tup [.int 65,.tup []],.tup [.bl bc,.tup []],.tup [.str "0",.tup []],.tup [.int 0,.tup [],.tup []],.tup [.int 0,.tup [.tup []]],.tup [.int 0,.tup [.tup [.str "number"]]],.tup [.int 0,.tup [.tup [.str "number",.int 1000]]],.tup [.int 0,.tup [.tup [.str "plus",.int 0,.int 0]]],.tup [.int 0,.tup [.lst [.str "load",.int 0]]],.tup [.int 0,.tup [.tup [.str "load",.int 64]]],.tup [.int 0,.tup [.tup [.str "load",.int (-1)]]],.tup [.int 0,.tup [.tup [.str "halve",.int 0]]],.tup [.int 0,.tup [.tup [.int 5,.int 0]]],.tup [.int 0,.tup [.tup [.str "number",.int 1],.tup [.str "store",.int 0,.int 0],.tup [.str "plus",.int 0,.int 1]]],.tup [.int 0,.tup (As 41 (.tup [.str "number",.int 1]))],.tup [.int 0,.tup [.tup [.str "number",.int 1],.tup [.str "plus",.int 0,.int 1]]]]
def kf(a b:cV):RS [.va a,.ow b,.no]=bS (cK 3 [1] Z5 (aE (fV 0) (aO 1 (aE (fV 2) cE)))) [.va a,.ow b,.va (.lst KG)]:=by kernel_rfl
def HP(ns:List Int)(n:Nat)(hl:ns.length<=63)(b:n<900000):∃x∈KG,WO [X3 ns,XW n]=ba (x,[XW (n+1)]):=by obtain⟨x,a,ex⟩:=WI ns n KG hl b (by simp[KG]);refine⟨x,a,?_⟩;unfold WO;rw[bG,show bA [1] 3 [X3 ns,XW n]=[.va (X3 ns),.ow (XW n),.no] from rfl,kf];simp[ex]
noncomputable def isW:Kd->Bool
 |.w=>bc
 |_=>bd
def k6{kds:List Kd}{a:Int}(h:Nm kds .w a):Ab (kds.map isW) a:=⟨h.1,by rw[Cg,h.2];rfl⟩
def mkw{x:String}{t:List cV}:WY [.tup (.str x::t)]=ba (.bl (isW (NS .w (.tup (.str x::t)))),[]):=by
 unfold WY;rw[bG];unfold VA;by_cases h:x= "store"
 ·subst h
  simp[bA,WW,NS,YD,isW]
 ·by_cases h2:x= "put"
  ·subst h2
   simp[bA,WW,NS,YD,isW]
  ·have b : ¬ "store" = x := λz => h z.symm
   have a:¬ "put"=x:=λz=>h2 z.symm;simp[bA,WW,NS,YD,isW,h,h2,b,a]
def eN(rest:List cV)(c b:cV)(sure:Int){kds i:List Kd}{rows:List cV}(h:Bl kds rows i):kds.length+rows.length<1000->∀s:Sl,∃s',W4 (gN 4) X9 (rows++rest) [.va c,.va (.int sure),.va b,.ow (.lst ((kds.map isW).map .bl)),s]=W4 (gN 4) X9 rest [.va c,.va (.int sure),.va b,.ow (.lst ((i.map isW).map .bl)),s']:=by
 induction h with
 |nil=>exact λ_ s=>⟨s,rfl⟩
 | @cons kds i f rows ok h d=>
  intro j s;obtain⟨s',d⟩:=d (by simp at j⊢;lia) (.va f);refine⟨s',?_⟩;have e:=pT (ok.imp λa=>k6);obtain⟨x,t,rfl,_⟩:=Q6 ok;have g:kds.length<16777216:=by simp at j;lia
  rw[Ix,Ix]at d;simp only[Bg,Ey]at d;rw[Hz,PF,gN_e,KQ];have k:X9 [.va c,.va (.int sure),.va b,.ow (.lst ((kds.map isW).map .bl)),.va (.tup (.str x::t))]=ba (.nx [.va c,.va (.int sure),.va b,.ow (.lst ((kds.map isW).map .bl++[.bl (isW (NS .w (.tup (.str x::t))))])),.va (.tup (.str x::t))]):=by unfold X9;simp only[Qx]at e;simp[e,mkw,g,cV.hard]
  have s1:([.va c,.va (.int sure),.va b,.ow (.lst ((kds.map isW).map .bl)),s]:Ev).set 4 (.va (.tup (.str x::t)))=[.va c,.va (.int sure),.va b,.ow (.lst ((kds.map isW).map .bl)),.va (.tup (.str x::t))]:=rfl;rw[s1,k,KS];exact d
def C5{sure:Int}{rows:List cV}{kds:List Kd}(h:Bl [] rows kds)(c:0<=sure)(s1:sure<=64)(d:rows.length<=40):ZO [.tup [.int sure,.tup rows]]=ba (.bl bc,[]):=by
 obtain⟨s',b⟩:=eN [] (.tup [.int sure,.tup rows]) (.tup rows) sure h (by simp;lia) .no;rw[Ep]at b;simp only[Ey]at b;have a:¬(40:Int)<(rows.length:Int):=by lia
 unfold ZO;rw[bG,RN.eq_1];simp[bA,OD,OC,c,s1,a,b]
abbrev rf(k:Int):cV:=.tup [.str "refused",.int k]
abbrev Bk(sure:Int)(rows:List cV):cV:=.tup [.int sure,.tup rows]
def nH{δ:Ev}:BQ δ bb=bb:=(rfl)
def m8:qRet bb=bb:=(rfl)
def qS_0{g:VS}:qS bb g=bb:=(rfl)
def kS{ml:List Nat}:qRun ml bb=bb:=(rfl)
def pl2{a b:cV}:VC [.d a,.d b]=ba [a,b]:=(rfl)
def rep1(k:Nat)(d:cV):V3 k [d]=As k d:=by
 unfold V3;induction k with
 |zero=>rfl
 |succ k a=>rw[Ei,Gm,a,Ei];rfl
def Wg(d:cV)(k:Int)(a:0<=k)(h1:k<=64):WS (.lst [d]) (.int k)=ba (.lst (As k.toNat d)):=by simp only[WS];rw[if_pos ⟨⟨a,by lia⟩,by simp;lia⟩,rep1]
def DD:KG.map (λx=>(cB [.int 0,x,.non],cB [.int 1,x,.non],cB [.int 2,x,.non]))=As 23 (ba (rf 0,[]),ba (rf 0,[]),ba (rf 0,[])):=by kernel_rfl
def L9{x:cV}(a:x∈KG):(cB [.int 0,x,.non],cB [.int 1,x,.non],cB [.int 2,x,.non])=(ba (rf 0,[]),ba (rf 0,[]),ba (rf 0,[])):=
 List.eq_of_mem_replicate (DD▸Oq a)
section
variable{b w:cV}
def oN(a:ZO [b]=ba (.bl bc,[]))(hl:XX [w]=ba (.bl bd,[])):aF [b,w]=bb/\aG [b,w]=ba ((("NoLanes":Va),bb):Xw):=by
 constructor
 ·unfold aF
  rw[bG];unfold V0;simp[bA,a,hl,kS]
 ·unfold aG Q7 V7
  simp[bA,a,hl,LX,zIf,GL,zNo]
def lN(h:aF [b,w]=bb/\aG [b,w]=ba ((("NoLanes":Va),bb):Xw)):XO [b,w]=bb/\YM [b,w]=ba ((("NoLanes":Va),bb):Xw):=by
 constructor
 ·unfold XO
  rw[bG];unfold T8;simp[bA,h.1];rfl
 ·unfold YM Q7 UR
  simp[bA,h.2,LX,X6,pl2]
def eL(h:aF [b,w]=bb/\aG [b,w]=ba ((("NoLanes":Va),bb):Xw)):cB [.int 0,b,w]=ba (rf 3,[])/\cB [.int 1,b,w]=ba (rf 3,[])/\cB [.int 2,b,w]=ba (rf 3,[]):=by
 obtain⟨f1,f2⟩:=lN h;have a:QD [b,w]=bb:=by unfold QD;rw[bG];unfold HE;simp[bA,f1];rfl
 have p2:QF [b,w]=ba ((("NoLanes":Va),bb):Xw):=by unfold QF Q7 IV;simp[bA,f2,X6,pl2]
 have f:V8 [b,w]=bb:=by unfold V8;rw[bG];unfold T7;simp[bA,f1];rfl
 have e:XS [b,w]=ba ((("NoLanes":Va),bb):Xw):=by unfold XS Q7 UQ;simp[bA,f2,X6,pl2]
 have d:YW [b,w]=bb:=by unfold YW;rw[bG];unfold W5;simp[bA,h.1];rfl
 have c:ZF [b,w]=ba ((("NoLanes":Va),bb):Xw):=by unfold ZF Q7 W6;simp[bA,h.2,X6,pl2]
 have hc:WA [C0 (("NoLanes":Va),bb)]=ba (rf 3,[]):=by kernel_rfl
 refine⟨?_,?_,?_⟩<;>(unfold cB;rw[bG];unfold TC;simp[bA,sTry,FW,YD,X6,zIf,GL,LX,zNo,a,p2,f,e,d,c,hc,nH,m8,qS_0,pl2,GV])
end
def mo:cB [.int 0,.tup [.int 9,.tup (As 9 (.tup [.str "load",.int 0]))],.int 2]=ba (rf 10,[]):=by kernel_rfl
def iG:cB [.int 1,.tup [.int 9,.tup (As 9 (.tup [.str "load",.int 0]))],.int 2]=ba (rf 10,[]):=by kernel_rfl
def AL{b:cV}(a:aF [b,.int 2]=ba (.non,[])/\aG [b,.int 2]=bb)(h1:T0 [b,.int 2]=ba (.tup [],[]))(h2:OY [b,.int 2,.tup []]=ba (.tup [],[]))(e:EN [0,1] (ZG (cO (aH bU) (cO (fV 2) bU))) (cK 3 [] WB (aE (fV 0) (aE (fV 1) (aE (fV 2) cE)))) [.va b,.va (.int 2),.va (.tup []),.va (.tup [])]=ba (.tup [],[.va b,.va (.int 2),.va (.tup []),.va (.tup [])])):cB [.int 2,b,.int 2]=ba (.tup [],[]):=by
 have w:VJ (fB (f2 UH (fV 3) (fV 2))) T4 [.va b,.va (.int 2),.va (.tup []),.va (.tup [])]=ba (.nx [.va b,.va (.int 2),.va (.tup []),.va (.tup [])]):=P2 (n:=1) (by kernel_rfl);have d:YW [b,.int 2]=ba (.tup [],[]):=by unfold YW;rw[bG];unfold W5;simp[bA,a.1,h1,h2,w,e]
 have c:ZF [b,.int 2]=bb:=by unfold ZF Q7 W6;simp[bA,a.2,X6,pl2]
 unfold cB;rw[bG];unfold TC;simp[bA,sTry,FW,d,c,X6,zIf,GL,LX,zNo,pl2]
def oE:cB [.int 2,.tup [.int 9,.tup (As 9 (.tup [.str "load",.int 0]))],.int 2]=ba (.tup [],[]):=AL ⟨by kernel_rfl,by kernel_rfl⟩ (by kernel_rfl) (by kernel_rfl) (by kernel_rfl)
def oJ:cB [.int 0,.tup [.int 9,.tup (As 8 (.tup [.str "number",.int 5]))],.int 2]=ba (.lst [],[]):=by kernel_rfl
def eI:cB [.int 1,.tup [.int 9,.tup (As 8 (.tup [.str "number",.int 5]))],.int 2]=ba (.tup [],[]):=by kernel_rfl
def iY:cB [.int 2,.tup [.int 9,.tup (As 8 (.tup [.str "number",.int 5]))],.int 2]=ba (.tup [],[]):=AL ⟨by kernel_rfl,by kernel_rfl⟩ (by kernel_rfl) (by kernel_rfl) (by kernel_rfl)
noncomputable def gl1:VS:=(bH 1 (xO (ZG bU)))
noncomputable def gl2:VS:=(X4 (fB (f2 UH (aZ [0,1] 1 (HG (fC (.int 3))) (gN 2) YK (cK 3 [] cB (aE (fV 2) (aE (cK 2 [1] WO (aE (fV 0) (aO 1 cE))) (aE (fC .non) cE))))) (f2 WS (fC (.lst [.tup [.str "refused",.int 0]])) (fC (.int 3))))) (bS (fC (.bl bd))) aL)
noncomputable def gl3:VS:=(bH 2 (xV (cK 3 [1] YL (aE (fV 0) (aO 1 (aE (fC (.int 20)) cE))))))
noncomputable def gl4:VS:=(VH (YQ (fC (.lst [.non,.int 1,.int 5,.str "2",.bl bc,.lst [.int 2]]))) (gN 3) QJ)
noncomputable def gl5:VS:=(bH 4 (xV (aH (cO (fC (.int 9)) (cO (f2 WS (fC (.tup [.tup [.str "load",.int 0]])) (fC (.int 9))) bU)))))
noncomputable def gl6:VS:=(X4 (GR (fB (f2 UH (aZ [4] 1 (HG (fC (.int 2))) (gN 1) YK (cK 3 [] cB (aE (fV 1) (aE (fV 0) (aE (fC (.int 2)) cE))))) (f2 WS (fC (.lst [.tup [.str "refused",.int 10]])) (fC (.int 2))))) (fB (f2 UH (cK 3 [] cB (aE (fC (.int 2)) (aE (fV 4) (aE (fC (.int 2)) cE)))) (aH bU)))) (bS (fC (.bl bd))) aL)
noncomputable def gl7:VS:=(bH 5 (xV (aH (cO (fC (.int 9)) (cO (f2 WS (fC (.tup [.tup [.str "number",.int 5]])) (fC (.int 8))) bU)))))
noncomputable def gl8:VS:=(bS (f2 XN (aZ [5] 1 (HG (fC (.int 3))) (gN 1) YK (cK 3 [] cB (aE (fV 1) (aE (fV 0) (aE (fC (.int 2)) cE))))) (fC (.lst [.lst [],.tup [],.tup []]))))
def mC:Vy=cG gl1 (cG gl2 (cG gl3 (cG gl4 (cG gl5 (cG gl6 (cG gl7 gl8)))))):=rfl
def Zb{d:cV}{l:List cV}(h:P8 2 (.lst l))(e:d=.lst l):UH d (.lst l)=ba (.bl bd):=by subst e;rw[BB h h,nq h];rfl
def okr(k:Int):P8 1 (rf k):=Q1 (a8 Y1 (a8 YE Y2))
def ne_3(k:Int):UH (.lst [rf k,rf k,rf k]) (.lst [rf k,rf k,rf k])=ba (.bl bd):=Zb (YF (a8 (okr k) (a8 (okr k) (a8 (okr k) Y2)))) rfl
def ne_2(k:Int):UH (.lst [rf k,rf k]) (.lst [rf k,rf k])=ba (.bl bd):=Zb (YF (a8 (okr k) (a8 (okr k) Y2))) rfl
section
variable{B:VS}{a T b s3 s4 s5:Sl}{w d e f N:cV}{ds:List cV}{r:Option Ou}
def JR(h:B [a,T,b,.va w,s4,s5]=ba (.nx [a,T,b,.va w,s4,s5]))(k:W4 (gN 3) B ds [a,T,b,.va w,s4,s5]=r):W4 (gN 3) B (w::ds) [a,T,b,s3,s4,s5]=r:=by rw[PF,show gN 3 w [a,T,b,s3,s4,s5]=ba [a,T,b,.va w,s4,s5] from rfl,KQ,h,KS,k]
def pI{b:cV}(d:ZO [b]=ba (.bl bc,[]))(hl:XX [w]=ba (.bl bd,[])):QJ [a,T,.va b,.va w,s4,s5]=ba (.nx [a,T,.va b,.va w,s4,s5]):=by obtain⟨a0,f,e⟩:=eL (oN d hl);have r:=Wg (rf 3) 3 (by decide) (by decide);rw[show(3:Int).toNat=3 from rfl]at r;have c:=ne_3 3;unfold QJ;simp[a0,f,e,aQ,ZM,r,c]
def mX(h:cB [.int 0,N,.int 2]=ba (rf 10,[])/\cB [.int 1,N,.int 2]=ba (rf 10,[])/\cB [.int 2,N,.int 2]=ba (.tup [],[])):gl6 [a,T,b,s3,.va N,s5]=ba (.nx [a,T,b,s3,.va N,s5]):=by
 obtain⟨e,h1,h2⟩:=h;have r:=Wg (rf 10) 2 (by decide) (by decide);rw[show(2:Int).toNat=2 from rfl]at r;have c:=ne_2 10;have d:UH (.tup []) (.tup [])=ba (.bl bd):=by kernel_rfl
 unfold gl6;simp[e,h1,h2,aQ,ZM,r,c,d]
def oF(h:cB [.int 0,N,.int 2]=ba (.lst [],[])/\cB [.int 1,N,.int 2]=ba (.tup [],[])/\cB [.int 2,N,.int 2]=ba (.tup [],[])):gl8 [a,T,b,s3,s4,.va N]=ba (.rt (.bl bc) [a,T,b,s3,s4,.va N]):=by
 obtain⟨d,h1,h2⟩:=h;have c:XN (.lst [.lst [],.tup [],.tup []]) (.lst [.lst [],.tup [],.tup []])=ba (.bl bc):=by kernel_rfl
 unfold gl8;simp[d,h1,h2,aQ,ZM,c]
end
end L2
namespace RR
open PySem L2
def oD(ns:List Int)(hl:ns.length<=63):IW [.lst (ns.map .int)]=ba (.bl bc,[]):=by
 obtain⟨sure,rows,kds,n,q,L,o,s1,I,D⟩:=nC ns 3 20 hl (by lia) (by lia) (by lia);have c:ZO [Bk sure rows]=ba (.bl bc,[]):=C5 q o s1 (by lia);have s:cV.lst (ns.map .int)=X3 ns:=rfl;have a:bA [] 6 [X3 ns]=[.va (X3 ns),.no,.no,.no,.no,.no]:=rfl;have C:gl1 [.va (X3 ns),.no,.no,.no,.no,.no]=ba (.nx [.va (X3 ns),.ow (XW 0),.no,.no,.no,.no]):=rfl;have B:gl2 [.va (X3 ns),.ow (XW 0),.no,.no,.no,.no]=ba (.nx [.va (X3 ns),.ow (XW 3),.no,.no,.no,.no]):=by obtain⟨G,m0,d⟩:=HP ns 0 hl (by lia);obtain⟨F,m1,f1⟩:=HP ns 1 hl (by lia);obtain⟨E,m2,f2⟩:=HP ns 2 hl (by lia);have a0:=congrArg (·.1) (L9 m0);have f:=congrArg (·.2.1) (L9 m1);have e:=congrArg (·.2.2) (L9 m2);simp only at a0 f e;have r:=Wg (rf 0) 3 (by decide) (by decide);rw[show(3:Int).toNat=3 from rfl]at r;have p:=ne_3 0;rw[Jv]at d;unfold gl2;simp[d,f1,f2,a0,f,e,aQ,ZM,r,p]
 have A:gl3 [.va (X3 ns),.ow (XW 3),.no,.no,.no,.no]=ba (.nx [.va (X3 ns),.ow (XW n),.va (Bk sure rows),.no,.no,.no]):=by unfold gl3;simp[D]
 have z:gl4 [.va (X3 ns),.ow (XW n),.va (Bk sure rows),.no,.no,.no]=ba (.nx [.va (X3 ns),.ow (XW n),.va (Bk sure rows),.va (.lst [.int 2]),.no,.no]):=by have t:∀{w:cV},XX [w]=ba (.bl bd,[])->QJ [.va (X3 ns),.ow (XW n),.va (Bk sure rows),.va w,.no,.no]=ba (.nx [.va (X3 ns),.ow (XW n),.va (Bk sure rows),.va w,.no,.no]):=λh=>pI c h;have m:=t (w:=.non) (by kernel_rfl);have l:=t (w:=.int 1) (by kernel_rfl);have k:=t (w:=.int 5) (by kernel_rfl);have j:=t (w:=.str "2") (by kernel_rfl);have i:=t (w:=.bl bc) (by kernel_rfl);have g:=t (w:=.lst [.int 2]) (by kernel_rfl);clear t;unfold gl4;rw[Yv,show∀δ,YQ (fC (.lst [.non,.int 1,.int 5,.str "2",.bl bc,.lst [.int 2]])) δ=ba ([.non,.int 1,.int 5,.str "2",.bl bc,.lst [.int 2]],δ) from λ_=>rfl,qF_s];exact JR m (JR l (JR k (JR j (JR i (JR g rfl)))))
 have y:∀{b T w:Sl},gl5 [.va (X3 ns),T,b,w,.no,.no]=ba (.nx [.va (X3 ns),T,b,w,.va (.tup [.int 9,.tup (As 9 (.tup [.str "load",.int 0]))]),.no]):=by
  intros
  kernel_rfl
 have x:∀{b T w s5:Sl},gl6 [.va (X3 ns),T,b,w,.va (.tup [.int 9,.tup (As 9 (.tup [.str "load",.int 0]))]),s5]=ba (.nx [.va (X3 ns),T,b,w,.va (.tup [.int 9,.tup (As 9 (.tup [.str "load",.int 0]))]),s5]):=mX ⟨mo,iG,oE⟩;have v:∀{b T w s4:Sl},gl7 [.va (X3 ns),T,b,w,s4,.no]=ba (.nx [.va (X3 ns),T,b,w,s4,.va (.tup [.int 9,.tup (As 8 (.tup [.str "number",.int 5]))])]):=by
  intros
  kernel_rfl
 have u:∀{b T w s4:Sl},gl8 [.va (X3 ns),T,b,w,s4,.va (.tup [.int 9,.tup (As 8 (.tup [.str "number",.int 5]))])]=ba (.rt (.bl bc) [.va (X3 ns),T,b,w,s4,.va (.tup [.int 9,.tup (As 8 (.tup [.str "number",.int 5]))])]):=oF ⟨oJ,eI,iY⟩;rw[s];unfold IW;rw[bG,a,mC];generalize Bk sure rows=K at*;generalize (cV.tup [.int 9,.tup (As 9 (.tup [.str "load",.int 0]))])=H at*;generalize (cV.tup [.int 9,.tup (As 8 (.tup [.str "number",.int 5]))])=J at*;simp[C,B,A,z,y,x,v,u]
end RR
namespace L2
open PySem PySem.Spec PyProof.Rows
def mS{P:Aw}{w:Ve}{K:Ah}{mg G:Va->Option Uw}{CX:CXT}{k:Nat}{fa a:Ux}{fd:Ci}{x:Va}{sp:Sp}{f:Ae}{vs:List Uw}{ns:List Int}(Y:K.In f.heap)(A:f.heap.Ns Vd mg)(g:f.heap.Ns builtinsNs G)(M:∀x:Va,x≠ "__name__" ->G x=Bi x)(j6:f.heap.NoLimit)(hg:f.gens= #[])(B:f.heap.get? a=ba {cls:=.type "list",data:=.seq vs.toArray})(hi:Ts vs ns)(hl:ns.length<=sizeLine)(hr:ZZ k Qd)(F:∀base:Vg,K.In base->base.Ns Vd mg->YO P w K mg base CX k fa fd [x] sp)(p:∀b o,tbIn K b=ba o->K.lookup b=bb/\∃c,f.heap.TableAt c b #[])(cx:∀(s:Ae) (u:Uw),Pz s fd ⟨[u],[]⟩ [(x,u)])(J:∀H:Hp,CL K H->X8 K H a (ns.map V.int)->sp [.ref a] H (λv H'=>v=.bl bc/\CL K H') λ_ _ _=>False)(O:∀H e s',CX [] H f (λ_ _ _=>False) e s'->False):Hg (Vb P w) Qd (.call (.ref fa) ⟨[.ref a],[]⟩) (λr s'=>r=.ok (.ret (.bool bc))/\OldK f.heap s'.heap/\s'.os=f.os/\Mg s'.gens) f:=by
 have Q:=K8 hi;have ii:=hi.length;have R: ∀H:Hp,(CL K H/\ ∀b,H b=bb∨(∃o xs,H b=ba (.frz o (.lst xs)))∨ ∃o,tbIn K b=ba o)->X8 K H a (ns.map V.int)->SW P w H f.heap->(∀b,H b≠bb->b=a∨ ∃o,tbIn K b=ba o)->(H a≠bb->K.lookup a=bb)->
   Hg (Vb P w) Qd (.call (.ref fa) ⟨[.ref a],[]⟩) (λr s'=>r=.ok (.ret (.bool bc))/\OldK f.heap s'.heap/\s'.os=f.os/\Mg s'.gens) f:=by
  intro H S hS y T hK;have X:∀{b:Ux}{o:Vi},f.heap.get? b=ba o->H b=bb->(HF f.heap H).get? b=ba o:=λe n=>eF e n;have E:∀{b:Ux}{o:Vi}{es:Array Nb}{ep:Nat},f.heap.get? b=ba o->o.data=.dict es ep->H b=bb:=λ{b o es ep} e d=>by
   cases q:H b with
   |none=>rfl
   |some u=>
    rcases T b (by rw[q];simp)with l|⟨o',l⟩
    ·subst l
     rw[B]at e;cases e;have d':Data.seq vs.toArray _=Data.dict es ep:=d;cases d'
    ·obtain⟨_,c,_,i⟩:=p b o' l
     rw[i]at e;cases e;have d':Rz #[]=Data.dict es ep:=d;cases d'
  have j:∀{b:Ux}{m:Va->Option Uw},f.heap.Ns b m->(HF f.heap H).Ns b m:=λ{b m} ⟨o,es,ep,e,d,r⟩=>⟨o,es,ep,X e (E e d),d,r⟩;have C:K.In (HF f.heap H):=λb o e=>X (Y b o e) (by
   cases q:H b with
   |none=>rfl
   |some u=>
    rcases T b (by rw[q];simp)with l|⟨o',l⟩
    ·subst l
     rw[hK (by rw[q];simp)]at e;cases e
    ·rw[(p b o' l).1]at e;cases e)
  have hM:Mod K mg (HF f.heap H):=⟨C,j A,⟨G,j g,M⟩,let ⟨mc,h1,h2⟩:=j6;⟨mc,j h1,h2⟩⟩;have e0:Env0 P w K mg (HF f.heap H) Qd [] f H:=⟨rfl,hM,λb o e=>kT e,Nat.le_of_eq (jy _ _),trivial,λb g=>absurd (show b∈([]:List Ux) from g) (by simp),y,.of_eq hg⟩;refine Gr ((F _ C (j A)).run Qd [] f H ⟨[.ref a],[]⟩ [.ref a] [.ref a] _ _ hr e0 (cx f (.ref a)) (.cons rfl .nil) (J H S.1 hS)) λr s' h=>?_;cases r with
  |error e=>exact(O H e s' h).elim
  |ok fl=>
   cases fl with
   |next=>exact Fv h
   |brk=>exact Fv h
   |cont=>exact Fv h
   |ret u=>
    obtain⟨v,H',os,D,un,U,r',q⟩:=h;obtain⟨q',N⟩:=(show v=.bl bc/\CL K H' from q);subst q';obtain rfl:u=Ib bc:=r';have K0:∀b o,f.heap.get? b=ba o->s'.heap.get? b=ba o∨∃o',tbIn K b=ba o':=λb o e=>by
     rcases S.2 b with z|⟨ob,xs,z⟩|z
     ·exact .inl (un.keep b o e z (by intro z;exact absurd (show b∈([]:List Ux) from z) (by simp)) (by simp))
     ·have z2:=un.frzs b ob _ z
      obtain⟨W,_⟩:=y b _ z;obtain⟨i,_⟩:=U b _ z2;rw[e]at W;cases W;exact .inl i
     ·exact .inr z
    have Z:∀b o',tbIn K b=ba o'->∃ps,s'.heap.get? b=ba {cls:=.none,data:=.fields ps}:=λb o' e=>by obtain⟨pos,q2,rfl⟩:=DW e;obtain⟨ps,i,_⟩:=(show Z7 P w H' s'.heap b (.ctb pos q2) from U b _ (N b _ e));exact⟨ps,i⟩
    refine⟨rfl,⟨λb o e=>?_,λb o e=>?_⟩,os,D⟩
    ·rcases K0 b o e with z|⟨o',z⟩
     ·exact .inl z
     ·obtain⟨ps,i⟩:=Z b o' z
      obtain⟨_,c,tb⟩:=p b o' z;have e3:=e.symm.trans tb.2;cases e3;exact .inr (.inl ⟨tb.isCodeTable,rfl,#[],ps,rfl,by simpa using i⟩)
    ·rcases K0 b o e with z|⟨o',z⟩
     ·exact⟨o,z⟩
     ·obtain⟨ps,i⟩:=Z b o' z
      exact⟨_,i⟩
 have t:∀(H:Hp) b o,tbIn K b=ba o->Z7 P w H f.heap b o:=λH b o e=>by obtain⟨pos,q,rfl⟩:=DW e;obtain⟨_,c,_,i⟩:=p b _ e;exact⟨#[],i,trivial,λcv h=>nomatch h⟩
 cases L:K.lookup a with
 |some o=>
  have e:=Y a o L;rw[B]at e;cases e;refine R (λb=>tbIn K b) ⟨λ_ _ z=>z,λb=>?_⟩ (.inr ⟨_,vs.toArray,_,L,rfl,rfl,rfl,by rw[Aq,ii];exact hl,by simpa using Q⟩) (λb u z=>t _ b u z) (λb z=>.inr (Ht.mp z)) λz=>?_
  ·cases q:tbIn K b with
   |none=>exact .inl rfl
   |some o=>exact .inr (.inr ⟨o,rfl⟩)
  ·obtain⟨o,q⟩:=Ht.mp z
   exact(p a o q).1
 |none=>
  have I:tbIn K a=bb:=by
   cases q:tbIn K a with
   |none=>rfl
   |some o=>
    obtain⟨_,c,_,i⟩:=p a o q;rw[B]at i;cases i
  refine R (λb=>if b=a then ba (.frz {cls:=.type "list",data:=.seq vs.toArray} (.lst (ns.map V.int)))else tbIn K b) ⟨λb o z=>?_,λb=>?_⟩ (.inl (.inr ⟨{cls:=.type "list",data:=.seq vs.toArray},if_pos rfl⟩)) (λb u z=>?_) (λb z=>?_) λ_=>L
  ·by_cases g:b=a
   ·rw[g,I]at z;cases z
   ·exact(if_neg g).trans z
  ·by_cases g:b=a
   ·exact .inr (.inl ⟨_,_,if_pos g⟩)
   ·cases q:tbIn K b with
    |none=>exact .inl (if_neg g)
    |some o=>exact .inr (.inr ⟨o,rfl⟩)
  ·by_cases g:b=a
   ·have z':=(if_pos g).symm.trans z
    cases z';subst g;exact⟨B,by rw[Ce];exact hl,vs,_,Q,B⟩
   ·have z':=(if_neg g).symm.trans z
    exact t _ b u z'
  ·by_cases g:b=a
   ·exact .inl g
   ·refine .inr (Ht.mp λq=>z ((if_neg g).trans q))
def zBS{l:W.OpenLaw}{n k:Nat}{q:Aw}{loose:List Va}{XP:(Va->Option Uw)->Vg->Prop}{YP:Ve->Vg->Prop}{d:DefRec}{K:Lm->Ah}{CX:Ve->CXT}{sp:Ve->Sp}{x:Va}(D:l.most=ba n)(r:n<=sizeLine)(y:d.params.defaults=[])(C:ZZ k Qd)(L:∀(w:Ve) (h:Vg),YP w h->(K w.params).In h)(F:∀(w:Ve) (mg:Va->Option Uw) (fa:Ux) (h:Vg),(K w.params).In h->h.Ns Vd mg->mg d.name=ba (.ref fa)->∃fd:Ci,(∀(s:Ae) (u:Uw),Pz s fd ⟨[u],[]⟩ [(x,u)])∧ ∀base:Vg,(K w.params).In base->base.Ns Vd mg->YO l.prog w (K w.params) mg base (CX w) k fa fd [x] (sp w))(M:∀(w:Ve) (h:Vg),YP w h->∀b o,tbIn (K w.params) b=ba o->(K w.params).lookup b=bb/\∃c,h.TableAt c b #[])(p:∀(w:Ve) (H:Hp) (a:Ux) (ns:List Int),ns.length<=n->CL (K w.params) H->X8 (K w.params) H a (ns.map V.int)->sp w [.ref a] H (λv H'=>v=.bl bc/\CL (K w.params) H') λ_ _ _=>False)(z:∀(w:Ve) (H:Hp) (s:Ae) (e:Uw) (s':Ae),CX w [] H s (λ_ _ _=>False) e s'->False):W.WalkO q loose XP YP l.row.toRowW d [] (λf vs=>PySem.call f vs):=by refine Att.ED D y λw s₀ j mg R fa o Q cd doc a vs ns G Y S U I t m i A E=>?_;have B:=L w _ Y;obtain⟨fd,J,P⟩:=F w mg fa _ B G.T.g t;exact mS B G.T.g G.T.b G.T.builtins G.T.nolimit E m i (Fc A r) C P (M w _ Y) J (λH O N=>p w H a ns A O N) λH e s'=>z w H j e s'
end L2
namespace KK
open PySem PySem.W
noncomputable abbrev g(a i:Nat)(n:Va)(d m:Uw):Vi:=⟨.type "function",bb,.func (fnOf n n (L2.Y0 (RR.top i)) (L2.aY (RR.top i)) (L2.cL (RR.top i)) d .none .none m bb (.ref (a-1)) .none),#[]⟩
def p(P:Lm)(a i:Nat)(n:Va)(m:Uw)(h1:nsIn (K P) Vd n=ba (ba (.ref a)):=by kernel_rfl)(h2:(K P).lookup a=ba (g a i n .none m):=by kernel_rfl)(b:codeIn (K P) (.ref (a-1)) n=bc:=by kernel_rfl):L2.A4 (K P) n (RR.top i) a:=L2.a4 h1 h2 b (by unfold keepIn;simp only[h2])
noncomputable abbrev gk(a i:Nat)(n:Va)(k m:Uw):Vi:=⟨.type "function",bb,.func (fnOf n n (L2.Y0 (RR.top i)) (L2.aY (RR.top i)) (L2.cL (RR.top i)) .none k .none m bb (.ref (a-1)) .none),#[]⟩
def pk(P:Lm)(a i:Nat)(n:Va)(k m:Uw)(h1:nsIn (K P) Vd n=ba (ba (.ref a)):=by kernel_rfl)(h2:(K P).lookup a=ba (gk a i n k m):=by kernel_rfl)(b:codeIn (K P) (.ref (a-1)) n=bc:=by kernel_rfl):L2.A4 (K P) n (RR.top i) a:=L2.a4 h1 h2 b (by unfold keepIn;simp only[h2])
def lkM{R M S:Vr}(h:∀p∈M,(R.lookup p.1).isSome=bc){a:Ux}{o:Vi}(e:(R++M).lookup a=ba o):(R++S).lookup a=ba o:=by
 rw[List.lookup_append]at e⊢;cases q:R.lookup a with
 |some u=>rw[q]at e;exact e
 |none=>
  rw[q]at e;obtain⟨c,b,z,_⟩:=Ih.mp (show M.lookup a=ba o from e);have:=h (a,o) (by rw[z];simp)
  rw[q]at this;cases this
def inK{P:Lm}{h:Vg}(X:(KF P).In h):(K P).In h:=λa o e=>X a o (lkM (λp b=>by
 have:p.1=3:=by simp only[KM,Ak,Be,or_false]at b;rcases b with rfl|rfl<;>rfl
 rw[this];kernel_rfl) e)
def tbs(P:Lm):(K P).filterMap L2.tbOf=[(448,.ctb ⟨247,26,247,76⟩ "best_plan.<locals>.<lambda>"),(476,.ctb ⟨288,31,288,71⟩ "found_plan.<locals>.<lambda>")]:=by kernel_rfl
def tbA{P:Lm}{h:Vg}(X:(KF P).In h)(b:Ux)(o:L2.HO)(e:L2.tbIn (K P) b=ba o):(K P).lookup b=bb/\∃c,h.TableAt c b #[]:=by
 unfold L2.tbIn at e;rw[tbs]at e;obtain⟨f,d,z,_⟩:=Ih.mp e;have a:(b,o)∈f++(b,o)::d:=by simp
 rw[<-z]at a;simp only[Ak,Be,or_false,Prod.mk.injEq]at a;rcases a with⟨rfl,_⟩|⟨rfl,_⟩
 ·exact⟨by kernel_rfl,450,⟨_,_,X 450 y0 (by kernel_rfl),rfl,rfl,rfl⟩,X 448 _ (by kernel_rfl)⟩
 ·exact⟨by kernel_rfl,480,⟨_,_,X 480 y1 (by kernel_rfl),rfl,rfl,rfl⟩,X 476 _ (by kernel_rfl)⟩
def lam{P:Lm}{f c t:Ux}{pos:Pos}{q:Va}{o oc:Vi}{fd:Ci}{vs:Array Uw}{d:Va}{b:Vp}{g:Int}{tg:Vp}{a:Bool}{e:Int}{tt:Vp}(h1:(K P).lookup f=ba o)(h2:o.data=.func fd)(w:fd.code=.ref c)(v:(K P).lookup c=ba oc)(u:oc.cls=.type "code")(s:oc.data=.fields vs)(r:vs[11]?=ba (.ref t))
  (p:vs.getD 11 .none=.ref t) (n:vs.getD 18 .none=.str d b) (m:vs.getD 7 .none=.int g tg) (l:vs.getD 9 .none=.bool a) (hc:vs.getD 10 .none=.int e tt) (k:c≠t) (j:L2.tbIn (K P) t=ba (.ctb pos q)) (i:4≠t):L2.AD (K P) f pos q:=λo' x z y=>by
 cases h1.symm.trans z;cases h2.symm.trans y;exact⟨c,t,4,⟨.type "module",ba 0,.plain,#[]⟩,w,λh X=>⟨oc,vs,d,b,g,tg,a,e,tt,X _ _ v,u,s,r,p,n,m,l,hc,k⟩,j,by kernel_rfl,by decide,by decide,i,by kernel_rfl,rfl,rfl,rfl⟩
end KK
namespace RR
open PySem L2
def zLR{l:W.OpenLaw}{w:Ve}{K:Ah}{mg:Va->Option Uw}{fa:Ux}(T:Txt w K mg)(e:mg "law"=ba (.ref fa)):∃fd:Ci,(∀(s:Ae) (v:Uw),Pz s fd ⟨[v],[]⟩ [("_law_script",v)])/\∀base:Vg,K.In base->base.Ns Vd mg->YO l.prog w K mg base CX0 13 fa fd ["_law_script"] (spV K [] 1 IW):=by obtain⟨oc,od,kV,doc,h,i,g,ct,f,a,b,c,d⟩:=T.p_x54;cases e.symm.trans (T.fnm _ _ a);exact⟨_,λs v=>.of_eq rfl,λbase _ _=>dY T (PH (st:=top 93) b c d)⟩
def zCE(K:Ah)(H:Hp)(a:Ux)(ns:List Int)(hl:ns.length<=63)(tb:CL K H)(h:X8 K H a (ns.map V.int)):spV K [] 1 IW [.ref a] H (λv H'=>v=.bl bc/\CL K H') λ_ _ _=>False:=by
 have c:bZ K (Zp (λ_=>False) [] [.ref a]) H (ns.map V.int) (ns.map cV.int):=by
  clear h hl;induction ns with
  |nil=>exact .nil
  |cons n ns g=>exact .cons (.int n) g
 have hz:∀b,¬Zp (λ_=>False) [] [V.ref a] b:=λb h=>by
  rcases h with h|⟨i,h,_⟩
  ·exact h
  ·cases h
 refine⟨λ_=>False,[.lst (ns.map .int)],.bl bc,[],rfl,⟨rfl,(λi h=>nomatch h),λi d hi e=>?_,(λi d h=>nomatch h),(λi j b h=>nomatch h),⟨λa h=>h.elim,tb⟩⟩,oD ns hl,λv H' f _ r=>by cases r;exact⟨rfl,tb.fr f⟩⟩;cases i with
 |zero=>
  cases e;refine⟨_,rfl,?_⟩;rcases h with(h|⟨o,h⟩)|h
  ·exact .lst h (hz a) c
  ·exact .fzl (.inl ⟨o,h⟩) c
  ·exact .fzl (.inr h) c
 |succ i=>cases i<;>cases e
end RR
open PySem PySem.W PyProof.Rows
set_option maxRecDepth 100000 in
set_option maxHeartbeats 0 in
theorem PySem.Challenge.cw_lanepacks_k25_finding_refused_holds : PySem.Challenge.rw_lanepacks_k25_finding_refused.Holds := by
 w_on;refine holds_law KK.said λsaid=>?_
 refine holds_open (q:=KK.view) (loose:=KK.lo) (Xt:=KK.X) (XP:=XL KK.view []) (Yf:=KK.H.obs) (Ya:=KK.H.val) (YP:=KK.H.says) (N:=10748) KK.hl (Hook.of _) (Hook.keeps _) (λs e=>xl_of s (Eb.mp e).1) XL.keeps (by rfl) (by rfl) (by rfl) (λs e=>recFacts_of (Eb.mp e).2) (by rfl) (by first|assumption|decide+kernel) (by decide+kernel) ⟨rfl,rfl,rfl,rfl,rfl,by decide+kernel⟩ ?hw ?hc
 case hw=>w_witness2
 refine L2.zBS (l:=Lq) (n:=63) (k:=13) (x:= "_law_script") (K:=KK.K) (CX:=λ_=>L2.CX0) (sp:=λw=>L2.spV (KK.K w.params) [] 1 L2.IW) rfl (by decide) rfl ⟨rfl,by decide,by decide⟩ (λw h Y=>KK.inK (W.kIn_of (K:=KK.KF) (as:=KK.A) (e:=KK.kA) Y)) ?F (λw h Y b o e=>KK.tbA (W.kIn_of (K:=KK.KF) (as:=KK.A) (e:=KK.kA) Y) b o e) (λw H a ns hl tb hS=>RR.zCE (KK.K w.params) H a ns hl tb hS) λ_ _ _ _ _ z=>z
 case F=>
  intro w mg fa h KX G hmg;have N:∀{x},Gs (KK.K w.params) Vd x=some none->mg x=none:=λh=>W.mg_none_of KX G h;refine RR.zLR (K:=KK.K w.params) ?_ hmg;constructor;exact λ_ _ h=>W.mg_of KX G h;exact λ_ _ _ h=>W.mg_of KX G h;exact KK.p _ _ _ _ KK.m4;iterate 9 exact KK.p _ _ _ _ KK.m0
  iterate 6 exact KK.p _ _ _ _ KK.m2
  iterate 11 exact KK.p _ _ _ _ KK.m3
  iterate 4 exact KK.p _ _ _ _ KK.m1
  exact KK.pk _ 451 69 "best_plan" (.ref 446) KK.m1;iterate 4 exact KK.p _ _ _ _ KK.m1
  exact KK.pk _ 481 74 "found_plan" (.ref 474) KK.m1;iterate 17 exact KK.p _ _ _ _ KK.m
  iterate 18 exact N (by kernel_rfl)
  iterate 37 kernel_rfl
  iterate 3 exact⟨⟨by kernel_rfl,⟨by kernel_rfl,by kernel_rfl,by kernel_rfl,by kernel_rfl,by kernel_rfl,by kernel_rfl,by kernel_rfl⟩,by kernel_rfl,24,⟨by kernel_rfl,by kernel_rfl,by kernel_rfl,by kernel_rfl,by kernel_rfl⟩⟩,by kernel_rfl⟩
  kernel_rfl;exact KK.p _ _ _ _ KK.m5;exact KK.lam (f:=451) (c:=450) (t:=448) (o:=KK.gk 451 69 "best_plan" (.ref 446) KK.m1) (oc:=KK.y0) (by kernel_rfl) rfl rfl (by kernel_rfl) rfl rfl rfl rfl rfl rfl rfl rfl (by decide) (by kernel_rfl) (by decide);exact KK.lam (f:=481) (c:=480) (t:=476) (o:=KK.gk 481 74 "found_plan" (.ref 474) KK.m1) (oc:=KK.y1) (by kernel_rfl) rfl rfl (by kernel_rfl) rfl rfl rfl rfl rfl rfl rfl rfl (by decide) (by kernel_rfl) (by decide)
end
