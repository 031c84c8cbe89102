import PyProof.Rows.All
import KE.KFromBytes
import KE.KTab
import KE.KIsAll
import KE.KDictOf
import KE.KEqDeep
import KE.KItem
import KE.KUnpackStar
import Wide.FinOn
import Wide.Line
import KE.KSortTup
import PyProof.AttrMissSeq
import OpenK.KOwn
import Open.TreeImp
import OpenK.KMore
import PyProof.InstStoreFacts
import KE.KIntText
import PyProof.Rows.StrNews
import PyProof.Rows.SetFrom
import PyProof.StrWalks
import PySem.Challenge.RW_lanepacks_k21_sheets_refused
set_option Elab.async false
set_option linter.all false
set_option maxRecDepth 100000
set_option maxHeartbeats 4000000
set_option bootstrap.genMatcherCode false
set_option compiler.extract_closed false
open Option renaming some->b3,none->b4
open Bool renaming true->b8,false->ba
open PySem renaming Value->Uc,Addr->Ud,wpAny->Ue,model->Uf,Str->Ug,starEach->Uh,mainGlobals->Ui,Expr->Uj,assignEach->Uk,World->Ul,Heap->Um,foldedSetIterable->Uo,Stmt->Up,Obj->Uq,swapsWith->Ur,cellsFrom->Us,Scope->Ut,NameKind->Uu,assignInOrder->Uv,Sem->Ux,Model->Uy,Tok->Uz
open PySem.W renaming Frag->Uw
open PySem renaming wpAny_bind->Aa,Shared->Ae,wpAny_pure->Ah,wpAny_mono->At,Program->Be,bootBuiltins->Bp,mem_of_lookup->Bv,wpAny_holding->Bw,Around->Bx,sizeLine_eq->Cc,FuncData->Cr,compareOp->Dd,wpAny_newObj_type->Dh,wpAny_standAt->Dn,wpAny_callSpecial?_slot->Dt,wpAny_field->Ed,wpAny_call_entry->Eg,backTo->Ei,Spec->Ej,wpAny_Call_Name_kw->Et,recursionLimit->Fb,wpAny_seqItems->Fc,wpAny_truthy_bool->Fd,Builtin->Fe,letOwnedTupleGo->Ff,assign->Fk,codeAny->Fl,swapsWithSole->Fo,swappedStores->Fp,binaryOp->Fq,attributeBase->Fs,wpAny_setField_rec->Ft,codeAny_call_builtin->Fx,wpAny_passesOwn->Fy,call_meets->Gb,sysModules->Gj,keywordEach->Gp,excClassObj->Gv,wpAny_assign_Name->Gx,wpAny_rule->Gy,wpAny_pyIter_list->Gz,wpAny_loadPart_at->Hb,wpAny_newFunctionEnv_cells->Hd,wpAny_loadName_local->Hf,codeAny_mono->Hl,wpAny_comprehension_free->Hn,wpAny_execs_nil->Hs,wpAny_pyIter_tuple->Ht,behindInMarks->Hw,tupleKind_room_in1->Ia,wpAny_call->Ik,sliceBounds->Im,Keyword->Io,bindName->Iu,wpAny_bindName->Iv,codeAny_call_function->Iy,wpAny_updateSeq_pair->Jf,importedModules->Jm,unpackItems->Jr,pushCells_keeps->Jy,getAttrByItsOwn->Jz,wpAny_typeOf->Kl,backToKw->Km,newFunctionEnv->Ks,wpAny_binaryOp_repeat_ref->Kt,wpAny_Name->Kw,wpAny_sequenceKey->Kx,pushCells->La,isInstance->Lb,getItem->Lk,wpAny_onRaise->Ln,wpAny_attempt->Lo,wpAny_eqBool_int->Lu,wpAny_execs_cons->Lv,noFill_tuple_add->Lx,checkBuiltinCall->Ly,wpAny_pyNext_list_item->Mb,codeAny_compStart_list->Mf,DictEntry->Mh,standAt->Mk,wpAny_pyNext_list_end->Ml,concat_meets->Mm,call_meetsIn->Mn,noteFrame->Mp,theTreesLotGoes->Mq,exec_Assign_Name_used->Mt,codeAny_builtin->Mw,typeIs_int->My,ZipApart->Mz,typeOf->Nh,PyData->Ni,wpAny_loadPart->Nl,callerA->Nq,OwnTail->Nx,wpAny_isSubtype_exc->Ny,Result->Oe,seq_tuple_add->Of,name_of_addr->Om,frameOf->Op,getattributeRaised->Ow,ExceptHandler->Ox,BindsTo->Ph,valueAt->Pj,wpAny_Call_method->Pk,wpAny_pyIter_enum->Po,Params->Pz,codeAny_func->Qc,codeAny_loop->Qe,entryPlaceOf->Qh,wpAny_mkText->Qi,seqSlot_of->Qt,compTurn->Qz,compEnvC->Ra,interactive->Rh,PassesOwn->Ri,pyIter->Rj,lastMarks->Rk,wpAny_noted->Ro,wpAny_letGo->Rs,setField->Sh,Thread->Sj,call->Sk,newObjAsIs->Sm,holding->Ss,newList->Sx,Builtin->Tb,getAttr?->Te,Within->Ti,stored->Tk,again->Tx
open Option renaming bind_eq_some_iff->Ac,bind_some->An,map_eq_some_iff->As,isSome_some->Og,getD_none->Ql,map_some->Sd,map->Ub
open PySem.Heap renaming get?_push_of_some->Ad,lt_size->Al,get?_push_size->Ba,size_push->Cm,SameBut->Fa,get?_update_other->Gm,get?_push_ne->Iq,get?_update_self->Jb,get?_none_of_le->Jd,ExtBut->Ju,FlyingW->Ko,get?_update_ne->Nz,get?_some_iff->Oo,size_update->Qr
open Bool renaming and_eq_true->Af,false_ne_true->Dq,and_eq_true_iff->Dv,false_eq_true->Eu,or_eq_true->Ic,beq_eq_decide_eq->Mx,not_eq_true'->Ps,or_false->Sv,false_or->Sw,true_and->Tg
open List renaming getElem?_eq_some_iff->Ag,mem_cons->Ai,getElem?_append_left->Ak,size_toArray->Ao,not_mem_nil->Ap,mem_cons_of_mem->Aq,mem_singleton->Ar,mem_append_right->Aw,replicate->Ax,range->Az,mem_cons_self->Bb,map_cons->Bg,getElem?_append_right->Bi,mem_append_left->Bm,mem_append->Bq,length_cons->Br,length_append->By,getElem?_set_ne->Bz,mem_map->Cd,take_of_length_le->Cf,length_set->Cg,length_map->Ci,getElem?_take_of_lt->Cj,lookup_cons->Cn,take_append_of_le_length->Co,getElem?_replicate->Cs,getElem?_eq_none->Ct,nil_append->Cu,mem_range->Cv,map_nil->Cw,length_take->Cz,nodup_cons->De,getElem?_map->Di,getElem?_set_self->Dk,getElem?_eq_getElem->Dr,append_nil->Ds,replicate_succ->Dx,lookup_cons_self->Dz,set_comm->Eb,mem_of_getElem?->Ee,all_eq_true->Eh,append_assoc->El,drop_eq_getElem_cons->Ep,set_append_right->Fu,flatten_cons->Gc,length_eq_zero_iff->Gg,cons_append->Gh,length_singleton->Gq,find?_cons->Gr,length_nil->Gs,map_append->Gu,drop_length->Hj,lookup->Hk,mem_filter->Hr,mem_filterMap->Hv,of_mem_zip->Hy,length_range->Ip,length_replicate->Ix,mem_iff_getElem?->Ja,forall_mem_cons->Jh,any_cons->Ji,dropLast_concat_getLast->Jk,filterMap_cons->Jq,forIn_cons->Jt,map_congr_left->Jv,idxOf_lt_length_of_mem->Kc,ext_getElem?->Kz,getElem_mem->Ma,range_succ_eq_map->Md,getElem?_mapIdx->Nb,drop_zero->Nj,forIn_nil->Nk,nodup_nil->No,mem_map_of_mem->Nv,zip_cons_cons->Oq,zip_nil_right->Ot,getElem?_take->Ov,getElem_idxOf->Pc,zip_nil_left->Pn,map_map->Qg,getElem_inj->Qj,length_drop->Qk,isEmpty_iff->Qm,zipIdx_cons->Qn,zip_append->Rp,zipIdx_nil->Rr,mapM_cons->Sg,take_left->Si,all_cons->Sy,all_map->Tn
open PySem.W renaming Frag->Aj,kia_one->Ex,nsIn->Fg,kitOne->Hi,looks_findIn->Ho,keepIn->Hx,fnOf->Je,SharedT->Lf,hideAll_get->Lg,codeIn->Lj,kas_item->Lr,cellsFrom_some->Lw,hideAll_none->Ng,kitx_list->Np,subIn->Pr,of_hideAll->Qa,callWith_K->Qb,funFrames_hide->Qs,findIn->Qx,methodObj->Rf,hideAll->Rg,kitx_dict->Rl,kasC_bind->Rv,kasC_modify->Rw,clsIn->Ry,kas_item_eq->Sb,absHeap->So,openEnds->Sq,instObj->Th,OpenLaw->Tl
open Nat renaming le_refl->Am,lt_of_lt_of_le->Ay,ne_of_lt->Bf,lt_irrefl->Bu,le_trans->Dj,zero_le->Dm,le_succ->Em,le_of_succ_le->Eo,ne_of_gt->Go,zero_add->Iw,lt_succ_of_lt->Lc,lt_of_succ_lt_succ->Me,le_of_lt->Mj,not_lt_zero->Ms,sub_self->Mu,lt_of_le_of_lt->Oh,lt_trans->Qd,add_comm->Qf,succ_le_succ->Qp,not_le_of_lt->Qq,min_le_left->Rt,min_eq_left->Sc
open PySem.F renaming slot_list_append->Au,type_list_append->Av,slot_dict_get->Dy,entry_dict_get->Fj,slot_tuple_iterator_next->Fm,slot_list_extend->Gd,type_list_extend->Ge,excBase_ValueError->He,args_tuple_add_2->Hm,entry_tuple_add->Hz,args_dict_get_2->Ib,plainAttrs_list->Ie,slot_tuple_add->Ih,args_tuple_iterator_next_1->Jj,entry_tuple_iterator_next->Jw,slot_zip_next->Jx,slot_int_rmul->Ka,slot_dict_getitem->Kr,args_dict_get_3->Ll,plainAttrs_dict->Lm,slot_list_index->Lp,type_list_index->Lq,type_dict_get->Mo,entry_bexc_ga->Mv,args_bexc_ga->Nc,args_list_index_2->Nu,entry_list_index->Oj,args_tuple_mul_2->Oy,args_zip_next_1->Pp,slot_list_index->Pq,args_int_rmul_2->Pt,entry_tuple_mul->Pw,entry_zip_next->Qo,entry_int_rmul->Qu,slot_tuple_mul->Qv,fills_int_mul->Rz
open PySem.Str renaming ofString->Bj,ofString_eq_toList->Ii
open PySem.Value renaming ref->Bo,bool->Gi,type->Kv,str->Mi,int->Rc,isStrOf->Sr,builtin->Tc,isInt->Tr,float->Ts
open PySem.NameKind renaming free->Bt,cell->Ca
open PySem.Builtin.SmallTypes renaming nextOf->Cb,ownedTupleIsFree->Dw,ownedTupleHandOut->Hh
open PySem.PassesOwn renaming never->Ce
open Prod renaming fst->Ch,snd->Dg
open Ne renaming symm->Ck
open Option.some renaming inj->Cq
open PySem.AutoSeq1 renaming wpAny_loadPart'->Db,idx_int->Lz
open ForInStep renaming yield->Df
open Or renaming inr->Du,inl->Ey
open PyProof.Rows renaming assignInOrder_cons->Ea,callWith_type1->Ec,slot_tuple_getitem->Ek,seqObj->Hq,assignInOrder_nil->Ij,SortSt->Jg,AllBare->Lh,subscriptTail_builtinR->Mc,listUpdate_at->Oz,firstMet->Pa,unpackItems_tuple->Pf,pairsOf->Px,SortKind->Rb,IntsAre->Rm,seqEpoch_at->Sa,tail_any->Su
open PySem.Calls renaming evalArgs_plain->Ef,spliced_cons->Es,callWith_builtin->Fi,spliced_nil->Ha,Name_function_global->Hc,loadGlobal_global->Li,Constant_str->Ob
open PySem.SeqAt renaming shaped->Er,list_indexAt->Ol
open Int renaming emod_lt_of_pos->Ew,emod_nonneg->Ig,toNat_natCast->Il
open PySem.PyData renaming keyHash->Ez,depthAll->Fh,canLay0->Gk,canLayAll0->Ir,depth->Iz,eqv->Jl,int->Pl,strOk->Tp
open PySem.Obj renaming mapSeq->Fn,data_mapFields->Oi,mapFields->Ta
open PySem.Builtin.Slice renaming slicePlaces->Fv,sliceAdjust->Hg,sliceApplied->Kh,slicePartIndex->Qy,sliceFields->Sf
open PyProof.Rows.KTD renaming datumAt->Fw
open PySem.Builtin.Tuple renaming tupleExact->Fz,tupleItemsOf->Ki,tupleTooMany->Kk,tupleIsExact->Se
open PySem.Builtin.List renaming listTooLong->Ga
open Array renaming length_toList->Gf,perm_iff_toList_perm->Kj,find?_toList->Od,toList_inj->Qw,toList->Tj
open False renaming elim->Gw
open PySem.Builtin.Range renaming rangeSize->Hu,small->Tv
open PySem.W.Fast renaming tw10156331382660048174->Jn,tw11892475500146522536->Jo,tw14364793385576792824->Jp,tw1435165496053646825->Ke,tw4187177175401517315->Kf,te4187177175401517315->Kg
open PyProof.Rows.IsTup renaming new->Js
open List.cons renaming injEq->Kb
open PySem.Code renaming quiet_builtin->Kn,builtin->To
open PySem.Challenge renaming pw_lanepacks_k21_sheets_refused->Kq,rw_lanepacks_k21_sheets_refused->Ku
open List.Pairwise renaming nil->Ky,map->Le
open PyProof.Rows.SortSt renaming mk'->Ld
open PySem.Builtin.Dict renaming updateFrom->Ls,pairItems->Mg,missed->Nt
open Classical renaming choose_spec->Mr
open PySem.W.Looks renaming ld->Na
open PySem.Around renaming under_plainId->Nd
open PySem.SeqAt.EqAt renaming bool_bool->Nf
open PySem.Heap.SameBut renaming update->Nr
open PySem.EntryCells renaming newEntry->Nw
open PySem.Paired renaming length->Oa,snoc->Tu
open Sum renaming inl->Pd,inr->Pe
open Char renaming toNat->Py
open PySem.Heap.DictOf renaming new->Rn
open PySem.Shared renaming heap->Rq
open Pure renaming pure->Ru
open List.Perm renaming trans->Rx
open Function renaming comp->Sz
open PySem.Heap.UpToSlots renaming of_keeps->Tf
open PySem.MeetsSeq.EqGives renaming int->Tq
open PySem.IsRange renaming new->Tt
open PySem.Heap.Ns renaming new->Tw
open PySem.Heap.IsSliceOf renaming new->Tz
open PySem.W.WShape renaming has->Ua
noncomputable section
namespace KK
open PySem PySem.W
noncomputable def ED:List Uq->Nat->BT->Option BT
 |[],_,t=>b3 t
 |o::l,n,t=>match((t.ins n o).get n).isSome with
  |true=>ED l (n+1) (t.ins n o)
  |false=>b4
theorem IA{life:Life}:∀{l:List Uq}{n:Nat}{t t':BT},ED l n t=b3 t'->So t' (n+l.length) life=⟨(So t n life).objs++l.toArray,life⟩
 |[],n,t,t',h=>by cases h;simp[So]
 | o :: l,n,t,t',h => by
  unfold ED at h;split at h
  ·rename_i g
   have a:=IA (life:=life) h;rw[show n+(o::l).length=n+1+l.length by simp;lia,a,absHeap_ins g];simp[Heap.push]
  ·cases h
def toT(s:Ae):Option Lf:=(ED s.heap.objs.toList 0 .nil).map λt=>⟨t,s.heap.objs.size,s.heap.life,s.gens,s.drawn,s.toks,s.os⟩
def BU{s:Ae}{u:Lf}(h:toT s=b3 u):u.abs=s:=by
 unfold toT at h;cases e:ED s.heap.objs.toList 0 .nil with
 |none=>rw[e]at h;cases h
 |some t=>
  rw[e]at h;cases h;have:=IA (life:=s.heap.life) e
  simp only[Iw,Gf]at this;obtain⟨⟨a,life⟩,gens,drawn,toks,os⟩:=s;show(⟨So t a.size life,gens,drawn,toks,os⟩:Ae)=_;rw[this];simp[So,BT.list]
abbrev StT:=Lf->Sj->Option (Lf×Sj)
noncomputable def topG(st:StT)(ok:Sj->Bool):Nat->Lf->Sj->Option Lf
 |0,_,_=>b4
 | n + 1,s,t => match through t with
  |true=>b3 s
  | false => match ok t with
   |false=>b4
   |true=>match st s t with
    |some (s',t')=>topG st ok n s' t'
    |none=>b4
theorem BV{tb:String->Option Fe}{p:Be}{w:Ul}{a:Nat}{b:Option Uc}:∀{n:Nat}{s s':Lf}{t:Sj},topG (stepT (denote tb) p w) (stepOk a b) n s t=b3 s'->topRun tb p w a b n s.abs t=b3 s'.abs
 |0,_,_,_,h=>by cases h
 | n + 1,s,s',t,h => by
  unfold topG at h;unfold topRun;cases e:through t with
  |true=>rw[e]at h;cases h;rfl
  |false=>
   rw[e]at h;cases f:stepOk a b t with
   |false=>rw[f]at h;cases h
   |true=>
    rw[f]at h;cases hs:stepT (denote tb) p w s t with
    |none=>rw[hs]at h;cases h
    |some r=>obtain⟨d,c⟩:=r;rw[hs]at h;rw[stepT_spec hs];exact BV h
noncomputable def impG(st:StT):Nat->Lf->Sj->Option Lf
 |0,_,_=>b4
 | n + 1,s,t => match t.atExitBegin with
  |some []=>b3 s
  |some (_::_)=>b4
  |none=>match st s t with
   |some (s',t')=>impG st n s' t'
   |none=>b4
theorem AI{tb:String->Option Fe}{p:Be}{w:Ul}:∀{n:Nat}{s s':Lf}{t:Sj},impG (stepT (denote tb) p w) n s t=b3 s'->importEnds tb p w n s.abs t=b3 s'.abs
 |0,_,_,_,h=>by cases h
 | n + 1,s,s',t,h => by
  unfold impG at h;unfold importEnds;cases c:t.atExitBegin with
  |some x=>
   rw[c]at h;cases x with
   |nil=>cases h;rfl
   |cons=>cases h
  |none=>
   rw[c]at h;cases hs:stepT (denote tb) p w s t with
   |none=>rw[hs]at h;cases h
   |some r=>obtain⟨b,a⟩:=r;rw[hs]at h;dsimp only;rw[stepT_spec hs];exact AI h
noncomputable def chkU(p:Be)(s₀ s:Ae):Bool:=staticsOk (Jm p.main.body) s₀.heap s.heap&&namesBound p s.heap&&gensDone s&&laidKept s₀.heap s.heap
noncomputable def OO(p:Be)(w:Ul)(N:Nat):Option (Ae×Ae):=
 (toT (Ke (opening p)).1).bind λu=>(impG (Jn (Jo Jp) (opening p) w) N u (Ke (opening p)).2).bind λb=>(Fast.tw14289696077712309145 p b.abs).bind λs₀=>
 match s₀.heap.isNs Ui&&s₀.gens.size==0 with
 |true=>(toT s₀).bind λv=>(topG (Jn (Jo Jp) p w) (Fast.tw6613529449190102663 s₀.heap.objs.size (s₀.heap.nsMap Ui "__annotations__")) N v (topStub p)).bind λa=>b3 (s₀,a.abs)
 |false=>b4
def lf{p:Be}{w:Ul}{N:Nat}{q:Ae×Ae}(h:OO p w N=b3 q)(hc:chkU p q.1 q.2=b8):Sq treeTable p w N=b3 q.2:=by
 unfold OO at h;rw[<-Fast.te1435165496053646825,<-Fast.te10156331382660048174,<-Fast.te11892475500146522536,<-Fast.te14364793385576792824,<-Fast.te14289696077712309145,<-Fast.te6613529449190102663]at h;unfold Sq fencedOpening;obtain⟨u,i,h⟩:=Ac.mp h;obtain⟨k,g,h⟩:=Ac.mp h;obtain⟨s₀,f,h⟩:=Ac.mp h;have c:=AI g;rw[BU i]at c;rw[c,An,f,An];unfold topFrom;cases b:(s₀.heap.isNs Ui&&s₀.gens.size==0)with
 |false=>rw[b]at h;cases h
 |true=>
  rw[b]at h;obtain⟨v,e,h⟩:=Ac.mp h;obtain⟨j,d,h⟩:=Ac.mp h;cases h;have a:=BV d;rw[BU e]at a;dsimp only;rw[a,An];unfold chkU at hc;rw[hc]
def mapQ{α β:Type}{p:Be}{w:Ul}{N:Nat}{f:Ae->α}{g:Ae->β}{v:α}{u:β}(h1:(OO p w N).map (λq=>f q.2)=b3 v)(h2:(OO p w N).map (λq=>(chkU p q.1 q.2,g q.2))=b3 (b8,u)):(Sq treeTable p w N).map (λs=>(f s,g s))=b3 (v,u):=by
 cases e:OO p w N with
 |none=>rw[e]at h1;cases h1
 |some q=>
  rw[e]at h1 h2;obtain⟨b,a⟩:=Prod.mk.inj (Cq h2);rw[lf e b];exact congrArg b3 (Prod.ext (Cq h1) a)
end KK
namespace RR
open PySem
def top(i:Nat):Up:=PySem.Challenge.pw_lanepacks_k21_sheets_refused.main.body.getD i (.Pass ⟨0,0,0,0⟩)
def mem(i j:Nat):Up:=match top i with
 |.ClassDef _ _ _ b _ _ _ _ _ _ _=>b.getD j (.Pass ⟨0,0,0,0⟩)
 |s=>s
end RR
namespace KK
open PySem PySem.W PySem.Calls PyProof.Rows
def dA(s:Up):Arguments:=match s with
 |.FunctionDef _ a _ _ _ _ _ _ _ _=>a
 |_=>⟨[],[],b4,[],[],b4,[]⟩
def dB(s:Up):List Up:=match s with
 |.FunctionDef _ _ b _ _ _ _ _ _ _=>b
 |_=>[]
def dS(s:Up):Ut:=match s with
 |.FunctionDef _ _ _ _ _ _ c _ _ _=>c
 |_=>{kind:=.function,names:=[],isGenerator:=ba,isCoroutine:=ba}
abbrev s(x:Ug)(t:Nat):Uc:=.str x t
abbrev e(P:Pz)(x:Ug)(t:Nat)(v:Uc):Mh:=⟨PyData.keyHash P x,s x t,v⟩
abbrev f(a i:Nat)(n:Ug)(d m:Uc):Nat×Uq:=(a,⟨.type "function",b4,.func (fnOf n n (dA (RR.top i)) (dB (RR.top i)) (dS (RR.top i)) d .none .none m b4 (.ref (a-1)) .none),#[]⟩)
abbrev fm(a i j:Nat)(q:Ug)(m:Uc):Nat×Uq:=(a,⟨.type "function",b4,.func (fnOf "__init__" q (dA (RR.mem i j)) (dB (RR.mem i j)) (dS (RR.mem i j)) .none .none .none m b4 (.ref (a-1)) .none),#[]⟩)
abbrev fk(a i:Nat)(n:Ug)(d k m:Uc):Nat×Uq:=(a,⟨.type "function",b4,.func (fnOf n n (dA (RR.top i)) (dB (RR.top i)) (dS (RR.top i)) d k .none m b4 (.ref (a-1)) .none),#[]⟩)
abbrev co(a:Nat)(n:Ug)(t:Nat)(l k:Int)(u:Nat)(x y z v:Uc):Nat×Uq:=(a,⟨.type "code",b4,.fields #[s n t,s n (t+1),s "/claim/cut.py" (t+2),.int l 0,.int k 0,.int 0 0,.int 0 0,.int 3 0,x,.bool b8,.int 181 0,y,.none,z,v,.ref (a-1),.int u 0,.int l 0,s "/claim/cut.py" (u+1)],#[]⟩)
abbrev c(a:Nat)(n:Ug)(t:Nat)(l k:Int)(u:Nat):Nat×Uq:=co a n t l k u (.ref (a-5)) (.ref (a-4)) (.ref (a-3)) (.ref (a-2))
abbrev b(a:Nat)(n:Ug)(t:Nat)(l k:Int)(u:Nat):Nat×Uq:=co a n t l k u (.ref (a-3)) (.ref (a-2)) .none .none
abbrev m:Uc:=s "law_lanepacks_k21_sheets_refused" 849
abbrev kc(a q:Nat)(n:Ug)(b t u:Nat):Nat×Uq:=(a,⟨.type "type",b4,.cls {name:=n,bases:=[.ref q],mro:=[.ref a,.ref q,.type "ValueError",.type "Exception",.type "BaseException",.type "object"],ns:=a-1,qualname:=n},#[b3 (.ref b),b4,b3 (s n t),b3 (s n u),b3 (.builtin "ValueError.__new__"),b3 (.bool b8)]⟩)
abbrev kn(P:Pz)(a m w l r:Nat):Nat×Uq:=(a,⟨.type "dict",b4,.dict #[e P "__module__" m (s "lanepacks.errors" w),e P "__firstlineno__" (m+4) (.int l (m+3)),e P "__static_attributes__" (m+5) (.ref r),e P "__doc__" (m+6) .none] 2,#[]⟩)
noncomputable def K(P:Pz):Uw:=[(2,⟨.none,b4,.dict #[] 0,#[]⟩),(3,⟨.type "dict",b4,.dict #[e P "__name__" 165 (s "law_lanepacks_k21_sheets_refused" 849),e P "__doc__" 166 (.none),e P "__package__" 167 (.none),e P "__loader__" 168 (.builtin "__main__.__loader__#opaque"),e P "__spec__" 169 (.none),e P "__annotations__" 170 (.ref 6),e P "__builtins__" 171 (.ref 4),e P "__file__" 173 (s "/claim/cut.py" 172),e P "__cached__" 174 (.none),e P "PackError" 206 (.ref 24),e P "NoBlock" 222 (.ref 37),e P "NoCells" 238 (.ref 49),e P "NoRow" 263 (.ref 68),e P "NoLanes" 279 (.ref 80),e P "NoPlan" 295 (.ref 92),e P "NoProgram" 311 (.ref 104),e P "NoTree" 327 (.ref 116),e P "NoLoop" 343 (.ref 128),e P "NoText" 359 (.ref 140),e P "NoName" 384 (.ref 159),e P "TooMany" 400 (.ref 171),e P "TooLong" 416 (.ref 183),e P "NotValid" 441 (.ref 202),e P "Nothing" 457 (.ref 214),e P "MOST_WORD" 461 (.int 999 460),e P "DEEDS" 469 (.ref 217),e P "is_whole" 478 (.ref 224),e P "MOST_SURE" 482 (.int 64 481),e P "MOST_ROWS" 484 (.int 40 483),e P "MOST_PLACE" 486 (.int 63 485),e P "DEED_PARTS" 489 (.ref 225),e P "OTHER_PARTS" 515 (.ref 226),e P "READERS" 518 (.ref 233),e P "WRITERS" 521 (.ref 234),e P "parts_of" 528 (.ref 241),e P "makes_word" 535 (.ref 248),e P "place_of" 542 (.ref 255),e P "names_of" 548 (.ref 260),e P "may_name" 556 (.ref 267),e P "fits" 565 (.ref 274),e P "is_row" 571 (.ref 279),e P "is_block" 582 (.ref 286),e P "writes" 591 (.ref 293),e P "is_safe_number" 598 (.ref 300),e P "can_fault" 610 (.ref 307),e P "share_written_cell" 618 (.ref 314),e P "must_stay" 630 (.ref 321),e P "must_pairs" 636 (.ref 326),e P "LEAST_LANES" 640 (.int 2 639),e P "MOST_LANES" 642 (.int 4 641),e P "is_lanes" 649 (.ref 333),e P "MOST_PROGRAM_ROWS" 653 (.int 400 652),e P "is_for_lanes" 661 (.ref 340),e P "is_wide" 667 (.ref 345),e P "is_gather" 673 (.ref 350),e P "is_shuffle" 679 (.ref 355),e P "is_lane" 688 (.ref 362),e P "is_program_row" 700 (.ref 369),e P "kind_made" 707 (.ref 376),e P "are_program_rows" 719 (.ref 383),e P "is_program" 729 (.ref 390),e P "has_word" 744 (.ref 397),e P "taken_from" 754 (.ref 404),e P "trace" 767 (.ref 411),e P "traced" 776 (.ref 419),e P "is_entry" 789 (.ref 426),e P "are_entries" 795 (.ref 431),e P "deed_row" 802 (.ref 438),e P "does_same" 808 (.ref 443),e P "meant" 818 (.ref 450),e P "doers" 824 (.ref 455),e P "keeps_order" 834 (.ref 462),e P "is_lesser" 842 (.ref 469),e P "shows" 848 (.ref 474),e P "_law_cell_at" 860 (.ref 481),e P "_law_mixed" 870 (.ref 488),e P "_law_draw" 879 (.ref 495),e P "_law_pick" 888 (.ref 502),e P "_law_place" 899 (.ref 509),e P "_law_row" 905 (.ref 514),e P "_law_rows" 919 (.ref 521),e P "_law_next" 936 (.ref 528),e P "_law_block" 942 (.ref 533),e P "_law_names" 949 (.ref 540),e P "_law_may" 955 (.ref 545),e P "_law_must" 961 (.ref 550),e P "_law_which" 969 (.ref 557),e P "_law_none" 978 (.ref 564),e P "_law_mixed_order" 984 (.ref 569),e P "_law_renamed" 990 (.ref 574),e P "_law_program" 996 (.ref 579),e P "_law_ask" 1007 (.ref 586),e P "law" 1026 (.ref 593)] 93,#[]⟩),(23,⟨.type "dict",b4,.dict #[e P "__module__" 196 (s "lanepacks.errors" 187),e P "__firstlineno__" 200 (.int 2 199),e P "__static_attributes__" 201 (.ref 22),e P "__weakref__" 203 (.ref 25),e P "__doc__" 204 (.none)] 3,#[]⟩),(24,⟨.type "type",b4,.cls {name:= "PackError",bases:=[.type "ValueError"],mro:=[.ref 24,.type "ValueError",.type "Exception",.type "BaseException",.type "object"],ns:=23,qualname:= "PackError",subclasses:=[.ref 37,.ref 49,.ref 68,.ref 80,.ref 92,.ref 104,.ref 116,.ref 128,.ref 140,.ref 159,.ref 171,.ref 183,.ref 202,.ref 214]},#[b3 (.ref 15),b4,b3 (s "PackError" 189),b3 (s "PackError" 197),b3 (.builtin "ValueError.__new__"),b3 (.bool b8)]⟩),kn P 36 214 187 4 35,kc 37 24 "NoBlock" 28 207 215,kn P 48 230 187 6 47,kc 49 24 "NoCells" 40 223 231,fm 65 4 0 "NoRow.__init__" (s "lanepacks.errors" 187),(64,⟨.type "code",b4,.fields #[s "__init__" 251,s "NoRow.__init__" 252,s "/claim/cut.py" 253,.int 10 0,.int 2 0,.int 0 0,.int 0 0,.int 3 0,.ref 59,.bool b8,.int 181 0,.ref 60,.none,.ref 61,.ref 62,.ref 63,.int 256 0,.int 10 0,s "/claim/cut.py" 257],#[]⟩),(67,⟨.type "dict",b4,.dict #[e P "__module__" 246 (s "lanepacks.errors" 187),e P "__firstlineno__" 250 (.int 8 249),e P "__init__" 258 (.ref 65),e P "__static_attributes__" 260 (.ref 66),e P "__doc__" 261 (.none)] 2,#[]⟩),kc 68 24 "NoRow" 52 239 247,kn P 79 271 187 13 78,kc 80 24 "NoLanes" 71 264 272,kn P 91 287 187 15 90,kc 92 24 "NoPlan" 83 280 288,kn P 103 303 187 17 102,kc 104 24 "NoProgram" 95 296 304,kn P 115 319 187 19 114,kc 116 24 "NoTree" 107 312 320,kn P 127 335 187 21 126,kc 128 24 "NoLoop" 119 328 336,kn P 139 351 187 23 138,kc 140 24 "NoText" 131 344 352,(158,⟨.type "dict",b4,.dict #[e P "__module__" 367 (s "lanepacks.errors" 187),e P "__firstlineno__" 371 (.int 25 370),e P "__init__" 379 (.ref 156),e P "__static_attributes__" 381 (.ref 157),e P "__doc__" 382 (.none)] 2,#[]⟩),kc 159 24 "NoName" 143 360 368,kn P 170 392 187 30 169,kc 171 24 "TooMany" 162 385 393,kn P 182 408 187 32 181,kc 183 24 "TooLong" 174 401 409,(201,⟨.type "dict",b4,.dict #[e P "__module__" 424 (s "lanepacks.errors" 187),e P "__firstlineno__" 428 (.int 34 427),e P "__init__" 436 (.ref 199),e P "__static_attributes__" 438 (.ref 200),e P "__doc__" 439 (.none)] 2,#[]⟩),kc 202 24 "NotValid" 186 417 425,kn P 213 449 187 39 212,kc 214 24 "Nothing" 205 442 450,(217,⟨.type "tuple",b4,.seq #[s "plus" 462,s "minus" 463,s "times" 464,s "least" 465,s "most" 466,s "less" 467,s "over" 468] 0,#[]⟩),f 224 19 "is_whole" (.none) (s "lanepacks.words" 458),c 223 "is_whole" 470 44 3 476,(225,⟨.type "tuple",b4,.seq #[s "row" 487,s "row" 488] 0,#[]⟩),(226,⟨.type "dict",b4,.dict #[e P "number" 490 (.ref 227),e P "pick" 492 (.ref 228),e P "load" 496 (.ref 229),e P "take" 498 (.ref 230),e P "store" 502 (.ref 231),e P "put" 505 (.ref 232)] 6,#[]⟩),(227,⟨.type "tuple",b4,.seq #[s "word" 491] 0,#[]⟩),(228,⟨.type "tuple",b4,.seq #[s "row" 493,s "row" 494,s "row" 495] 0,#[]⟩),(229,⟨.type "tuple",b4,.seq #[s "place" 497] 0,#[]⟩),(230,⟨.type "tuple",b4,.seq #[s "place" 499,s "row" 500,s "row" 501] 0,#[]⟩),(231,⟨.type "tuple",b4,.seq #[s "place" 503,s "row" 504] 0,#[]⟩),(232,⟨.type "tuple",b4,.seq #[s "place" 506,s "row" 507,s "row" 508] 0,#[]⟩),(233,⟨.type "tuple",b4,.seq #[s "load" 516,s "take" 517] 0,#[]⟩),(234,⟨.type "tuple",b4,.seq #[s "store" 519,s "put" 520] 0,#[]⟩),f 241 28 "parts_of" (.none) (s "lanepacks.blocks" 479),c 240 "parts_of" 522 56 1 526,f 248 29 "makes_word" (.none) (s "lanepacks.blocks" 479),c 247 "makes_word" 529 60 1 533,f 255 30 "place_of" (.none) (s "lanepacks.blocks" 479),c 254 "place_of" 536 62 1 540,f 267 32 "may_name" (.none) (s "lanepacks.blocks" 479),c 266 "may_name" 549 67 2 554,f 274 33 "fits" (.none) (s "lanepacks.blocks" 479),c 273 "fits" 557 69 3 563,f 279 34 "is_row" (.none) (s "lanepacks.blocks" 479),b 278 "is_row" 566 75 2 569,f 286 35 "is_block" (.none) (s "lanepacks.blocks" 479),c 285 "is_block" 572 83 1 580,f 321 41 "must_stay" (.none) (s "lanepacks.orders" 583),c 320 "must_stay" 619 111 3 628,f 326 42 "must_pairs" (.none) (s "lanepacks.orders" 583),b 325 "must_pairs" 631 119 1 634,f 333 46 "is_lanes" (.none) (s "lanepacks.plans" 637),c 332 "is_lanes" 643 126 1 647,f 340 49 "is_for_lanes" (.none) (s "lanepacks.machines" 650),c 339 "is_for_lanes" 654 130 2 659,f 345 50 "is_wide" (.none) (s "lanepacks.machines" 650),b 344 "is_wide" 662 132 3 665,f 350 51 "is_gather" (.none) (s "lanepacks.machines" 650),b 349 "is_gather" 668 136 3 671,f 355 52 "is_shuffle" (.none) (s "lanepacks.machines" 650),b 354 "is_shuffle" 674 140 3 677,f 362 53 "is_lane" (.none) (s "lanepacks.machines" 650),c 361 "is_lane" 680 144 3 686,f 369 54 "is_program_row" (.none) (s "lanepacks.machines" 650),c 368 "is_program_row" 689 146 4 698,f 376 55 "kind_made" (.none) (s "lanepacks.machines" 650),c 375 "kind_made" 701 159 1 705,f 383 56 "are_program_rows" (.none) (s "lanepacks.machines" 650),c 382 "are_program_rows" 708 165 2 717,f 390 57 "is_program" (.none) (s "lanepacks.machines" 650),c 389 "is_program" 720 174 1 727,f 397 59 "has_word" (.none) (s "lanepacks.sheets" 730),c 396 "has_word" 732 184 3 742,f 404 60 "taken_from" (.none) (s "lanepacks.sheets" 730),c 403 "taken_from" 745 192 3 752,f 411 61 "trace" (.none) (s "lanepacks.sheets" 730),c 410 "trace" 755 201 3 765,(412,⟨.type "tuple",b4,.seq #[.none] 0,#[]⟩),f 419 62 "traced" (.ref 412) (s "lanepacks.sheets" 730),c 418 "traced" 768 212 3 774,f 426 63 "is_entry" (.none) (s "lanepacks.sheets" 730),c 425 "is_entry" 777 218 2 787,f 431 64 "are_entries" (.none) (s "lanepacks.sheets" 730),b 430 "are_entries" 790 226 3 793,f 438 65 "deed_row" (.none) (s "lanepacks.sheets" 730),c 437 "deed_row" 796 235 1 800,f 443 66 "does_same" (.none) (s "lanepacks.sheets" 730),b 442 "does_same" 803 237 4 806,f 455 68 "doers" (.none) (s "lanepacks.sheets" 730),b 454 "doers" 819 250 1 822,f 462 69 "keeps_order" (.none) (s "lanepacks.sheets" 730),c 461 "keeps_order" 825 259 2 832,f 469 70 "is_lesser" (.none) (s "lanepacks.sheets" 730),c 468 "is_lesser" 835 264 2 840,f 474 71 "shows" (.none) (s "lanepacks.sheets" 730),b 473 "shows" 843 268 3 846,f 481 73 "_law_cell_at" (.none) m,c 480 "_law_cell_at" 851 280 2 858,f 488 74 "_law_mixed" (.none) m,c 487 "_law_mixed" 861 289 3 868,f 495 75 "_law_draw" (.none) m,c 494 "_law_draw" 871 292 3 877,f 502 76 "_law_pick" (.none) m,c 501 "_law_pick" 880 295 3 886,f 509 77 "_law_place" (.none) m,c 508 "_law_place" 889 297 5 897,f 514 78 "_law_row" (.none) m,b 513 "_law_row" 900 300 5 903,f 521 79 "_law_rows" (.none) m,c 520 "_law_rows" 906 318 4 917,f 528 80 "_law_next" (.none) m,c 527 "_law_next" 920 330 6 934,f 533 81 "_law_block" (.none) m,b 532 "_law_block" 937 341 3 940,f 540 82 "_law_names" (.none) m,c 539 "_law_names" 943 350 1 947,f 545 83 "_law_may" (.none) m,b 544 "_law_may" 950 354 2 953,f 550 84 "_law_must" (.none) m,b 549 "_law_must" 956 359 1 959,f 557 85 "_law_which" (.none) m,c 556 "_law_which" 962 371 1 967,f 564 86 "_law_none" (.none) m,c 563 "_law_none" 970 379 2 976,f 569 87 "_law_mixed_order" (.none) m,b 568 "_law_mixed_order" 979 386 3 982,f 574 88 "_law_renamed" (.none) m,b 573 "_law_renamed" 985 393 2 988,f 579 89 "_law_program" (.none) m,b 578 "_law_program" 991 398 3 994,f 586 90 "_law_ask" (.none) m,c 585 "_law_ask" 997 422 4 1005,f 593 91 "law" (.none) m,c 592 "law" 1008 429 1 1024]
noncomputable def A:List Nat:=[2,3,23,24,36,37,48,49,65,64,67,68,79,80,91,92,103,104,115,116,127,128,139,140,158,159,170,171,182,183,201,202,213,214,217,224,223,225,226,227,228,229,230,231,232,233,234,241,240,248,247,255,254,267,266,274,273,279,278,286,285,321,320,326,325,333,332,340,339,345,344,350,349,355,354,362,361,369,368,376,375,383,382,390,389,397,396,404,403,411,410,412,419,418,426,425,431,430,438,437,443,442,455,454,462,461,469,468,474,473,481,480,488,487,495,494,502,501,509,508,514,513,521,520,528,527,533,532,540,539,545,544,550,549,557,556,564,563,569,568,574,573,579,578,586,585,593,592]
noncomputable def view:Be:={Kq with main:={PySem.Challenge.pw_lanepacks_k21_sheets_refused.main with body:=[1,2,3,4,5,6,7,8,9,10,11,12,13,14,15,17,18,19,21,22,23,24,25,26,27,28,29,30,31,32,33,34,35,37,38,39,40,41,42,44,45,46,48,49,50,51,52,53,54,55,56,57,59,60,61,63,64,65,66,67,68,69,70,71,73,74,75,76,77,78,79,80,81,82,83,84,85,86,87,88,89,90,91].map RR.top}}
abbrev lo:List Ug:=["OTHER_PARTS","traced"]
def kA(P:Pz):A=(K P).map (·.1):=by kernel_rfl
noncomputable def X(s:Ae):Bool:=xlAt view [] s&&recOk (RowW.records (OpenRow.toRowW PySem.Challenge.rw_lanepacks_k21_sheets_refused.row)) s
noncomputable abbrev H:Hook:=kHook K A kA
abbrev pr:Be:=PySem.Challenge.rw_lanepacks_k21_sheets_refused.row.prog
theorem mapP{α β γ:Type}{o:Option α}{f:α->β×γ}{a:β}{b:γ}(h:o.map (λq=>(f q).1)=b3 a)(k:o.map (λq=>(f q).2)=b3 b):o.map f=b3 (a,b):=by cases o with
 |none=>cases h
 |some q=>cases h;cases k;rfl
set_option maxRecDepth 100000 in
set_option maxHeartbeats 0 in
theorem rAfp(w:Ul):(OO pr (w.withFollow "special-get-raises" ba) 10706).map (λq=>(Kf view lo (Jm pr.main.body) X b8 q.2).1)=b3 (openGood view lo).1:=by kernel_rfl
set_option maxRecDepth 100000 in
set_option maxHeartbeats 0 in
theorem rCf(w:Ul):(OO pr (w.withFollow "special-get-raises" ba) 10706).map (λq=>(Kf view lo (Jm pr.main.body) X b8 q.2).2)=b3 (openGood view lo).2:=by kernel_rfl
theorem rAf(w:Ul):(OO pr (w.withFollow "special-get-raises" ba) 10706).map (λq=>Kf view lo (Jm pr.main.body) X b8 q.2)=b3 (openGood view lo):=@mapP _ _ _ _ _ (openGood view lo).1 (openGood view lo).2 (rAfp w) (rCf w)
set_option maxRecDepth 100000 in
set_option maxHeartbeats 0 in
theorem rBf(w:Ul):(OO pr (w.withFollow "special-get-raises" ba) 10706).map (λq=>(chkU pr q.1 q.2,H.obs q.2))=b3 ((b8,H.val (w.withFollow "special-get-raises" ba))):=by kernel_rfl
set_option maxRecDepth 100000 in
set_option maxHeartbeats 0 in
theorem rAtp(w:Ul):(OO pr (w.withFollow "special-get-raises" b8) 10706).map (λq=>(Kf view lo (Jm pr.main.body) X b8 q.2).1)=b3 (openGood view lo).1:=by kernel_rfl
set_option maxRecDepth 100000 in
set_option maxHeartbeats 0 in
theorem rCt(w:Ul):(OO pr (w.withFollow "special-get-raises" b8) 10706).map (λq=>(Kf view lo (Jm pr.main.body) X b8 q.2).2)=b3 (openGood view lo).2:=by kernel_rfl
theorem rAt(w:Ul):(OO pr (w.withFollow "special-get-raises" b8) 10706).map (λq=>Kf view lo (Jm pr.main.body) X b8 q.2)=b3 (openGood view lo):=@mapP _ _ _ _ _ (openGood view lo).1 (openGood view lo).2 (rAtp w) (rCt w)
set_option maxRecDepth 100000 in
set_option maxHeartbeats 0 in
theorem rBt(w:Ul):(OO pr (w.withFollow "special-get-raises" b8) 10706).map (λq=>(chkU pr q.1 q.2,H.obs q.2))=b3 ((b8,H.val (w.withFollow "special-get-raises" b8))):=by kernel_rfl
def hl:LeftO pr view lo X H.obs H.val 10706:=λw=>byRow2 "special-get-raises" (P:=λw=>(Sq treeTable pr w 10706).map (λs=>(openSeen view lo (Jm pr.main.body) X b8 s,H.obs s))=b3 (openGood view lo,H.val w)) (λw=>mapQ (by rw[Kg];exact rAf w) (rBf w)) (λw=>mapQ (by rw[Kg];exact rAt w) (rBt w)) w
set_option maxRecDepth 100000 in
set_option maxHeartbeats 0 in
theorem said:PySem.Challenge.rw_lanepacks_k21_sheets_refused.wellSaid=b8:=by rw[Fast.te9446332074065402090];kernel_rfl
abbrev m0:Uc:=.str "lanepacks.blocks" 479
abbrev m1:Uc:=.str "lanepacks.machines" 650
abbrev m2:Uc:=.str "lanepacks.orders" 583
abbrev m3:Uc:=.str "lanepacks.plans" 637
abbrev m4:Uc:=.str "lanepacks.sheets" 730
abbrev m5:Uc:=.str "lanepacks.words" 458
abbrev m6:Uc:=.str "law_lanepacks_k21_sheets_refused" 849
end KK
namespace L2
open PySem PySem.Spec PyProof.Rows
abbrev Z8:=Sum Int Ug
noncomputable def IS:Z8->Uc->Bool
 |.inl k,v=>Tr k v
 |.inr x,v=>Sr x v
def keyH(w:Ul):Z8->Int
 |.inl k=>hashInt k
 |.inr x=>hashStr w x
theorem Y3:∀{k:Z8}{v:Uc},IS k v=b8->(∃i t,k=Pd i/\v=Rc i t)∨(∃x t,k=Pe x/\v=Mi x t)
 |.inl i,v,h=>by obtain⟨t,e⟩:=Value.isInt_shape (k:=i) (v:=v) h;exact .inl ⟨i,t,rfl,e⟩
 |.inr x,v,h=>by obtain⟨t,e⟩:=Value.isStrOf_shape (x:=x) (v:=v) h;exact .inr ⟨x,t,rfl,e⟩
def eB(i:Int)(t:Uz):IS (.inl i) (.int i t)=b8:=by simp[IS,Tr]
def nI(x:Ug)(t:Uz):IS (.inr x) (.str x t)=b8:=by simp[IS,Sr]
def nX(a b:Int):decide ((Pd a:Z8)=Pd b)=(a==b):=by
 by_cases e:a=b
 ·subst e;simp
 ·have h : ¬ (Pd a : Z8) = Pd b := λq => e (Sum.inl.inj q)
  rw[decide_eq_false h];exact(beq_eq_false_iff_ne.mpr e).symm
def gC(a b:Ug):decide ((Pe a:Z8)=Pe b)=decide (a=b):=by
 by_cases e:a=b
 ·subst e;simp
 ·have h : ¬ (Pe a : Z8) = Pe b := λq => e (Sum.inr.inj q)
  rw[decide_eq_false h,decide_eq_false e]
def nq(a:Int)(b:Ug):decide ((Pd a:Z8)=Pe b)=ba:=decide_eq_false (λq=>nomatch q)
def cP(a:Ug)(b:Int):decide ((Pe a:Z8)=Pd b)=ba:=decide_eq_false (λq=>nomatch q)
def Z5(prog:Be)(w:Ul):PySem.KeyKind prog w Z8 where
 is:=IS
 hash:=keyH w
 inj:=λv a b l f=>by
  rcases Y3 l with⟨i,t,rfl,rfl⟩|⟨x,t,rfl,rfl⟩
  ·rcases Y3 f with⟨j,u,rfl,e⟩|⟨y,u,rfl,e⟩
   ·injection e with c _;rw[c]
   ·exact nomatch e
  ·rcases Y3 f with⟨j,u,rfl,e⟩|⟨y,u,rfl,e⟩
   ·exact nomatch e
   ·injection e with c _;rw[c]
 byValue:=λk v h=>by
  rcases Y3 h with⟨i,t,rfl,rfl⟩|⟨x,t,rfl,rfl⟩<;>rfl
 pyHash:=λd h=>by
  rcases Y3 d with⟨i,t,rfl,rfl⟩|⟨x,t,rfl,rfl⟩
  ·exact wpAny_pyHash_int h
  ·exact wpAny_pyHash_str h
 eqBool:=λg d h=>by
  rcases Y3 g with⟨i,t,rfl,rfl⟩|⟨x,t,rfl,rfl⟩
  ·rcases Y3 d with⟨j,u,rfl,rfl⟩|⟨y,u,rfl,rfl⟩
   ·rw[nX]at h;exact Lu h
   ·rw[nq]at h;exact SeqAt.EqAt.int_str i t y u _ _ _ _ h
  ·rcases Y3 d with⟨j,u,rfl,rfl⟩|⟨y,u,rfl,rfl⟩
   ·rw[cP]at h;exact SeqAt.EqAt.str_int x t j u _ _ _ _ h
   ·rw[gC]at h;exact wpAny_eqBool_str h
 «strs» :=λk x t v h=>by
  rcases Y3 h with⟨i,u,rfl,e⟩|⟨y,u,rfl,e⟩
  ·exact nomatch e
  ·injection e with c _
   subst c;cases v<;>rfl
def E2(prog:Be)(w:Ul)(i:Int)(t:Uz):(Z5 prog w).is (.inl i) (.int i t)=b8:=eB i t
def E3(prog:Be)(w:Ul)(x:Ug)(t:Uz):(Z5 prog w).is (.inr x) (.str x t)=b8:=nI x t
inductive V where
 |non|bl (b:Bool)|int (i:Int)|str (x:Ug)|byt (b:Array UInt8)|flt (b:UInt64)|ref (a:Ud)|ty (n:String)
 deriving DecidableEq
def aG:V->Uc->Prop
 |.non,u=>u=Value.none
 |.bl b,u=>u=Gi b
 |.int i,u=>∃t,u=Rc i t
 |.str x,u=>∃t,u=Mi x t
 |.byt b,u=>∃t,u=Value.bytes b t
 |.flt b,u=>∃t,u=Ts b t
 |.ref a,u=>u=Bo a
 |.ty n,u=>u=Kv n
abbrev aK:List V->List Uc->Prop:=Paired aG
def aK.length{xs:List V}{a:List Uc}(r:aK xs a):xs.length=a.length:=Oa r
theorem aK.get:∀{xs:List V}{a:List Uc}{i:Nat}{x:V},aK xs a->xs[i]?=b3 x->∃u,a[i]?=b3 u/\aG x u
 |_,_,_,_,.nil,e=>by simp at e
 |_,_,0,_,.cons r _,e=>by simp at e;subst e;exact⟨_,rfl,r⟩
 |_,_,i+1,x,.cons _ t,e=>by obtain⟨u,h1,h2⟩:=aK.get (i:=i) (x:=x) t (by simpa using e);exact⟨u,by simpa using h1,h2⟩
theorem aK.append:∀{xs ys:List V}{b a:List Uc},aK xs b->aK ys a->aK (xs++ys) (b++a)
 |_,_,_,_,.nil,s=>s
 |_,_,_,_,.cons r t,s=>.cons r (aK.append t s)
theorem aK.take:∀{xs:List V}{a:List Uc}(n:Nat),aK xs a->aK (xs.take n) (a.take n)
 |_,_,0,_=>.nil
 |_,_,_+1,.nil=>.nil
 |_,_,n+1,.cons r t=>.cons r (aK.take n t)
theorem aK.drop:∀{xs:List V}{a:List Uc}(n:Nat),aK xs a->aK (xs.drop n) (a.drop n)
 |_,_,0,r=>r
 |_,_,_+1,.nil=>.nil
 |_,_,n+1,.cons _ t=>aK.drop n t
noncomputable def QS:Option V->Option Uc->Prop
 |some v,b3 u=>aG v u
 |none,b4=>True
 |_,_=>False
def KV{κ:Type}:List (κ×V)->List (κ×Uc)->Prop:=Paired λ(p:κ×V) (q:κ×Uc)=>p.1=q.1/\aG p.2 q.2
noncomputable def kV:Z8->V
 |.inl i=>.int i
 |.inr x=>.str x
inductive HO where
 |lst (xs:List V)
 |tup (xs:List V)
 |dK (kvs:List (Z8×V))|dT (kvs:List (List Z8×V))
 |set (S:Int->Bool) (n:Nat)
 |ins (C dx:Ud) (fs:List (Ug×V))
 |own (x:Ud)
 |xd (fs:List (Ug×V))
 |met (f x:Ud)
 |rng (lo hi:Int)
 |frz (o:Uq) (u:HO)
 |tbl (ps:Array Uc)
 |ext (φ:Um->Prop)
abbrev Hp:=Ud->Option HO
def upd(H:Hp)(a:Ud)(o:HO):Hp:=λb=>if b=a then b3 o else H b
def bK{H:Hp}{a:Ud}{o:HO}:upd H a o a=b3 o:=by unfold upd;rw[if_pos rfl]
def bA{H:Hp}{a b:Ud}{o:HO}(h:b≠a):upd H a o b=H b:=by unfold upd;rw[if_neg h]
def mD{H:Hp}{a b:Ud}{o u:HO}(h:H a=b3 o)(h':H b=b3 u)(d:o≠u):a≠b:=by intro e;subst e;rw[h]at h';exact d (Cq h')
def WQ{H:Hp}{a b:Ud}{o:HO}(h:H a=b3 o)(h':H b=b4):a≠b:=by intro e;subst e;rw[h]at h';cases h'
section
variable(P:Be)(w:Ul)
def Y7(H:Hp)(h:Um)(a:Ud):HO->Prop
 |.lst xs=>xs.length<=sizeLine/\∃(its:List Uc) (n:Nat),aK xs its/\h.get? a=b3 {cls:=.type "list",data:=.seq its.toArray n}
 |.tup xs=>xs.length<=sizeLine/\∃its:List Uc,aK xs its/\IsTup h a its.toArray
 |.dK kvs=>kvs.length<=sizeLine/\(a==Gj)=ba/\∃vs,KV kvs vs/\h.DictOf (Z5 P w) a vs
 | .dT kvs => kvs.length <= sizeLine /\ (a == Gj) = ba /\ ∃ xs : List (List Z8 × Ud × Uc),
   Paired (λ(p:List Z8×V) (q:List Z8×Ud×Uc)=>p.1=q.1/\H q.2.1=b3 (.tup (p.1.map kV))/\aG p.2 q.2.2) kvs xs∧
   ∃o es d,h.get? a=b3 o/\o.ExactDict/\o.data=.dict es d/\es.toList=xs.map (entryOfKey (tupleKind (Z5 P w)))/\(xs.map (·.1)).Nodup
 |.set S n=>h.SetOf (intKind P w) a S n
 | .ins C dx fs => H dx = b3 (.own a) /\ fs.length <= 1000 /\ dx ≠ a /\ h.get? a = b3 (Th C dx) ∧
   ∃b,h.Ns1 dx b/\(∀f,QS (fs.lookup f) (b f))/\Ti b (fs.map (·.1))
 |.own _=>∃o,h.get? a=b3 o
 |.xd fs=>∃b,h.Ns1 a b/\∀f,QS (fs.lookup f) (b f)
 |.rng lo hi=>∃t u v,h.get? a=b3 {cls:=.type "range",data:=.fields #[.int lo t,.int hi u,.int 1 v]}
 |.frz o u=>h.get? a=b3 o/\Y7 H h a u
 |.tbl ps=>h.get? a=b3 {cls:=.none,data:=.fields ps}
 |.met f x=>h.get? a=b3 (Rf (.ref f) (.ref x))
 |.ext c=>c h/\(∃o,h.get? a=b3 o)/\∀h1 h2:Um,c h1->(∀o,h1.get? a=b3 o->h2.get? a=b3 o)->c h2
def QR(H:Hp)(h:Um):Prop:=∀a o,H a=b3 o->Y7 P w H h a o
end
section
variable{P:Be}{w:Ul}{H H':Hp}{h h':Um}{a:Ud}{o:HO}
def Y7.lt(x:Y7 P w H h a o):a<h.objs.size:=by
 cases o with
 |lst xs=>obtain⟨_,_,_,_,e⟩:=x;exact Al e
 |tup xs=>obtain⟨_,_,_,p⟩:=x;exact p.lt
 |dK kvs=>obtain⟨_,_,_,_,o,_,_,e,_⟩:=x;exact Al e
 |dT kvs=>obtain⟨_,_,_,_,o,_,_,e,_⟩:=x;exact Al e
 |set S n=>obtain⟨o,_,_,_,e,_⟩:=x;exact Al e
 |ins C dx fs=>obtain⟨_,_,_,e,_⟩:=x;exact Al e
 |own y=>obtain⟨_,e⟩:=x;exact Al e
 |xd fs=>obtain⟨_,⟨_,_,_,e,_⟩,_⟩:=x;exact Al e
 |rng lo hi=>obtain⟨_,_,_,e⟩:=x;exact Al e
 |frz c u=>obtain⟨e,_⟩:=x;exact Al e
 |tbl ps=>exact Al (show h.get? a=b3 _ from x)
 |met f y=>exact Al (show h.get? a=b3 _ from x)
 |ext b=>obtain⟨_,⟨_,e⟩,_⟩:=x;exact Al e
theorem Paired.mapP{α β:Type}{F G:α->β->Prop}:∀{d:List α}{c:List β},Paired F d c->(∀a b,F a b->G a b)->Paired G d c
 |_,_,.nil,_=>.nil
 |_,_,.cons r t,f=>.cons (f _ _ r) (Paired.mapP t f)
def Y7.stay(x:Y7 P w H h a o)(k:∀b u,(b=a∨H b=b3 (.own a))->h.get? b=b3 u->h'.get? b=b3 u)(A:∀b,H b=b3 (.own a)->H' b=b3 (.own a))(s:∀b xs,H b=b3 (.tup xs)->H' b=b3 (.tup xs)):Y7 P w H' h' a o:=by
 induction o with
 |lst xs=>obtain⟨z,its,n,r,e⟩:=x;exact⟨z,its,n,r,k _ _ (.inl rfl) e⟩
 |tup xs=>obtain⟨z,its,r,g,e,c⟩:=x;exact⟨z,its,r,g,k _ _ (.inl rfl) e,c⟩
 |dK kvs=>obtain⟨z,y,vs,r,g,es,i,e,c⟩:=x;exact⟨z,y,vs,r,g,es,i,k _ _ (.inl rfl) e,c⟩
 |dT kvs=>
  obtain⟨z,y,xs,r,g,es,i,e,c⟩:=x;exact⟨z,y,xs,Paired.mapP r λp q z=>⟨z.1,s _ _ z.2.1,z.2.2⟩,g,es,i,k _ _ (.inl rfl) e,c⟩
 |set S n=>obtain⟨g,es,i,t,e,c⟩:=x;exact⟨g,es,i,t,k _ _ (.inl rfl) e,c⟩
 |ins C dx fs=>
  obtain⟨d,z,l,e,j,⟨od,es,i,B,c⟩,r⟩:=x;exact⟨A _ d,z,l,k _ _ (.inl rfl) e,j,⟨od,es,i,k _ _ (.inr d) B,c⟩,r⟩
 |own y=>obtain⟨g,e⟩:=x;exact⟨g,k _ _ (.inl rfl) e⟩
 |xd fs=>obtain⟨j,⟨od,es,i,e,c⟩,r⟩:=x;exact⟨j,⟨od,es,i,k _ _ (.inl rfl) e,c⟩,r⟩
 |rng lo hi=>obtain⟨t,u,v,e⟩:=x;exact⟨t,u,v,k _ _ (.inl rfl) e⟩
 |frz g u m=>obtain⟨e,q⟩:=x;exact⟨k _ _ (.inl rfl) e,m q⟩
 |tbl ps=>
  have e:h.get? a=b3 {cls:=.none,data:=.fields ps}:=x;show h'.get? a=b3 {cls:=.none,data:=.fields ps};exact k a _ (.inl rfl) e
 |met f y=>
  have e:h.get? a=b3 (Rf (.ref f) (.ref y)):=x;show h'.get? a=b3 (Rf (.ref f) (.ref y));exact k a _ (.inl rfl) e
 |ext D=>obtain⟨p,⟨o,e⟩,st⟩:=x;exact⟨st _ _ p λo q=>k _ _ (.inl rfl) q,⟨o,k _ _ (.inl rfl) e⟩,st⟩
def QR.lt(x:QR P w H h)(e:H a=b3 o):a<h.objs.size:=(x a o e).lt
def QR.fresh(x:QR P w H h)(e:h.objs.size<=a):H a=b4:=by
 cases q:H a with
 |none=>rfl
 |some u=>exact absurd (Ay (x.lt q) e) (Bu _)
def QR.kept(x:QR P w H h)(k:∀b u,h.get? b=b3 u->h'.get? b=b3 u):QR P w H h':=λa o e=>
 (x a o e).stay (λb u _ q=>k b u q) (λ_ q=>q) λ_ _ q=>q
def QR.laid(x:QR P w H h)(k:∀b u,h.get? b=b3 u->h'.get? b=b3 u)(g:h.objs.size<=a)(new:Y7 P w (upd H a o) h' a o):QR P w (upd H a o) h':=λb u e=>by
 have d:=x.fresh g;by_cases f:b=a
 ·subst f;rw[bK]at e;cases e;exact new
 ·rw[bA f]at e
  exact(x b u e).stay (λc v _ q=>k c v q) (λc q=>by rw[bA (WQ q d)];exact q) λc xs q=>by rw[bA (WQ q d)];exact q
end
def Rd(H:Hp)(a:Ud)(u:HO):Prop:=H a=b3 u∨∃o,H a=b3 (.frz o u)
def Rd.ok{P:Be}{w:Ul}{H:Hp}{h:Um}{a:Ud}{u:HO}(r:Rd H a u)(x:QR P w H h):Y7 P w H h a u:=by
 rcases r with r|⟨o,r⟩
 ·exact x a u r
 ·obtain⟨_,q⟩:=x a _ r
  exact q
def Mut:Option HO->Prop
 |some (.lst _)=>True
 |some (.dK _)=>True
 |some (.dT _)=>True
 |some (.set _ _)=>True
 |some (.ins _ _ _)=>True
 |some (.ext _)=>True
 |_=>False
section
variable{P:Be}{w:Ul}{H:Hp}{h h':Um}{x e:Ud}{o':HO}
def QR.write(ok:QR P w H h)(d:Mut (H x))(l:e=x∨H e=b3 (.own x))(k:∀b u,b≠e->h.get? b=b3 u->h'.get? b=b3 u)(g:∃u,h'.get? e=b3 u)
  (new:Y7 P w (upd H x o') h' x o'):QR P w (upd H x o') h':=λb u q=>by
 have j:∀c y,H c=b3 (.own y)->c≠x:=λc y r z=>by subst z;rw[r]at d;exact d
 have m:∀c xs,H c=b3 (.tup xs)->c≠x:=λc xs r z=>by subst z;rw[r]at d;exact d
 by_cases f:b=x
 ·subst f;rw[bK]at q;cases q;exact new
 ·rw[bA f]at q
  by_cases a:b=e
  ·have i:H b=b3 (.own x):=by
    rcases l with z|z
    ·exact absurd (a.trans z) f
    ·rw[a];exact z
   rw[q]at i;cases i;obtain⟨v,n⟩:=g;exact⟨v,by rw[a];exact n⟩
  ·refine (ok b u q).stay (λc v hc r => k c v ?_ r) (λc r => by rw [bA (j c b r)];exact r) λc xs r => by rw [bA (m c xs r)];exact r
   rcases hc with rfl|hc
   ·exact a
   ·rintro rfl
    rcases l with z|z
    ·exact j c b hc z
    ·rw[hc]at z;cases z;exact f rfl
end
structure Un(fs ex:List Ud)(H H':Hp)(h h':Um):Prop where
 keep:∀b o,h.get? b=b3 o->H b=b4->b∉fs->b∉ex->h'.get? b=b3 o
 slot:∀b o,h.get? b=b3 o->H b=b4->b∈fs->b∉ex->∃sl,h'.get? b=b3 {o with slots:=sl}
 free:∀b o,h.get? b=b3 o->H b=b4->b∉ex->H' b=b4
 there:∀b o,h.get? b=b3 o->b∉ex->∃o',h'.get? b=b3 o'
 tups:∀b xs,H b=b3 (.tup xs)->H' b=b3 (.tup xs)
 frzs:∀b o u,H b=b3 (.frz o u)->H' b=b3 (.frz o u)
 tbls:∀b ps,H b=b3 (.tbl ps)->∃more,H' b=b3 (.tbl (ps++more))
section
variable{fs fs' ex ex':List Ud}{H H1 H2:Hp}{h h1 h2 h':Um}{a x e:Ud}{o:HO}
def Un.any(u:Un fs ex H H1 h h1){b:Ud}{a:Uq}(q:h.get? b=b3 a)(n:H b=b4)(c:b∉ex):∃sl,h1.get? b=b3 {a with slots:=sl}:=by
 by_cases d:b∈fs
 ·exact u.slot b a q n d c
 ·exact⟨a.slots,u.keep b a q n d c⟩
def Un.kept(k:∀b u,h.get? b=b3 u->h'.get? b=b3 u):Un fs ex H H h h':=
 ⟨λb a q _ _ _=>k b a q,λb a q _ _ _=>⟨a.slots,k b a q⟩,λ_ _ _ n _=>n,λb a q _=>⟨a,k b a q⟩,λ_ _ q=>q,λ_ _ _ q=>q,λ_ ps q=>⟨#[],by rw[q];simp⟩⟩
def Un.refl:Un fs ex H H h h:=Un.kept λ_ _ q=>q
def Un.laid(k:∀b u,h.get? b=b3 u->h'.get? b=b3 u)(d:h.objs.size<=a)(c:H a=b4):Un fs ex H (upd H a o) h h' where
 keep:=λb u q _ _ _=>k b u q
 slot:=λb u q _ _ _=>⟨u.slots,k b u q⟩
 free:=λb u q n _=>by rw[bA (Bf (Ay (Al q) d))];exact n
 there:=λb u q _=>⟨u,k b u q⟩
 tups:=λb xs q=>by rw[bA (WQ q c)];exact q
 frzs:=λb u xs q=>by rw[bA (WQ q c)];exact q
 tbls:=λb ps q=>⟨#[],by rw[bA (WQ q c),q];simp⟩
def Un.write(c:Mut (H x))(j:e=x∨H e=b3 (.own x))(k:∀b u,b≠e->h.get? b=b3 u->h'.get? b=b3 u)(f:∃u,h'.get? e=b3 u):Un fs ex H (upd H x o) h h':=by
 have g:∀b,H b=b4->b≠x:=λb n z=>by subst z;rw[n]at c;exact c
 have i:∀b,H b=b4->b≠e:=λb n z=>by
  subst z;rcases j with r|r
  ·exact g b n r
  ·rw[n]at r;cases r
 have d:∀b u,H b=b3 u->¬Mut (b3 u)->b≠x:=λb u q nm z=>by subst z;rw[q]at c;exact nm c
 refine⟨λb u q n _ _=>k b u (i b n) q,λb u q n _ _=>⟨u.slots,k b u (i b n) q⟩,λb u q n _=>by rw[bA (g b n)];exact n,λb u q _=>?_,λb xs q=>by rw[bA (d b _ q λz=>z)];exact q,λb u xs q=>by rw[bA (d b _ q λz=>z)];exact q,λb ps q=>⟨#[],by rw[bA (d b _ q λz=>z),q];simp⟩⟩
 by_cases a:b=e
 ·subst a;exact f
 ·exact⟨u,k b u a q⟩
end
def trk(h:Um)(H:Hp):List Ud:=(Az h.objs.size).filter λa=>(H a).isSome
def GV(h:Um)(H:Hp):Um:=Rg h (trk h H)
def Zz(h:Um)(H:Hp):(GV h H).objs.size=h.objs.size:=W.hideAll_size _ _
def lx{h:Um}{H:Hp}{b:Ud}{o:Uq}(e:h.get? b=b3 o)(n:H b=b4):(GV h H).get? b=b3 o:=
 Lg _ e λa=>by have q:(H b).isSome=b8:=(Hr.mp a).2;rw[n]at q;simp at q
def jJ{h:Um}{H:Hp}{b:Ud}{o:Uq}(e:(GV h H).get? b=b3 o):h.get? b=b3 o/\H b=b4:=by
 have a:h.get? b=b3 o:=Qa (trk h H) e;refine⟨a,?_⟩;cases q:H b with
 |none=>rfl
 |some x=>
  have c:b∈trk h H:=Hr.mpr ⟨Cv.mpr (Al a),by simp[q]⟩;have z:(GV h H).get? b=b4:=Ng (trk h H) c;rw[z]at e;cases e
structure Mod(K:Aj)(mg:Ug->Option Uc)(base:Um):Prop where
 kin:K.In base
 glob:base.Ns Ui mg
 blt:∃mb,base.Ns builtinsNs mb/\∀x:Ug,x≠ "__name__" ->mb x=Bp x
 nolimit:base.NoLimit
structure Cx where
 prog:Be
 w:Ul
 K:Aj
 mg:Ug->Option Uc
 base:Um
 A:Bx
 N:List Ug
 s₀:Ae
 H₀:Hp
 env:Env
 outer:List Env
 stack:List Env
 ex:List Ud
 fn:Ug->Bool
 calm:Bool
 pn:List (Ud×Uq)
 xe:Uc->Ae->Prop
def SK(l:List Env):List Ud:=l.filterMap (·.frame)
abbrev Cx.fs(X:Cx):List Ud:=SK X.outer
def Vis(sc:Ut)(x:Ug):Prop:=sc.names.lookup x=b3 .local∨sc.names.lookup x=b3 .cell∨sc.names.lookup x=b3 .free
def B9(sc:Ut)(x:Ug):Prop:=sc.names.lookup x=b3 .local∨sc.names.lookup x=b3 .cell
def Look(env:Env)(h:Um)(m:Ug->Option Uc)(x:Ug)(u:Uc):Prop:=
 (env.kindOf x=b3 .local/\m x=b3 u)∨((env.kindOf x=b3 .cell∨env.kindOf x=b3 .free)/\∃c,env.cells.lookup x=b3 c/\h.IsCell c (b3 u))
structure Cx.Ok(X:Cx):Prop where
 mod:Mod X.K X.mg X.base
 kind:X.env.scope.kind=.function
 glob:X.env.globals=Ui
 blt:X.env.builtins=builtinsNs
 above:X.s₀.heap.objs.size<=X.env.locals
 inj:∀x y c,X.env.cells.lookup x=b3 c->X.env.cells.lookup y=b3 c->x=y
 has:∀x,(X.env.kindOf x=b3 .cell∨X.env.kindOf x=b3 .free)->∃c,X.env.cells.lookup x=b3 c
 cab:∀x c,X.fn x=b8->X.env.cells.lookup x=b3 c->X.s₀.heap.objs.size<=c
 hd:X.calm=b8->X.A.handled=b4
 frames:X.A.frames=b3 X.stack
 stk:X.stack=X.outer∨(X.stack=X.env::X.outer/\X.env.frame=b3 X.env.locals)
 exf:∀b∈X.ex,b≠X.env.locals/\∀x c,X.env.cells.lookup x=b3 c->c≠b
 bs:∀b o,X.base.get? b=b3 o->X.s₀.heap.get? b=b3 o/\X.H₀ b=b4
 bsz:X.base.objs.size<=X.s₀.heap.objs.size
 noex:∀b o,X.base.get? b=b3 o->b∉X.ex
 exfs:∀b∈X.ex,b∉X.fs
 funs:X.s₀.heap.FunFrames X.base X.outer
 frf:∀b∈X.fs,X.H₀ b=b4
structure bM(X:Cx)(aa:List (Ud×Uq))(σ:List (Option V))(H:Hp)(s:Ae):Prop where
 ok:X.Ok
 os:s.os=X.s₀.os
 bare:Lh s.gens
 base:Un X.fs X.ex X.H₀ H X.s₀.heap s.heap
 loc:∃m,s.heap.Ns X.env.locals m/\∀(i:Nat) (x:Ug) (v:V),X.N[i]?=b3 x->σ[i]?=b3 (b3 v)->Vis X.env.scope x->∃u,aG v u/\Look X.env s.heap m x u
 cell:∀x c,X.env.cells.lookup x=b3 c->∃v,s.heap.IsCell c v
 free:H X.env.locals=b4
 freeC:∀x c,X.env.cells.lookup x=b3 c->H c=b4
 pin:∀p∈X.pn++aa,s.heap.get? p.1=b3 p.2/\H p.1=b4/\p.1≠X.env.locals/\p.1∉X.fs/\∀v,p.2.data≠ .cell v
 hok:QR X.prog X.w H s.heap
 len:σ.length=X.N.length
section
variable{X:Cx}{aa:List (Ud×Uq)}{σ:List (Option V)}{H H':Hp}{s:Ae}{h':Um}
def Cx.Ok.nofr(ok:X.Ok){b:Ud}{o:Uq}(e:X.base.get? b=b3 o):b∉X.fs:=λa=>by
 have:=(ok.funs.mem a).1
 rw[e]at this;cases this
def bM.bs(I:bM X aa σ H s):∀b o,X.base.get? b=b3 o->s.heap.get? b=b3 o/\H b=b4:=λb o e=>
 ⟨I.base.keep b o (I.ok.bs b o e).1 (I.ok.bs b o e).2 (I.ok.nofr e) (I.ok.noex b o e),I.base.free b o (I.ok.bs b o e).1 (I.ok.bs b o e).2 (I.ok.noex b o e)⟩
def bM.bk(I:bM X aa σ H s):∀b o,X.base.get? b=b3 o->s.heap.get? b=b3 o:=λb o e=>(I.bs b o e).1
def bM.mod(I:bM X aa σ H s):Mod X.K X.mg X.base:=I.ok.mod
def bM.kIn(I:bM X aa σ H s):X.K.In s.heap:=I.ok.mod.kin.keeps I.bk
def bM.nolimit(I:bM X aa σ H s):s.heap.NoLimit:=I.ok.mod.nolimit.keeps I.bk
def bM.lt(I:bM X aa σ H s):X.env.locals<s.heap.objs.size:=let ⟨_,a,_⟩:=I.loc;a.lt
def bM.sz(I:bM X aa σ H s):X.s₀.heap.objs.size<=s.heap.objs.size:=Dj I.ok.above (Mj I.lt)
def bM.nofs(I:bM X aa σ H s){a:Ud}(h:s.heap.objs.size<=a):a∉X.fs:=λc=>by obtain⟨_,o,b,_⟩:=I.ok.funs.mem c;exact absurd (Ay (Al b) (Dj I.sz h)) (Bu _)
def bM.cne(I:bM X aa σ H s):∀x c,X.env.cells.lookup x=b3 c->c≠X.env.locals:=λx c e z=>by obtain⟨v,o,d,hd⟩:=I.cell x c e;obtain⟨m,⟨o',es,f,a,b,_⟩,_⟩:=I.loc;rw[z,a]at d;cases d;rw[b]at hd;cases hd
def bM.funs(I:bM X aa σ H s):s.heap.FunFrames X.base X.outer:=by
 have all:∀(l:List Env),(∀b∈SK l,b∈X.fs)->X.s₀.heap.FunFrames X.base l->s.heap.FunFrames X.base l:=by
  intro l;induction l with
  |nil=>intro _ _;trivial
  |cons env r f=>
   intro hs hl;obtain⟨j,⟨L,o,a,i,h,hd⟩,g⟩:=hl;have d:L∈X.fs:=hs L (by unfold SK;rw[Jq,a];exact Bb);obtain⟨sl,e⟩:=I.base.slot L o h (I.ok.frf L d) d λz=>I.ok.exfs L z d;exact⟨j,⟨L,_,a,i,e,hd⟩,f (λb c=>hs b (by unfold SK;rw[Jq,a];exact Aq _ c)) g⟩
 exact all X.outer (λ_ c=>c) I.ok.funs
def bM.stack(I:bM X aa σ H s):s.heap.FunFrames X.base X.stack:=by
 rcases I.ok.stk with e|⟨e,b⟩
 ·rw[e];exact I.funs
 ·rw[e]
  obtain⟨m,a,_⟩:=I.loc;refine .cons (by rw[I.ok.kind];decide) b a ?_ I.funs;exact Jd (Dj I.ok.bsz I.ok.above)
def bM.stkSub(I:bM X aa σ H s):∀b∈SK X.stack,b∈X.env.locals::X.fs:=λb a=>by
 rcases I.ok.stk with e|⟨e,c⟩
 ·rw[e]at a;exact Aq _ a
 ·rw[e]at a
  unfold SK at a;rw[Jq,c]at a;exact a
def bM.stkFree(I:bM X aa σ H s):∀b∈SK X.stack,H b=b4:=λb a=>by
 rcases Ai.mp (I.stkSub b a)with e|a
 ·rw[e];exact I.free
 ·obtain⟨_,o,c,_⟩:=I.ok.funs.mem a
  exact I.base.free b o c (I.ok.frf b a) λz=>I.ok.exfs b z a
def bM.step{g':Array GenState}{t':Nat}{d':Drawn}{ch:List Ud}(I:bM X aa σ H s)(h:∀b∈ch,(b∈X.ex∨X.s₀.heap.objs.size<=b)/\b≠X.env.locals/\(∀x c,X.env.cells.lookup x=b3 c->c≠b)/\∀p∈X.pn++aa,p.1≠b)(keep:∀b o,b≠X.env.locals->b∉X.fs->b∉ch->s.heap.get? b=b3 o->H b=b4->h'.get? b=b3 o)(slot:∀b o,b≠X.env.locals->b∈X.fs->b∉ch->s.heap.get? b=b3 o->H b=b4->∃sl,h'.get? b=b3 {o with slots:=sl})(f:∀b o,b∉ch->s.heap.get? b=b3 o->H b=b4->H' b=b4)(there:∀b o,b∉ch->s.heap.get? b=b3 o->∃o',h'.get? b=b3 o')(tups:∀b xs,H b=b3 (.tup xs)->H' b=b3 (.tup xs))(D:∀b o u,H b=b3 (.frz o u)->H' b=b3 (.frz o u))(B:∀b ps,H b=b3 (.tbl ps)->∃more,H' b=b3 (.tbl (ps++more)))(ns:∀m,s.heap.Ns X.env.locals m->h'.Ns X.env.locals m)(G:QR X.prog X.w H' h')(O:Lh g'):bM X aa σ H' {s with heap:=h',gens:=g',drawn:=d',toks:=t'}:=by
 have C:∀b o,X.s₀.heap.get? b=b3 o->b≠X.env.locals:=λb o e=>Bf (Ay (Al e) I.ok.above);have j:∀b o,X.s₀.heap.get? b=b3 o->b∉X.ex->b∉ch:=λb o e a y=>by
  rcases(h b y).1 with z|z
  ·exact a z
  ·exact absurd (Ay (Al e) z) (Bu _)
 have M:∀x c,X.env.cells.lookup x=b3 c->∀v,s.heap.IsCell c v->h'.IsCell c v:=λx c e v q0=>by
  obtain⟨o,A,hd⟩:=q0;have g:c∉ch:=λz=>(h c z).2.2.1 x c e rfl;by_cases hc:c∈X.fs
  ·obtain⟨sl,q⟩:=slot c o (I.cne x c e) hc g A (I.freeC x c e)
   exact⟨_,q,hd⟩
  ·exact⟨o,keep c o (I.cne x c e) hc g A (I.freeC x c e),hd⟩
 refine⟨I.ok,I.os,O,⟨λb o e n y a=>?_,λb o e n y a=>?_,λb o e n a=>?_,λb o e a=>?_,λb xs e=>tups b xs (I.base.tups b xs e),λb o xs e=>D b o xs (I.base.frzs b o xs e),λb ps e=>?_⟩,?_,λx c e=>?_,?_,λx c e=>?_,λp L=>?_,G,I.len⟩
 ·exact keep b o (C b o e) y (j b o e a) (I.base.keep b o e n y a) (I.base.free b o e n a)
 ·obtain⟨sl,t⟩:=I.base.slot b o e n y a
  obtain⟨F,E⟩:=slot b _ (C b o e) y (j b o e a) t (I.base.free b o e n a);exact⟨F,E⟩
 ·obtain⟨o',t⟩:=I.base.there b o e a
  exact f b o' (j b o e a) t (I.base.free b o e n a)
 ·obtain⟨o',t⟩:=I.base.there b o e a
  exact there b o' (j b o e a) t
 ·obtain⟨m1,t⟩:=I.base.tbls b ps e
  obtain⟨m2,E⟩:=B b _ t;exact⟨m1++m2,by rw[E,Array.append_assoc]⟩
 ·obtain⟨m,N,hl⟩:=I.loc
  refine⟨m,ns m N,λi x v t E P=>?_⟩;obtain⟨u,r,l⟩:=hl i x v t E P;refine⟨u,r,?_⟩;rcases l with l|⟨k,c,e,z⟩
  ·exact .inl l
  ·exact .inr ⟨k,c,e,M x c e _ z⟩
 ·obtain⟨v,z⟩:=I.cell x c e
  exact⟨v,M x c e v z⟩
 ·obtain⟨m,⟨o,_,_,A,_⟩,_⟩:=I.loc
  exact f _ o (λz=>(h _ z).2.1 rfl) A I.free
 ·obtain⟨v,o,A,hd⟩:=I.cell x c e
  exact f c o (λz=>(h c z).2.2.1 x c e rfl) A (I.freeC x c e)
 ·obtain⟨e,n,K,J,d⟩:=I.pin p L
  have g:p.1∉ch:=λz=>(h p.1 z).2.2.2 p L rfl;exact⟨keep p.1 p.2 K J g e n,f p.1 p.2 g e n,K,J,d⟩
def bM.un{t':Nat}(I:bM X aa σ H s)(u:Un X.fs [] H H' s.heap h')(c:QR X.prog X.w H' h'):bM X aa σ H' {s with heap:=h',toks:=t'}:=by
 obtain⟨m,⟨o,es,l,h,r⟩,_⟩:=id I.loc;obtain⟨sl,j⟩:=u.any h I.free (by simp);exact I.step (g':=s.gens) (d':=s.drawn) (ch:=[]) (λ_ z=>nomatch z) (λb o _ d _ e n=>u.keep b o e n d (by simp)) (λb o _ d _ e n=>u.slot b o e n d (by simp)) (λb o _ e n=>u.free b o e n (by simp)) (λb o _ e=>u.there b o e (by simp)) u.tups u.frzs u.tbls (λk i=>by obtain⟨o',f,g,a,r'⟩:=i;rw[h]at a;cases a;exact⟨_,f,g,j,r'⟩) c I.bare
def bM.call{g':Array GenState}{t':Nat}{d':Drawn}{ch:List Ud}(I:bM X aa σ H s)(u:Un (SK X.stack) ch H H' s.heap h')(f:QR X.prog X.w H' h')(l:Lh g')(d:∀b∈ch,(b∈X.ex∨X.s₀.heap.objs.size<=b)/\b≠X.env.locals/\(∀x c,X.env.cells.lookup x=b3 c->c≠b)/\∀p∈X.pn++aa,p.1≠b):bM X aa σ H' {s with heap:=h',gens:=g',drawn:=d',toks:=t'}:=by
 obtain⟨m,⟨o,es,v,j,r⟩,_⟩:=id I.loc;obtain⟨sl,g⟩:=u.any j I.free λz=>(d _ z).2.1 rfl;exact I.step (ch:=ch) d (λb o g q hc e n=>u.keep b o e n (λz=>(Ai.mp (I.stkSub b z)).elim g q) hc) (λb o _ _ hc e n=>u.any e n hc) (λb o hc e n=>u.free b o e n hc) (λb o hc e=>u.there b o e hc) u.tups u.frzs u.tbls (λt k=>by obtain⟨o',h,i,a,r'⟩:=k;rw[j]at a;cases a;exact⟨_,h,i,g,r'⟩) f l
def bM.turned{t':Nat}{it:Ud}(I:bM X aa σ H s)(k:∀b o,b≠it->s.heap.get? b=b3 o->h'.get? b=b3 o)(g:H it=b4)(d:it≠X.env.locals)(h1:it∈X.ex∨X.s₀.heap.objs.size<=it)(h2:∀x c,X.env.cells.lookup x=b3 c->c≠it)(j:∀p∈X.pn++aa,p.1≠it):bM X aa σ H {s with heap:=h',toks:=t'}:=by
 have a:∀b u,H b=b3 u->b≠it:=λb u e z=>by rw[z,g]at e;cases e
 refine I.step (g':=s.gens) (d':=s.drawn) (ch:=[it]) (λb i=>?_) (λb o _ _ hc e _=>k b o (λz=>hc (by simp[z])) e) (λb o _ _ hc e _=>⟨o.slots,k b o (λz=>hc (by simp[z])) e⟩) (λ_ _ _ _ n=>n)
  (λb o hc e=>⟨o,k b o (λz=>hc (by simp[z])) e⟩) (λ_ _ e=>e) (λ_ _ _ e=>e) (λb ps e=>⟨#[],by rw[e];simp⟩) (λm h=>?_) (λb u e=>?_) I.bare
 ·have e : b = it := by simpa using i
  subst e;exact⟨h1,d,h2,j⟩
 ·obtain⟨o,es,l,f,r⟩:=h
  exact⟨o,es,l,k _ o (Ck d) f,r⟩
 ·refine (I.hok b u e).stay (λc v hc q => k c v ?_ q) (λ_ q => q) λ_ _ q => q
  rcases hc with z|z
  ·rw[z];exact a b u e
  ·exact a c _ z
def bM.tok(I:bM X aa σ H s)(t:Nat):bM X aa σ H {s with toks:=t}:=I.un (h':=s.heap) (t':=t) Un.refl I.hok
def bM.kept{t':Nat}(I:bM X aa σ H s)(k:∀b u,s.heap.get? b=b3 u->h'.get? b=b3 u):bM X aa σ H {s with heap:=h',toks:=t'}:=I.un (Un.kept k) (I.hok.kept k)
def bM.laid{a:Ud}{o:HO}{t':Nat}(I:bM X aa σ H s)(k:∀b u,s.heap.get? b=b3 u->h'.get? b=b3 u)(c:s.heap.objs.size<=a)(new:Y7 X.prog X.w (upd H a o) h' a o):bM X aa σ (upd H a o) {s with heap:=h',toks:=t'}:=I.un (Un.laid k c (I.hok.fresh c)) (I.hok.laid k c new)
def bM.write{x e:Ud}{o:HO}{t':Nat}(I:bM X aa σ H s)(c:Mut (H x))(d:e=x∨H e=b3 (.own x))(k:∀b u,b≠e->s.heap.get? b=b3 u->h'.get? b=b3 u)(a:∃u,h'.get? e=b3 u)(new:Y7 X.prog X.w (upd H x o) h' x o):bM X aa σ (upd H x o) {s with heap:=h',toks:=t'}:=I.un (Un.write c d k a) (I.hok.write c d k a new)
def bM.weak{a:List (Option V)}(I:bM X aa σ H s)(hl:a.length=σ.length)(w:∀(i:Nat) v,a[i]?=b3 (b3 v)->σ[i]?=b3 (b3 v)):bM X aa a H s:=
 ⟨I.ok,I.os,I.bare,I.base,let ⟨m,c,b⟩:=I.loc;⟨m,c,λi x v f e d=>b i x v f (w i v e) d⟩,I.cell,I.free,I.freeC,I.pin,I.hok,hl.trans I.len⟩
def bM.pins_of{a:List (Ud×Uq)}(I:bM X aa σ H s)(h:∀p∈a,s.heap.get? p.1=b3 p.2/\H p.1=b4/\p.1≠X.env.locals/\p.1∉X.fs/\∀v,p.2.data≠ .cell v):bM X a σ H s:=
 ⟨I.ok,I.os,I.bare,I.base,I.loc,I.cell,I.free,I.freeC,λp b=>(Bq.mp b).elim (λz=>I.pin p (Bm _ z)) (h p),I.hok,I.len⟩
def E7{N:List Ug}(c:N.Nodup){i j:Nat}{x:Ug}(a:N[i]?=b3 x)(b:N[j]?=b3 x):i=j:=by obtain⟨h1,e⟩:=Ag.mp a;obtain⟨h2,d⟩:=Ag.mp b;exact(Qj c).mp (e.trans d.symm)
def NY{M:Uy}{A:Bx}{E:Uc->Ae->Prop}{i:Nat}{x:Ug}{v:V}{u:Uc}{Q:Unit->Ae->Prop}(I:bM X aa σ H s)(hN:X.N.Nodup)(hi:X.N[i]?=b3 x)(g:B9 X.env.scope x)(r:aG v u)(h:∀s',bM X aa (σ.set i (b3 v)) H s'->(∃a,Fa a s.heap s'.heap/\(a=X.env.locals∨X.env.cells.lookup x=b3 a))->Q () s')(hf:X.fn x=b8∨X.env.scope.names.lookup x=b3 .local:=by first|exact .inl rfl|exact .inr rfl|assumption):Ue M A (storeName X.env x u) Q E s:=by
 obtain⟨m,Z,hl⟩:=id I.loc;have jm:(X.env.scope.kind== .class || (X.env.scope.kind== .module&&X.env.locals !=X.env.globals))=ba:=by rw[I.ok.kind];rfl
 have B:i<σ.length:=by rw[I.len];exact(Ag.mp hi).1
 have cne:=I.cne;have dk:∀{a:Ud}{h':Um},(∃o,s.heap.get? a=b3 o/\H a=b4)->Fa a s.heap h'->QR X.prog X.w H h':=λ{a h'} ha hs b ob e=>by
  obtain⟨_,_,bq⟩:=ha;refine(I.hok b ob e).stay (λc L hc q=>(hs.2 c ?_).trans q) (λ_ q=>q) λ_ _ q=>q;rintro rfl;rcases hc with rfl|hc
  ·rw[bq]at e;cases e
  ·rw[bq]at hc;cases hc
 rcases g with t|t
 ·refine wpAny_storeName_local t Z (λh' Y hs => ?_) jm
  obtain⟨oL,_,_,W,_⟩:=id Z;refine h _ ⟨I.ok,I.os,I.bare,⟨λb o e n F g=>?_,λb o e n F g=>?_,I.base.free,λb o e g=>?_,I.base.tups,I.base.frzs,I.base.tbls⟩,⟨_,Y,λj y R f l e3=>?_⟩,λy c e=>?_,I.free,I.freeC,λp U=>?_,dk ⟨oL,W,I.free⟩ hs,by simpa using I.len⟩ ⟨_,hs,.inl rfl⟩
  ·exact(hs.2 b (Bf (Ay (Al e) I.ok.above))).trans (I.base.keep b o e n F g)
  ·obtain⟨sl,f⟩:=I.base.slot b o e n F g
   exact⟨sl,(hs.2 b (Bf (Ay (Al e) I.ok.above))).trans f⟩
  ·obtain⟨o',f⟩:=I.base.there b o e g
   exact⟨o',(hs.2 b (Bf (Ay (Al e) I.ok.above))).trans f⟩
  ·by_cases C:j=i
   ·subst C
    rw[hi]at f;cases f;rw[Dk B]at l;cases l;exact⟨u,r,.inl ⟨t,by simp⟩⟩
   ·rw[Bz (Ck C)]at l
    obtain⟨S,r',q⟩:=hl j y R f l e3;refine⟨S,r',?_⟩;rcases q with⟨k,e⟩|⟨k,c,e,z⟩
    ·refine .inl ⟨k,?_⟩
     have:y≠x:=λe=>C (E7 hN f (e▸hi))
     simp[this,e]
    ·exact .inr ⟨k,c,e,z.sameBut hs (cne y c e)⟩
  ·obtain⟨L,z⟩:=I.cell y c e
   exact⟨L,z.sameBut hs (cne y c e)⟩
  ·obtain⟨e,n,O,T,d⟩:=I.pin p U
   exact⟨(hs.2 p.1 O).trans e,n,O,T,d⟩
 ·have D:X.fn x=b8:=by
   rcases hf with z|z
   ·exact z
   ·rw[z]at t;cases t
  obtain⟨c,hc⟩:=I.ok.has x (.inl t);obtain⟨L,z⟩:=I.cell x c hc;refine wpAny_storeName_cell I.ok.kind t hc z (λh' K hs=>?_);obtain⟨oc,G,je⟩:=id z;refine h {s with heap:=h'} ⟨I.ok,I.os,I.bare,⟨λb o e n F g=>?_,λb o e n F g=>?_,I.base.free,λb o e g=>?_,I.base.tups,I.base.frzs,I.base.tbls⟩,⟨m,Z.sameBut hs (Ck (cne x c hc)),λj y R f l e3=>?_⟩,λy P e=>?_,I.free,I.freeC,λp U=>?_,dk ⟨oc,G,I.freeC x c hc⟩ hs,by simpa using I.len⟩ ⟨c,hs,.inr hc⟩
  ·exact(hs.2 b (Bf (Ay (Al e) (I.ok.cab x c D hc)))).trans (I.base.keep b o e n F g)
  ·obtain⟨sl,f⟩:=I.base.slot b o e n F g
   exact⟨sl,(hs.2 b (Bf (Ay (Al e) (I.ok.cab x c D hc)))).trans f⟩
  ·obtain⟨o',f⟩:=I.base.there b o e g
   exact⟨o',(hs.2 b (Bf (Ay (Al e) (I.ok.cab x c D hc)))).trans f⟩
  ·by_cases C:j=i
   ·subst C
    rw[hi]at f;cases f;rw[Dk B]at l;cases l;exact⟨u,r,.inr ⟨.inl t,c,hc,K⟩⟩
   ·rw[Bz (Ck C)]at l
    obtain⟨S,r',q⟩:=hl j y R f l e3;refine⟨S,r',?_⟩;rcases q with q|⟨k,P,e,z'⟩
    ·exact .inl q
    ·refine .inr ⟨k,P,e,z'.sameBut hs ?_⟩
     rintro rfl;exact C (E7 hN f (I.ok.inj _ _ _ e hc▸hi))
  ·by_cases J:P=c
   ·subst J;exact⟨_,K⟩
   ·obtain⟨w2,z2⟩:=I.cell y P e
    exact⟨w2,z2.sameBut hs J⟩
  ·obtain⟨e,n,O,T,d⟩:=I.pin p U
   refine⟨(hs.2 p.1 ?_).trans e,n,O,T,d⟩;intro q;rw[q,G]at e;have q':oc=p.2:=Cq e;exact d L (by rw[<-q'];exact je)
def XU{M:Uy}{A:Bx}{E:Uc->Ae->Prop}{i:Nat}{x:Ug}{v:V}{u:Uc}{Q:Unit->Ae->Prop}(I:bM X aa σ H s)(c:X.N.Nodup)(hi:X.N[i]?=b3 x)(a:B9 X.env.scope x)(r:aG v u)(h:∀s',bM X aa (σ.set i (b3 v)) H s'->Q () s')(b:X.fn x=b8∨X.env.scope.names.lookup x=b3 .local:=by first|exact .inl rfl|exact .inr rfl|assumption):Ue M A (storeName X.env x u) Q E s:=
 NY I c hi a r (λs' d _=>h s' d) b
def bM.call'{s':Ae}{ch:List Ud}(I:bM X aa σ H s)(f:s'.os=s.os)(u:Un (SK X.stack) ch H H' s.heap s'.heap)(a:QR X.prog X.w H' s'.heap)(g:Lh s'.gens)(d:∀b∈ch,(b∈X.ex∨X.s₀.heap.objs.size<=b)/\b≠X.env.locals/\(∀x c,X.env.cells.lookup x=b3 c->c≠b)/\∀p∈X.pn++aa,p.1≠b):bM X aa σ H' s':=by obtain⟨h',g',d',t',o'⟩:=s';have e:o'=s.os:=f;subst e;exact I.call (g':=g') (t':=t') (d':=d') u a g d
end
abbrev XK:=Uc->Option Ud->Hp->Prop
abbrev St:=List (Option V)
abbrev VK:=V->Hp->Prop
abbrev TE:=St->Hp->VK->Prop
abbrev TT:=St->Hp->(Bool->Hp->Prop)->Prop
abbrev TA:=St->Hp->(List V->Hp->Prop)->Prop
structure KA where
 nx:St->Hp->Prop
 rt:VK
 bk:St->Hp->Prop:=λ_ _=>False
 ct:St->Hp->Prop:=λ_ _=>False
abbrev TS:=KA->St->Hp->Prop
inductive EPi(X:Cx)(aa:List (Ud×Uq))(σ:St)(Q:VK)(u:Uc)(s':Ae):Prop
 |mk (v:_) (H':_) (h0:bM X aa σ H' s') (h1:aG v u) (h2:Q v H'):EPi X aa σ Q u s'
def EP(X:Cx)(aa:List (Ud×Uq))(σ:St)(Q:VK)(u:Uc)(s':Ae):Prop:=EPi X aa σ Q u s'
def TP(X:Cx)(aa:List (Ud×Uq))(σ:St)(Q:Bool->Hp->Prop)(b:Bool)(s':Ae):Prop:=∃H',bM X aa σ H' s'/\Q b H'
inductive APi(X:Cx)(aa:List (Ud×Uq))(σ:St)(Q:List V->Hp->Prop)(us:List Uc)(s':Ae):Prop
 |mk (vs:_) (H':_) (h0:bM X aa σ H' s') (h1:aK vs us) (h2:Q vs H'):APi X aa σ Q us s'
def AP(X:Cx)(aa:List (Ud×Uq))(σ:St)(Q:List V->Hp->Prop)(a:List Uc)(s':Ae):Prop:=APi X aa σ Q a s'
def SP(X:Cx)(aa:List (Ud×Uq))(D:KA)(f:Flow)(s':Ae):Prop:=
 match f with
 |.next=>∃a H',bM X aa a H' s'/\D.nx a H'
 |.brk=>∃a H',bM X aa a H' s'/\D.bk a H'
 |.cont=>∃a H',bM X aa a H' s'/\D.ct a H'
 |.ret u=>∃v a H',bM X aa a H' s'/\aG v u/\D.rt v H'
def PE(X:Cx)(e:Uj)(t:TE):Prop:=
 ∀(aa:List (Ud×Uq)) (s:Ae) (σ:St) (H:Hp) (Q:VK),bM X aa σ H s->t σ H Q->Ue (Uf X.prog X.w) X.A (eval e X.env) (EP X aa σ Q) X.xe s
def PT(X:Cx)(e:Uj)(t:TT):Prop:=
 ∀(aa:List (Ud×Uq)) (s:Ae) (σ:St) (H:Hp) (Q:Bool->Hp->Prop),bM X aa σ H s->t σ H Q->Ue (Uf X.prog X.w) X.A (isTrue e X.env (eval e X.env)) (TP X aa σ Q) X.xe s
def PW(X:Cx)(e:Uj)(t:TT):Prop:=
 ∀(a:Ux Uc) (aa:List (Ud×Uq)) (s:Ae) (σ:St) (H:Hp) (Q:Bool->Hp->Prop),bM X aa σ H s->t σ H Q->Ue (Uf X.prog X.w) X.A (isTrue e X.env a) (TP X aa σ Q) X.xe s
def PW.pt{X:Cx}{e:Uj}{t:TT}(h:PW X e t):PT X e t:=h _
def PA(X:Cx)(es:List Uj)(t:TA):Prop:=
 ∀(pos:Pos) (aa:List (Ud×Uq)) (s:Ae) (σ:St) (H:Hp) (Q:List V->Hp->Prop),bM X aa σ H s->t σ H Q->Ue (Uf X.prog X.w) X.A (spliced (Ei pos (Uh es X.env))) (AP X aa σ Q) X.xe s
def PS(X:Cx)(st:Up)(t:TS):Prop:=
 ∀(aa:List (Ud×Uq)) (s:Ae) (σ:St) (H:Hp) (D:KA),bM X aa σ H s->t D σ H->Ue (Uf X.prog X.w) X.A (exec st X.env) (SP X aa D) X.xe s
def V6(X:Cx)(st:List Up)(t:TS):Prop:=
 ∀(aa:List (Ud×Uq)) (s:Ae) (σ:St) (H:Hp) (D:KA),bM X aa σ H s->t D σ H->Ue (Uf X.prog X.w) X.A (execs st X.env) (SP X aa D) X.xe s
def YC{α:Type}{t:Ux α}{Q b:α->Ae->Prop}{M:Uy}{A:Bx}{E:Uc->Ae->Prop}{s:Ae}(h:Ue M A t Q E s)(c:∀a s,Q a s->b a s):Ue M A t b E s:=At h c λ_ _ x=>x
section
variable{X:Cx}
def NZ(i:Nat):TE:=λσ H Q=>∃v,σ[i]?=b3 (b3 v)/\Q v H
def tC(v:V):TE:=λ_ H Q=>Q v H
def C9{i:Nat}{x:Ug}{pos:Pos}(n:X.N[i]?=b3 x)(g:Vis X.env.scope x)(hd:(x==("__debug__":Ug))=ba:=by decide)(d:(x==("__classdict__":Ug))=ba:=by decide):PE X (.Name x pos) (NZ i):=by
 intro aa s σ H Q I h;obtain⟨v,e,h⟩:=h;obtain⟨m,j,hl⟩:=I.loc;obtain⟨u,r,l⟩:=hl i x v n e g;have b:EP X aa σ Q u s:=⟨v,H,I,r,h⟩;rcases l with⟨a,k⟩|⟨a,c,hc,f⟩
 ·exact Kw (Hf I.ok.kind a j k b) hd
 ·rcases a with a|a
  ·exact Kw (wpAny_loadName_cell I.ok.kind a hc f b) hd
  ·exact Kw (wpAny_loadName_free I.ok.kind a hc f b d) hd
def dC{i j pos}:PE X (.Constant (.int i) j pos) (tC (.int i)):=λ_ _ _ H _ I h=>wpAny_Constant_int ⟨.int i,H,I.tok _,⟨_,rfl⟩,h⟩
def hV{b j pos}:PE X (.Constant (.bool b) j pos) (tC (.bl b)):=λ_ _ _ H _ I h=>Constant_bool ⟨.bl b,H,I,rfl,h⟩
def k9{j pos}:PE X (.Constant .none j pos) (tC .non):=λ_ _ _ H _ I h=>Constant_none ⟨.non,H,I,rfl,h⟩
def Xr{x j pos}:PE X (.Constant (.str x) j pos) (tC (.str x)):=λ_ _ _ H _ I h=>Ob ⟨.str x,H,I.tok _,⟨_,rfl⟩,h⟩
def Gl(X:Cx)(x:Ug):Prop:=X.env.kindOf x=b3 .globalImplicit
def TR{E:Uc->Ae->Prop}{aa:List (Ud×Uq)}{s:Ae}{σ:St}{H:Hp}{x:Ug}{u:Uc}{pos:Pos}{Q:Uc->Ae->Prop}(I:bM X aa σ H s)(b:Gl X x)(a:X.mg x=b3 u)(h:Q u s)(hd:(x==("__debug__":Ug))=ba:=by decide):Ue (Uf X.prog X.w) X.A (eval (.Name x pos) X.env) Q E s:=
 Hc I.ok.kind b (Li (by rw[I.ok.glob];exact I.mod.glob.keeps I.bk) a h) hd
def P9{E:Uc->Ae->Prop}{aa:List (Ud×Uq)}{s:Ae}{σ:St}{H:Hp}{x:Ug}{u:Uc}{pos:Pos}{Q:Uc->Ae->Prop}(I:bM X aa σ H s)(d:Gl X x)(c:X.mg x=b4)(a:Bp x=b3 u)(h:Q u s)(b:x≠ "__name__":=by decide)(hd:(x==("__debug__":Ug))=ba:=by decide):Ue (Uf X.prog X.w) X.A (eval (.Name x pos) X.env) Q E s:=by obtain⟨e,h1,h2⟩:=I.mod.blt;exact Hc I.ok.kind d (Calls.loadGlobal_builtin (by rw[I.ok.glob];exact I.mod.glob.keeps I.bk) c (by rw[I.ok.blt];exact h1.keeps I.bk) ((h2 x b).trans a) h) hd
def dW{x:Ug}{v:V}{u:Uc}{pos:Pos}(b:Gl X x)(a:X.mg x=b3 u)(r:aG v u)(hd:(x==("__debug__":Ug))=ba:=by decide):PE X (.Name x pos) (tC v):=
 λ_ _ _ H _ I h=>TR I b a ⟨v,H,I,r,h⟩ hd
def kW{x:Ug}{v:V}{u:Uc}{pos:Pos}(d:Gl X x)(c:X.mg x=b4)(a:Bp x=b3 u)(r:aG v u)(b:x≠ "__name__":=by decide)(hd:(x==("__debug__":Ug))=ba:=by decide):PE X (.Name x pos) (tC v):=
 λ_ _ _ H _ I h=>P9 I d c a ⟨v,H,I,r,h⟩ b hd
variable{a b:Uj}{ta tb:TE}{pos:Pos}
def tB(t:TE):TT:=λσ H Q=>t σ H λx H1=>∃c,x=.bl c/\Q c H1
def Yz{e:Uj}{t:TE}(h:PE X e t)(c:∀a,isTrue e X.env a=(do let v<-a;Mk e.pos;Ss [v] (truthy v)):=by intro _;rfl):PT X e (tB t):=by intro aa s σ H Q I hw;refine isTrue_plain (YC (h aa s σ H _ I hw) λv s1 ⟨x,H1,f,b,q1⟩=>?_) (c _);obtain⟨d,rfl,q⟩:=q1;cases b;exact Fd ⟨H1,f,q⟩
variable{tA tB':TT}{rest:List Uj}
def tAnd(t u:TT):TT:=λσ H Q=>t σ H λc H1=>if c=b8 then u σ H1 Q else Q ba H1
def tOr(t u:TT):TT:=λσ H Q=>t σ H λc H1=>if c=b8 then Q b8 H1 else u σ H1 Q
def tNot(t:TT):TT:=λσ H Q=>t σ H λc H1=>Q (!c) H1
def iJ(b:PT X a tA):PW X (.BoolOp .And [a] pos) tA:=by
 intro d aa s σ H Q I h;refine isTrue_and (YC (b aa s σ H Q I h) λc s1 e=>?_);cases c with
 |true=>exact isTrue_and_nil e
 |false=>exact e
def jX(b:PT X a tA):PW X (.BoolOp .Or [a] pos) tA:=by
 intro d aa s σ H Q I h;refine isTrue_or (YC (b aa s σ H Q I h) λc s1 e=>?_);cases c with
 |false=>exact isTrue_or_nil e
 |true=>exact e
def nC(g:PT X a tA)(f:PW X (.BoolOp .And (b::rest) pos) tB'):PW X (.BoolOp .And (a::b::rest) pos) (tAnd tA tB'):=by
 intro e aa s σ H Q I h;refine isTrue_and (YC (g aa s σ H _ I h) λc s1 ⟨H1,d,q1⟩=>?_);cases c with
 |true=>exact f e aa s1 σ H1 Q d q1
 |false=>exact⟨H1,d,q1⟩
def Zd(g:PT X a tA)(f:PW X (.BoolOp .Or (b::rest) pos) tB'):PW X (.BoolOp .Or (a::b::rest) pos) (tOr tA tB'):=by
 intro e aa s σ H Q I h;refine isTrue_or (YC (g aa s σ H _ I h) λc s1 ⟨H1,d,q1⟩=>?_);cases c with
 |true=>exact⟨H1,d,q1⟩
 |false=>exact f e aa s1 σ H1 Q d q1
def dE(b:PT X a tA):PT X (.UnaryOp .Not a pos) (tNot tA):=by intro aa s σ H Q I h;exact isTrue_not (b aa s σ H (λc H1=>Q (!c) H1) I h)
def iR(ta tb:TE):TE:=λσ H Q=>ta σ H λx H1=>∃c,x=.bl c/\if c=b8 then tb σ H1 Q else Q (.bl ba) H1
def nS{op}{t:TE}(h:PE X a t):PE X (.BoolOp op [a] pos) t:=λaa s σ H Q I hw=>BoolOp_one (h aa s σ H Q I hw)
def l6(g:PE X a ta)(f:PE X (.BoolOp .And (b::rest) pos) tb):PE X (.BoolOp .And (a::b::rest) pos) (iR ta tb):=by
 intro aa s σ H Q I h;refine BoolOp_and (YC (g aa s σ H _ I h) λv s1 ⟨x,H1,d,e,q1⟩=>?_);obtain⟨c,rfl,q1⟩:=q1;cases e;refine Fd ?_;cases c with
 |true=>exact f aa s1 σ H1 Q d q1
 |false=>exact⟨.bl ba,H1,d,rfl,q1⟩
def tIf(t:TT)(ta tb:TE):TE:=λσ H Q=>t σ H λc H1=>if c=b8 then ta σ H1 Q else tb σ H1 Q
def K8{c:Uj}(hc:PT X c tA)(g:PE X a ta)(f:PE X b tb):PE X (.IfExp c a b pos) (tIf tA ta tb):=by
 intro aa s σ H Q I h;refine wpAny_IfExp (YC (hc aa s σ H _ I h) λd s1 ⟨H1,e,q1⟩=>?_);cases d with
 |true=>exact g aa s1 σ H1 Q e q1
 |false=>exact f aa s1 σ H1 Q e q1
end
def WW(K:Aj)(H:Hp)(a:Ud)(xs:List V):Prop:=
 Rd H a (.lst xs)∨
  ∃(o:Uq) (its:Array Uc) (n:Nat),K.lookup a=b3 o/\o.cls=.type "list" /\o.dict=b4/\o.data=.seq its n/\its.size<=sizeLine/\aK xs its.toList
def U6(K:Aj)(H:Hp)(a:Ud)(xs:List V):Prop:=
 Rd H a (.tup xs)∨
  ∃(o:Uq) (its:Array Uc) (n:Nat),K.lookup a=b3 o/\o.cls=.type "tuple" /\o.data=.seq its n/\its.size<=sizeLine/\aK xs its.toList
noncomputable def absV:Uc->Option V
 |.none=>b3 .non
 |.bool b=>b3 (.bl b)
 |.int i _=>b3 (.int i)
 |.str x _=>b3 (.str x)
 |.bytes b _=>b3 (.byt b)
 |.float b _=>b3 (.flt b)
 |.ref a=>b3 (.ref a)
 |.type n=>b3 (.ty n)
 |_=>b4
def aG.abs{x:V}{u:Uc}(r:aG x u):absV u=b3 x:=by
 cases x with
 |non=>cases r;rfl
 |bl _=>cases r;rfl
 |int _=>obtain⟨t,rfl⟩:=r;rfl
 |str _=>obtain⟨t,rfl⟩:=r;rfl
 |byt _=>obtain⟨t,rfl⟩:=r;rfl
 |flt _=>obtain⟨t,rfl⟩:=r;rfl
 |ref _=>cases r;rfl
 |ty _=>cases r;rfl
def aG.inj{x y:V}{u:Uc}(r:aG x u)(q:aG y u):x=y:=Cq (r.abs.symm.trans q.abs)
theorem aK.inj:∀{xs ys:List V}{a:List Uc},aK xs a->aK ys a->xs=ys
 |_,_,_,.nil,.nil=>rfl
 |_,_,_,.cons r t,.cons r' t'=>by rw[r.inj r',aK.inj t t']
section
variable{X:Cx}{aa:List (Ud×Uq)}{σ:St}{H:Hp}{s:Ae}{a:Ud}{xs ys:List V}
def WW.of{K:Aj}(h:H a=b3 (.lst xs)):WW K H a xs:=.inl (.inl h)
def U6.of{K:Aj}(h:H a=b3 (.tup xs)):U6 K H a xs:=.inl (.inl h)
def bM.list(I:bM X aa σ H s)(h:WW X.K H a xs):∃its:List Uc,aK xs its/\PlainL s.heap a its.toArray/\xs.length<=sizeLine:=by
 rcases h with h|⟨o,its,n,b,hc,hd,hs,hz,r⟩
 ·obtain⟨z,its,n,r,e⟩:=h.ok I.hok
  exact⟨its,r,⟨_,n,e,rfl,rfl,rfl⟩,z⟩
 ·refine ⟨its.toList,r,⟨o,n,I.kIn a o b,hc,hd,by simpa using hs⟩,?_⟩
  have e:=r.length;simp only[Gf]at e;lia
def bM.tuple(I:bM X aa σ H s)(h:U6 X.K H a xs):∃its:List Uc,aK xs its/\IsTup s.heap a its.toArray/\xs.length<=sizeLine:=by
 rcases h with h|⟨o,its,n,b,hc,hs,hz,r⟩
 ·obtain⟨z,its,r,p⟩:=h.ok I.hok
  exact⟨its,r,p,z⟩
 ·refine ⟨its.toList,r,⟨o,I.kIn a o b,hc,n,by simpa using hs⟩,?_⟩
  have e:=r.length;simp only[Gf]at e;lia
def bM.list_inj(I:bM X aa σ H s)(h:WW X.K H a xs)(h':WW X.K H a ys):xs=ys:=by
 obtain⟨its,r,⟨o,n,e,_,_,d⟩,_⟩:=I.list h;obtain⟨its',r',⟨o',f,b,_,_,d'⟩,_⟩:=I.list h';rw[e]at b;cases b;rw[d]at d';injection d' with c _;have:its=its':=by simpa using congrArg Tj c
 subst this;exact r.inj r'
def bM.tuple_inj(I:bM X aa σ H s)(h:U6 X.K H a xs)(h':U6 X.K H a ys):xs=ys:=by
 obtain⟨its,r,⟨o,e,_,n,d⟩,_⟩:=I.tuple h;obtain⟨its',r',⟨o',b,_,f,d'⟩,_⟩:=I.tuple h';rw[e]at b;cases b;rw[d]at d';injection d' with c _;have:its=its':=by simpa using congrArg Tj c
 subst this;exact r.inj r'
end
abbrev Cx.wish(X:Cx)(E:Uc->Ae->Prop):Cx:={X with xe:=E}
abbrev Cx.nox(X:Cx):Cx:=X.wish λ_ _=>False
def Cx.Ok.wish{X:Cx}(ok:X.Ok)(E:Uc->Ae->Prop):(X.wish E).Ok:=
 ⟨ok.mod,ok.kind,ok.glob,ok.blt,ok.above,ok.inj,ok.has,ok.cab,ok.hd,ok.frames,ok.stk,ok.exf,ok.bs,ok.bsz,ok.noex,ok.exfs,ok.funs,ok.frf⟩
def Cx.Ok.unwish{X:Cx}{E:Uc->Ae->Prop}(ok:(X.wish E).Ok):X.Ok:=
 ⟨ok.mod,ok.kind,ok.glob,ok.blt,ok.above,ok.inj,ok.has,ok.cab,ok.hd,ok.frames,ok.stk,ok.exf,ok.bs,ok.bsz,ok.noex,ok.exfs,ok.funs,ok.frf⟩
section
variable{X:Cx}{aa:List (Ud×Uq)}{σ:St}{H:Hp}{s:Ae}{E:Uc->Ae->Prop}
def bM.wish(I:bM X aa σ H s)(E:Uc->Ae->Prop):bM (X.wish E) aa σ H s:=⟨I.ok.wish E,I.os,I.bare,I.base,I.loc,I.cell,I.free,I.freeC,I.pin,I.hok,I.len⟩
def bM.unwish(I:bM (X.wish E) aa σ H s):bM X aa σ H s:=⟨I.ok.unwish,I.os,I.bare,I.base,I.loc,I.cell,I.free,I.freeC,I.pin,I.hok,I.len⟩
def SP.unwish{D:KA}{f:Flow}{s':Ae}(h:SP (X.wish E) aa D f s'):SP X aa D f s':=by
 cases f with
 |next=>obtain⟨a,H',I,q⟩:=h;exact⟨a,H',I.unwish,q⟩
 |brk=>obtain⟨a,H',I,q⟩:=h;exact⟨a,H',I.unwish,q⟩
 |cont=>obtain⟨a,H',I,q⟩:=h;exact⟨a,H',I.unwish,q⟩
 |ret u=>obtain⟨v,a,H',I,r,q⟩:=h;exact⟨v,a,H',I.unwish,r,q⟩
def V6.nox{st:List Up}{t:TS}(h:V6 X.nox st t):V6 X st t:=λaa s σ H D I hw=>
 At (h aa s σ H D (I.wish _) hw) (λ_ _ q=>q.unwish) λ_ _ z=>Gw z
end
section
variable{X:Cx}{st:Up}{rest:List Up}{t u:TS}{e:Uj}{te:TE}{pos:Pos}
def dM:TS:=λD σ H=>D.nx σ H
def tSeq(t u:TS):TS:=λD σ H=>t {D with nx:=u D} σ H
def BA:V6 X [] dM:=λ_ _ σ H _ I h=>Hs ⟨σ,H,I,h⟩
def O0(h1:PS X st t)(h2:V6 X rest u):V6 X (st::rest) (tSeq t u):=by
 intro aa s σ H D I h;refine Lv (YC (h1 aa s σ H {D with nx:=u D} I h) λf s1 q=>?_);cases f with
 |next=>
  obtain⟨a,H',b,q⟩:=q;exact h2 aa s1 a H' D b q
 |ret v=>exact q
 |brk=>exact q
 |cont=>exact q
def bM.quiet{aa:List (Ud×Uq)}{σ:St}{H:Hp}{s:Ae}(I:bM X aa σ H s):Rh X.env=ba:=by simp[Rh,I.ok.kind]
def o6(te:TE):TS:=λD σ H=>te σ H λ_ H1=>D.nx σ H1
def gM(a:PE X e te)(hs:Ur e b4 pos.line X.env=pure ba:=by rfl):PS X (.Expr e pos) (o6 te):=by intro aa s σ H D I h;exact wpAny_Expr_any (YC (a aa s σ H _ I h) λv s1 ⟨x,H1,b,c,q1⟩=>⟨σ,H1,b,q1⟩) I.quiet hs
def tRet(te:TE):TS:=λD σ H=>te σ H D.rt
def DE(b:PE X e te):PS X (.Return (b3 e) pos) (tRet te):=by intro aa s σ H D I h;exact wpAny_Return_some (YC (b aa s σ H _ I h) λv s1 ⟨x,H1,c,a,q1⟩=>⟨x,σ,H1,c,a,q1⟩)
def tIfS(c:TT)(t u:TS):TS:=λD σ H=>c σ H λb H1=>if b=b8 then t D σ H1 else u D σ H1
def Yt{c:Uj}{a b:List Up}{tc:TT}(hc:PT X c tc)(g:V6 X a t)(f:V6 X b u):PS X (.If c a b pos) (tIfS tc t u):=by
 intro aa s σ H D I h;refine wpAny_If (YC (hc aa s σ H _ I h) λd s1 ⟨H1,e,q1⟩=>?_);cases d with
 |true=>exact g aa s1 σ H1 D e q1
 |false=>exact f aa s1 σ H1 D e q1
def mG:TS:=λ_ _ _=>False
def lB{a:List Up}:V6 X a mG:=λ_ _ _ _ _ _ h=>h.elim
end
abbrev TG:=V->St->Hp->(St->Hp->Prop)->Prop
abbrev TGs:=List V->St->Hp->(St->Hp->Prop)->Prop
def PG(X:Cx)(b:Uj)(t:TG):Prop:=
 ∀(aa:List (Ud×Uq)) (s:Ae) (σ:St) (H:Hp) (v:V) (u:Uc) (Q:St->Hp->Prop),bM X aa σ H s->aG v u->t v σ H Q->
  Ue (Uf X.prog X.w) X.A (Fk b X.env u) (λ_ s'=>∃a H',bM X aa a H' s'/\Q a H') X.xe s
def AA(X:Cx)(c:List Uj)(t:TGs):Prop:=
 ∀(aa:List (Ud×Uq)) (s:Ae) (σ:St) (H:Hp) (vs:List V) (b:List Uc) (Q:St->Hp->Prop),bM X aa σ H s->aK vs b->t vs σ H Q->
  Ue (Uf X.prog X.w) X.A (Uv ((Uk c X.env).map (·.2)) b) (λ_ s'=>∃a H',bM X aa a H' s'/\Q a H') X.xe s
section
variable{X:Cx}{pos:Pos}
def EO(i:Nat):TG:=λv σ H Q=>Q (σ.set i (b3 v)) H
def Q6{i:Nat}{x:Ug}(c:X.N.Nodup)(hi:X.N[i]?=b3 x)(a:B9 X.env.scope x)(b:X.fn x=b8∨X.env.scope.names.lookup x=b3 .local:=by first|exact .inl rfl|exact .inr rfl|assumption):PG X (.Name x pos) (EO i):=by intro aa s σ H v u Q I r h;exact Gx (XU I c hi a r (λs' d=>⟨_,H,d,h⟩) b)
def gNil:TGs:=λvs σ H Q=>vs=[]/\Q σ H
def Zb(t:TG)(u:TGs):TGs:=λvs σ H Q=>∃v r,vs=v::r/\t v σ H λa H'=>u r a H' Q
def G9:AA X [] gNil:=by intro aa s σ H vs a Q I r h;obtain⟨e,h⟩:=h;subst e;cases r;exact Ij ⟨σ,H,I,h⟩
def UG{e:Uj}{es:List Uj}{t:TG}{u:TGs}(h1:PG X e t)(h2:AA X es u)(hs:(Uk (e::es) X.env).map (·.2)=Fk e X.env::(Uk es X.env).map (·.2):=by rfl):AA X (e::es) (Zb t u):=by
 intro aa s σ H vs g Q I r h;obtain⟨v,f,c,h⟩:=h;subst c;cases r with
 |cons r b=>
  rw[hs];refine Ea (YC (h1 aa s σ H _ _ _ I r h) λ_ s1 ⟨a,H1,d,q1⟩=>?_);exact h2 aa s1 a H1 _ _ Q d b q1
def gTup(K:Aj)(n:Nat)(t:TGs):TG:=λv σ H Q=>∃a xs,v=.ref a/\U6 K H a xs/\xs.length=n/\t xs σ H Q
def oj{es:List Uj}{k:Nat}{t:TGs}{n:Nat}(hc:X.calm=b8)(h:AA X es t)(j:(Uk es X.env).length=n:=by rfl)(c:(Uk es X.env).findIdx? (·.1)=b4:=by rfl):PG X (.Tuple es k pos) (gTup X.K n t):=by intro aa s σ H v u Q I r hw;obtain⟨a,xs,l,i,hl,hw⟩:=hw;subst l;cases r;obtain⟨its,d,g,hz⟩:=I.tuple i;refine assign_Tuple_tuple (I.ok.hd hc) g (by simp[j,<-hl,d.length]) c λh' f=>?_;have m:bM X aa σ H {s with heap:=h'}:=I.kept (t':=s.toks) λb o e=>f b o (Bf (Al e)) e;exact h aa _ σ H xs _ Q m (by simpa using d) hw
def tAsg(te:TE)(g:TG):TS:=λD σ H=>te σ H λx H1=>g x σ H1 D.nx
def HA{tg e:Uj}{te:TE}{g:TG}(c:PE X e te)(b:PG X tg g)(hs:Fo [tg] e pos.line X.env=pure ba:=by rfl)(hw:Fp [tg] e X.env=pure b4:=by rfl)(h1:(Uk [tg] X.env).map (·.2)=[Fk tg X.env]:=by rfl):PS X (.Assign [tg] e pos) (tAsg te g):=by intro aa s σ H D I h;refine wpAny_Assign_stores (YC (c aa s σ H _ I h) λv s1 ⟨x,H1,d,a,q1⟩=>?_) hs hw;rw[h1];exact YC (b aa s1 σ H1 x v _ d a q1) λ_ f q=>q
def gI{i:Nat}{x:Ug}{e:Uj}{te:TE}{bu:Pos}(f:X.N.Nodup)(hi:X.N[i]?=b3 x)(b:B9 X.env.scope x)(d:PE X e te)(hs:Ur e (b3 (.Name x bu)) pos.line X.env=pure ba:=by rfl)(c:X.fn x=b8∨X.env.scope.names.lookup x=b3 .local:=by first|exact .inl rfl|exact .inr rfl|assumption):PS X (.Assign [.Name x bu] e pos) (tAsg te (EO i)):=by intro aa s σ H D I h;refine wpAny_Assign_Name (YC (d aa s σ H _ I h) λv s1 ⟨y,H1,j,a,q1⟩=>?_) hs;exact XU j f hi b a (λk g=>⟨_,H1,g,q1⟩) c
def tPar(i j:Nat)(ta:TA):TS:=λD σ H=>ta σ H λvs H1=>∃v w,vs=[v,w]/\D.nx ((σ.set i (b3 v)).set j (b3 w)) H1
def eS{i j:Nat}{x y:Ug}{a b:Uj}{ta:TA}{k g pt:Pos}{kt k2 pt2}(hc:X.calm=b8)(t:X.N.Nodup)(hi:X.N[i]?=b3 x)(F:X.N[j]?=b3 y)(m:i≠j)(r:X.env.scope.names.lookup x=b3 .local)(n:X.env.scope.names.lookup y=b3 .local)(G:PA X [a,b] ta)(hw:Fp [.Tuple [.Name x k,.Name y g] kt pt] (.Tuple [a,b] k2 pt2) X.env=pure (b3 [x,y]))(hs:Fo [.Tuple [.Name x k,.Name y g] kt pt] (.Tuple [a,b] k2 pt2) pos.line X.env=pure ba:=by rfl):PS X (.Assign [.Tuple [.Name x k,.Name y g] kt pt] (.Tuple [a,b] k2 pt2) pos) (tPar i j ta):=by
 intro aa s σ H D I h;rw[exec_Assign_arm];refine Aa (Dn ?_);rw[hs];refine Aa (Ah ?_);rw[if_neg (by decide)];refine Aa (Tuple_ (YC (G _ aa s σ H _ I h) λz s1 ⟨vs,H1,O,C,q1⟩=>?_));obtain⟨v,w,J,q1⟩:=q1;subst J;obtain⟨d,c,rfl,B,f⟩:∃d c,z=[d,c]/\aG v d/\aG w c:=by
  cases C with
  |cons p q=>
   cases q with
   |cons p' E=>
    cases E;exact⟨_,_,rfl,p,p'⟩
 refine Dh ?_ (by show 2<=sizeLine;decide);have M:bM X aa σ H1 {s1 with heap:=s1.heap.push {cls:=.type "tuple",data:=.seq [d,c].toArray}}:=O.kept (t':=s1.toks) λb o e=>Ad _ e;rw[hw];refine Aa (Ah ?_);show Ue (Uf X.prog X.w) X.A (do rule "assign.swapped-stores";let items<-Jr (.ref s1.heap.objs.size) 2 b4;Uv [λv=>Iu X.env y v,λv=>Iu X.env x v] items.reverse;pure Flow.next) _ _ _;refine Aa (Gy (Aa (Pf (items:= #[d,c]) (I.ok.hd hc) (Js s1.heap _) λh' l=>?_)));have L:=M.kept (h':=h') (t':=s1.toks) λb o e=>l b o (Bf (Al e)) e;show Ue _ _ (Uv [λv=>Iu X.env y v,λv=>Iu X.env x v] [c,d]>>=λ_=>pure Flow.next) _ _ _;refine Aa (Ea (Iv (XU L t F (.inl n) f (λQ K=>?_) (.inr n))));refine Ea (Iv (XU K t hi (.inl r) B (λP u=>Ij (Ah ?_)) (.inr r)));rw[Eb _ _ (Ck m)]at u;exact⟨_,H1,u,q1⟩
end
section
variable{X:Cx}{pos:Pos}
def cI(c:TT)(tb:TS):TS:=λD σ H=>∃W:Nat->St->Hp->Prop,(∃m,W m σ H)/\∀m σ H,W m σ H->
 c σ H λb H1=>if b=b8 then∃N:St->Hp->Prop,(∀a H',N a H'->∃d,d<m/\W d a H')/\tb {D with nx:=N,ct:=N,bk:=D.nx} σ H1 else D.nx σ H1
def k7{c:Uj}{body:List Up}{tc:TT}{tb:TS}(o:Ri (Uf X.prog X.w) X.A X.env X.xe)(hc:PT X c tc)(x:V6 X body tb):PS X (.While c body [] pos) (cI tc tb):=by
 intro aa s σ H D I h;obtain⟨W,⟨m0,t⟩,turn⟩:=h;refine wpAny_While (codeAny_whileLoop (λn s'=>∃e H',bM X aa e H' s'/\W n e H') ?_ m0 ⟨σ,H,I,t⟩);rintro n s1 ⟨d,H1,y,r⟩;refine Fy o (YC (hc aa s1 d H1 _ y (turn n d H1 r)) λb u ⟨H2,q,q2⟩=>?_);cases b with
 |true=>
  obtain⟨N,p,q2⟩:=q2;rw[if_pos rfl];refine Fy o (YC (x aa u d H2 _ q q2) λf z q3=>?_);cases f with
  |next=>
   obtain⟨a,g,m,j⟩:=q3;obtain⟨k,l,i⟩:=p a g j;exact⟨k,l,a,g,m,i⟩
  |cont=>
   obtain⟨a,g,m,j⟩:=q3;obtain⟨k,l,i⟩:=p a g j;exact⟨k,l,a,g,m,i⟩
  |brk=>exact q3
  |ret v=>exact q3
 |false=>
  rw[if_neg Dq];exact Hs ⟨d,H2,q,q2⟩
end
structure It where
 go:Nat->Hp->Prop
 yld:Nat->Hp->V->Hp->Prop
 stop:Nat->Hp->Prop
def NB(X:Cx)(aa:List (Ud×Uq))(H:Hp)(b:Ud):Prop:=
 H b=b4/\b≠X.env.locals/\b∉X.fs/\(b∈X.ex∨X.s₀.heap.objs.size<=b)/\(∀x c,X.env.cells.lookup x=b3 c->c≠b)/\∀p∈X.pn++aa,p.1≠b
def bM.fpOk{X:Cx}{aa:List (Ud×Uq)}{σ:St}{H H':Hp}{s:Ae}{b:Ud}(I:bM X aa σ H s)(a:s.heap.objs.size<=b)(f:H' b=b4):NB X aa H' b:=by
 refine⟨f,Go (Ay I.lt a),I.nofs a,.inr (Dj I.sz a),λx c e z=>?_,λp d z=>?_⟩
 ·obtain⟨v,q⟩:=I.cell x c e
  exact absurd (Ay q.lt (by rw[z];exact a)) (Bu _)
 ·exact absurd (Ay (Al (I.pin p d).1) (by rw[z];exact a)) (Bu _)
structure D8(P:Be)(w:Ul)(K:Aj)(tg:Uj)(J:It)(fp:List Ud)(it:Ud)(tn:Nat->Um->Prop):Prop where
 mem:it∈fp
 obj:∀i h,tn i h->∀b∈fp,∃o,h.get? b=b3 o/\∀v,o.data≠ .cell v
 keep:∀i h h',tn i h->(∀b∈fp,∀o,h.get? b=b3 o->h'.get? b=b3 o)->tn i h'
 item:∀(X:Cx),X.prog=P->X.w=w->X.K=K->X.calm=b8->∀(i:Nat) (aa:List (Ud×Uq)) (s:Ae) (σ:St) (H:Hp) (E:Uc->Ae->Prop),bM X aa σ H s->(∀b∈fp,NB X aa H b)->tn i s.heap->J.go i H->
  Ue (Uf P w) X.A (pyNext (.ref it)) (λr s1=>∃u,r=b3 u∧
   Ue (Uf P w) X.A (Ff tg (.ref it) u) (λ_ s2=>∃x H',bM X aa σ H' s2/\aG x u/\J.yld i H x H'/\tn (i+1) s2.heap/\∀b∈fp,H' b=b4) E s1) E s
 done:∀(X:Cx),X.prog=P->X.w=w->X.K=K->X.calm=b8->∀(i:Nat) (aa:List (Ud×Uq)) (s:Ae) (σ:St) (H:Hp) (E:Uc->Ae->Prop),bM X aa σ H s->(∀b∈fp,NB X aa H b)->tn i s.heap->J.stop i H->
  Ue (Uf P w) X.A (pyNext (.ref it)) (λr s1=>r=b4/\bM X aa σ H s1) E s
 self:∀(A:Bx) (i:Nat) (s:Ae) (Q:Uc->Ae->Prop) (E:Uc->Ae->Prop),tn i s.heap->Q (.ref it) s->Ue (Uf P w) A (Rj (.ref it)) Q E s
abbrev TI:=St->Hp->(It->Hp->Prop)->Prop
def PIE(X:Cx)(aa:List (Ud×Uq))(σ:St)(tg:Uj)(R:It->Hp->Prop)(a:Uc)(d:Ae):Prop:=
 ∃(it:Ud) (fp:List Ud) (c:Nat->Um->Prop) (J:It) (H':Hp),a=.ref it/\bM X aa σ H' d/\D8 X.prog X.w X.K tg J fp it c/\c 0 d.heap/\(∀b∈fp,NB X aa H' b)/\R J H'
def PI(X:Cx)(tg iter:Uj)(a:TI):Prop:=
 ∀(aa:List (Ud×Uq)) (s:Ae) (σ:St) (H:Hp) (R:It->Hp->Prop),bM X aa σ H s->a σ H R->
  Ue (Uf X.prog X.w) X.A (eval iter X.env) (λv s1=>Ue (Uf X.prog X.w) X.A (Rj v) (PIE X aa σ tg R) X.xe s1) X.xe s
def Vf{M:Uy}{A:Bx}{E:Uc->Ae->Prop}{s:Ae}{tg:Uj}{it:Ud}{u:Uc}{o:Uq}{n:String}{vs:Array Uc}{Q:Unit->Ae->Prop}(b:s.heap.get? it=b3 o)(hc:o.cls= .type n)(hd:o.data= .fields vs)(c:["enumerate","zip","dict_itemiterator","dict_reverseitemiterator","odict_iterator","itertools.zip_longest","itertools.pairwise"].contains n=ba)(a:Q () s):Ue M A (Ff tg (.ref it) u) Q E s:=by
  unfold Ff;cases tg<;>first
    |exact Ah a
    |(cases u<;>first
        |exact Ah a
        | (refine Aa (wpAny_load b ?_)
           rw[hc,hd];show Ue M A (if(["enumerate","zip","dict_itemiterator","dict_reverseitemiterator","odict_iterator","itertools.zip_longest","itertools.pairwise"].contains n&&vs[0]? ==b3 (rawInt _))=b8 then _ else _) Q E s;rw[if_neg (by intro h;rw[c,Bool.false_and]at h;cases h)];exact Ah a))
def Itl(K:Aj)(a:Ud):It:=
 ⟨λi H=>∃xs x,WW K H a xs/\xs[i]?=b3 x,λi H x H'=>H'=H/\∀xs,WW K H a xs->xs[i]?=b3 x,λi H=>∃xs,WW K H a xs/\xs.length<=i⟩
def Itt(K:Aj)(a:Ud):It:=
 ⟨λi H=>∃xs x,U6 K H a xs/\xs[i]?=b3 x,λi H x H'=>H'=H/\∀xs,U6 K H a xs->xs[i]?=b3 x,λi H=>∃xs,U6 K H a xs/\xs.length<=i⟩
def Itr(lo:Int)(n:Nat):It:=⟨λi _=>i<n,λi H x H'=>H'=H/\x=.int (lo+i),λi _=>n<=i⟩
def gK{P:Be}{w:Ul}{K:Aj}{tg:Uj}(a it:Ud):D8 P w K tg (Itl K a) [it] it (λi h=>h.IsListIter it a i) where
 mem:=by simp
 obj:=λi h st b f=>by
  have e:b=it:=by simpa using f
  subst e;obtain⟨o,e,c,d⟩:=st;exact⟨o,e,λv z=>by rw[d]at z;cases z⟩
 keep:=λi h h' st k=>st.at λo e=>k it (by simp) o e
 item:=by intro X r hw t hc i aa s σ H E I l st q;subst r hw t;obtain⟨xs,x,j,n⟩:=q;obtain⟨its,m,p,hz⟩:=I.list j;obtain⟨u,F,C⟩:=m.get n;obtain⟨B,f1,f2,f3,A,y⟩:=l it (by simp);refine Mb st p.isList (x:=u) (by simpa using F) λh' g sb=>?_;have J:bM X aa σ H {s with heap:=h'}:=I.turned (t':=s.toks) (λb o f e=>(sb.2 b f).trans e) B f1 f3 A y;obtain⟨o,e,c,d⟩:=id g;exact⟨u,rfl,Vf (s:={s with heap:=h'}) e c d (by decide) ⟨x,H,J,C,⟨rfl,λys D=>by rw[I.list_inj D j];exact n⟩,g,λb f=>(l b f).1⟩⟩
 done:=by intro X r hw t hc i aa s σ H E I l st q;subst r hw t;obtain⟨xs,j,n⟩:=q;obtain⟨its,m,p,hz⟩:=I.list j;obtain⟨B,f1,f2,f3,A,y⟩:=l it (by simp);have hl:=m.length;exact Ml (I.ok.hd hc) st p.isList (by simp;lia) λh' G=>⟨rfl,I.turned (t':=s.toks) (λb o f e=>G b o f e) B f1 f3 A y⟩
 self:=λ_ _ _ _ _ st h=>wpAny_pyIter_listiter st h
def DU{P:Be}{w:Ul}{K:Aj}{tg:Uj}(a it:Ud):D8 P w K tg (Itt K a) [it] it (λi h=>h.IsTupleIter it a i) where
 mem:=by simp
 obj:=λi h st b f=>by
  have e:b=it:=by simpa using f
  subst e;obtain⟨o,e,c,d⟩:=st;exact⟨o,e,λv z=>by rw[d]at z;cases z⟩
 keep:=λi h h' st k=>st.at λo e=>k it (by simp) o e
 item:=by intro X r hw t hc i aa s σ H E I l st q;subst r hw t;obtain⟨xs,x,j,n⟩:=q;obtain⟨its,m,p,hz⟩:=I.tuple j;obtain⟨u,F,C⟩:=m.get n;obtain⟨B,f1,f2,f3,A,y⟩:=l it (by simp);refine wpAny_pyNext_tuple_item st (show s.heap.IsTuple a its.toArray from p) (x:=u) (by simpa using F) λh' g sb=>?_;have J:bM X aa σ H {s with heap:=h'}:=I.turned (t':=s.toks) (λb o f e=>(sb.2 b f).trans e) B f1 f3 A y;obtain⟨o,e,c,d⟩:=id g;exact⟨u,rfl,Vf (s:={s with heap:=h'}) e c d (by decide) ⟨x,H,J,C,⟨rfl,λys D=>by rw[I.tuple_inj D j];exact n⟩,g,λb f=>(l b f).1⟩⟩
 done:=by intro X r hw t hc i aa s σ H E I l st q;subst r hw t;obtain⟨xs,j,n⟩:=q;obtain⟨its,m,p,hz⟩:=I.tuple j;obtain⟨B,f1,f2,f3,A,y⟩:=l it (by simp);have hl:=m.length;exact wpAny_pyNext_tuple_end (I.ok.hd hc) st (show s.heap.IsTuple a its.toArray from p) (by simp;lia) λh' G=>⟨rfl,I.turned (t':=s.toks) (λb o f e=>G b o f e) B f1 f3 A y⟩
 self:=λ_ _ _ _ _ st h=>wpAny_pyIter_tupleiter st h
def DT{P:Be}{w:Ul}{K:PySem.W.Frag}{tg:Uj}(it:Ud)(lo:Int)(n:Nat):D8 P w K tg (Itr lo n) [it] it (λi h=>IsRangeIter h it (lo+(i:Nat)*1) ((n:Int)-(i:Nat)) 1) where
 mem:=by simp
 obj:=λi h st b a=>by
  have e:b=it:=by simpa using a
  subst e;exact⟨_,st,λv z=>by have z':Data.fields _=Data.cell v:=z;cases z'⟩
 keep:=λi h h' st k=>k it (by simp) _ st
 item:=by intro X g hw j hc i aa s σ H E I d st f;subst g hw j;obtain⟨p,f1,f2,f3,m,l⟩:=d it (by simp);have W:=Walks.range (prog:=X.prog) (w:=X.w) (I.ok.hd hc) it lo 1 n;refine W.item i s _ _ f st λv h' tk r c q=>?_;obtain⟨t,rfl⟩:=r;have x:bM X aa σ H {s with heap:=h',toks:=tk}:=I.turned (λb o a e=>q b o (by simpa using a) e) p f1 f3 m l;refine⟨_,rfl,Vf (s:={s with heap:=h',toks:=tk}) (n:= "range_iterator") c rfl rfl (by decide) ⟨.int (lo+i),H,x,⟨t,?_⟩,⟨rfl,rfl⟩,c,λb a=>(d b a).1⟩⟩;rw[Int.mul_one]
 done:=by intro X g hw j hc i aa s σ H E I d st f;subst g hw j;obtain⟨p,f1,f2,f3,m,l⟩:=d it (by simp);exact wpAny_pyNext_range_end (I.ok.hd hc) st (by have:n<=i:=f;lia) λh' u=>⟨rfl,I.turned (t':=s.toks) (λb o a e=>u b o a e) p f1 f3 m l⟩
 self:=λ_ _ _ _ _ st h=>wpAny_pyIter_rangeiter st h
section
variable{X:Cx}{tg:Uj}
def Xn(K:Aj)(tl:TE):TI:=λσ H R=>tl σ H λx H1=>∃a,x=.ref a/\(∃xs,WW K H1 a xs)/\R (Itl K a) H1
def iTup(K:Aj)(tl:TE):TI:=λσ H R=>tl σ H λx H1=>∃a,x=.ref a/\(∃xs,U6 K H1 a xs)/\R (Itt K a) H1
def ku{l:Uj}{tl:TE}(hl:PE X l tl):PI X tg l (Xn X.K tl):=by
 intro aa s σ H R I h;refine YC (hl aa s σ H _ I h) λv s1 ⟨x,H1,c,d,q1⟩=>?_;obtain⟨a,e,⟨xs,f⟩,q⟩:=q1;subst e;cases d;obtain⟨its,i,p,hz⟩:=c.list f;refine Gz p.isList ?_;refine⟨s1.heap.objs.size,[s1.heap.objs.size],_,_,H1,rfl,c.kept (t':=s1.toks) λb o e=>Ad _ e,gK a _,⟨_,Ba _ rfl,rfl,rfl⟩,λb g=>?_,q⟩;have e:b=s1.heap.objs.size:=by simpa using g
 subst e;exact c.fpOk (Am _) (c.hok.fresh (Am _))
def kG{l:Uj}{tl:TE}(hl:PE X l tl):PI X tg l (iTup X.K tl):=by
 intro aa s σ H R I h;refine YC (hl aa s σ H _ I h) λv s1 ⟨x,H1,c,d,q1⟩=>?_;obtain⟨a,e,⟨xs,f⟩,q⟩:=q1;subst e;cases d;obtain⟨its,i,p,hz⟩:=c.tuple f;refine Ht (show s1.heap.IsTuple a its.toArray from p) ?_;refine⟨s1.heap.objs.size,[s1.heap.objs.size],_,_,H1,rfl,c.kept (t':=s1.toks) λb o e=>Ad _ e,DU a _,⟨_,Ba _ rfl,rfl,rfl⟩,λb g=>?_,q⟩;have e:b=s1.heap.objs.size:=by simpa using g
 subst e;exact c.fpOk (Am _) (c.hok.fresh (Am _))
def FJ{aa:List (Ud×Uq)}{σ:St}{H:Hp}{s:Ae}{R:It->Hp->Prop}{E:Uc->Ae->Prop}{lo hi:Int}{t u v:Uz}{tk:Nat}(I:bM X aa σ H s)(h1: -(2 ^ 62)<=lo)(h2:lo<2 ^ 62)(f: -(2 ^ 62)<=hi)(d:hi<2 ^ 62)(q:R (Itr lo (hi-lo).toNat) H):Ue (Uf X.prog X.w) X.A (Rj (.ref s.heap.objs.size)) (PIE X aa σ tg R) E {s with heap:=s.heap.push {cls:=.type "range",data:=.fields #[.int lo t,.int hi u,.int 1 v]},toks:=tk}:=by
 refine wpAny_pyIter_range (Tt ..) (small_one h1 h2 f d) ?_;have a:bM X aa σ H {s with heap:=s.heap.push {cls:=.type "range",data:=.fields #[.int lo t,.int hi u,.int 1 v]},toks:=tk}:=I.kept λb o e=>Ad _ e;refine⟨(s.heap.push {cls:=.type "range",data:=.fields #[.int lo t,.int hi u,.int 1 v]}).objs.size,[(s.heap.push {cls:=.type "range",data:=.fields #[.int lo t,.int hi u,.int 1 v]}).objs.size],_,_,H,rfl,a.kept (t':=tk) λb o e=>Ad _ e,DT _ lo (hi-lo).toNat,?_,λb c=>?_,q⟩
 ·have h : lo + ((0 : Nat) : Int) * 1 = lo := by simp
  have g:(((hi-lo).toNat:Nat):Int)-((0:Nat):Int)=Hu lo hi 1:=by rw[rangeSize_one];split<;>lia
  show IsRangeIter _ _ (lo+((0:Nat):Int)*1) ((((hi-lo).toNat:Nat):Int)-((0:Nat):Int)) 1;rw[h,g];exact Ba _ rfl
 ·have e : b = (s.heap.push { cls := .type "range",data := .fields #[.int lo t,.int hi u,.int 1 v] }).objs.size := by simpa using c
  subst e;exact a.fpOk (Am _) (a.hok.fresh (Am _))
def iO(ta:TA):TI:=λσ H R=>ta σ H λvs H1=>∃j:Int,vs=[.int j]/\ -(2 ^ 62)<=j/\j<2 ^ 62/\R (Itr 0 j.toNat) H1
def lW(ta:TA):TI:=λσ H R=>ta σ H λvs H1=>∃i j:Int,vs=[.int i,.int j]/\(-(2 ^ 62)<=i/\i<2 ^ 62/\ -(2 ^ 62)<=j/\j<2 ^ 62)/\R (Itr i (j-i).toNat) H1
def nE{a:Uj}{ta:TA}{p pos:Pos}(f:Gl X "range")(d:X.mg "range"=b4)(g:PA X [a] ta)(hs:Uh [a] X.env=[(ba,eval a X.env)]:=by rfl):PI X tg (.Call (.Name "range" p) [a] [] pos) (iO ta):=by
 intro aa s σ H R I h;refine Call_ (P9 I f d boot_range (Ec (YC (g pos aa s σ H _ I h) λk s1 ⟨vs,H1,i,c,q1⟩=>?_) hs rfl));obtain⟨j,e,q1,q2,q⟩:=q1;subst e;cases c with
 |cons r b=>
  cases b;obtain⟨t,rfl⟩:=r;exact call_range_1 (FJ i (by lia) (by lia) q1 q2 (by simpa using q))
def kq{a b:Uj}{ta:TA}{p pos:Pos}(l:Gl X "range")(k:X.mg "range"=b4)(m:PA X [a,b] ta)(hs:Uh [a,b] X.env=[(ba,eval a X.env),(ba,eval b X.env)]:=by rfl)(c:Uh [b] X.env=[(ba,eval b X.env)]:=by rfl):PI X tg (.Call (.Name "range" p) [a,b] [] pos) (lW ta):=by
 intro aa s σ H R I h;refine Call_ (P9 I l k boot_range (Ec (YC (m pos aa s σ H _ I h) λo s1 ⟨vs,H1,n,f,q1⟩=>?_) (by rw[hs,c]) (by rw[c];rfl)));obtain⟨i,j,e,⟨q1,q2,q3,g⟩,q⟩:=q1;subst e;cases f with
 |cons r d=>
  cases d with
  |cons r' d=>
   cases d;obtain⟨t,rfl⟩:=r;obtain⟨t',rfl⟩:=r';exact call_range_2 (FJ n q1 q2 q3 g q)
def tFor(d:TI)(g:TG)(tb:TS):TS:=λD σ H=>d σ H λJ H1=>∃W:Nat->Nat->St->Hp->Prop,(∃m,W 0 m σ H1)/\∀i m σ H,W i m σ H->
 (J.stop i H/\D.nx σ H)∨(J.go i H/\∃N:St->Hp->Prop,(∀a H',N a H'->∃c,c<m/\W (i+1) c a H')/\∀x H',J.yld i H x H'->g x σ H' λb H2=>tb {D with nx:=N,ct:=N,bk:=D.nx} b H2)
def QD(fp:List Ud)(h:Um):List (Ud×Uq):=fp.filterMap λb=>(h.get? b).map λo=>(b,o)
def X7{fp:List Ud}{h:Um}{b:Ud}{o:Uq}(a:b∈fp)(e:h.get? b=b3 o):(b,o)∈QD fp h:=Hv.mpr ⟨b,a,by rw[e];rfl⟩
def lh{fp:List Ud}{h:Um}{p:Ud×Uq}(a:p∈QD fp h):p.1∈fp/\h.get? p.1=b3 p.2:=by
 obtain⟨b,c,e⟩:=Hv.mp a;cases q:h.get? b with
 |none=>rw[q]at e;cases e
 |some o=>
  rw[q]at e;have d:(b,o)=p:=Cq e;subst d;exact⟨c,q⟩
def bM.pinned{aa:List (Ud×Uq)}{σ:St}{H:Hp}{s:Ae}{fp:List Ud}(I:bM X aa σ H s)(h:∀b∈fp,NB X aa H b)(g:∀b∈fp,∃o,s.heap.get? b=b3 o/\∀v,o.data≠ .cell v):bM X (aa++QD fp s.heap) σ H s:=
 I.pins_of λp f=>(Bq.mp f).elim (λz=>I.pin p (Aw _ z)) λz=>by obtain⟨a,e⟩:=lh z;obtain⟨i,f1,f2,_⟩:=h p.1 a;obtain⟨o,c,d⟩:=g p.1 a;rw[e]at c;cases c;exact⟨e,i,f1,f2,d⟩
def bM.unpinned{aa pl:List (Ud×Uq)}{σ:St}{H:Hp}{s:Ae}(I:bM X (aa++pl) σ H s):bM X aa σ H s:=I.pins_of λp a=>I.pin p (Aw _ (Bm _ a))
def fX{iter:Uj}{body:List Up}{Q:TI}{g:TG}{tb:TS}{pos:Pos}(C:Ri (Uf X.prog X.w) X.A X.env X.xe)(hc:X.calm=b8)(hi:PI X tg iter Q)(hg:PG X tg g)(k:V6 X body tb)(hs:∀x,Uo iter X.env x=pure x:=by intro _;rfl):PS X (.For tg iter body [] pos) (tFor Q g tb):=by
 intro aa s σ H D I h;refine wpAny_For (YC (hi aa s σ H _ I h) λv s1 h1=>YC h1 λitv s2 h2=>?_) hs;obtain⟨it,fp,R,J,H2,e,I2,T,K,f2,W,⟨m0,w0⟩,turn⟩:=h2;subst e;have stat:∀{H':Hp},(∀b∈fp,H' b=b4)->∀b∈fp,NB X aa H' b:=λhn b k=>⟨hn b k,(f2 b k).2⟩;refine codeAny_forLoop_any (λn s'=>∃i j H',bM X aa j H' s'/\R i s'.heap/\(∀b∈fp,H' b=b4)/\W i n j H') ?_ m0 ⟨0,σ,H2,I2,K,λb k=>(f2 b k).1,w0⟩;rintro n U ⟨i,c,F,V,z,E,w3⟩;rcases turn i n c F w3 with⟨y,qn⟩|⟨go,N,hN,step⟩
 ·refine Fy C (YC (T.done X rfl rfl rfl hc i aa U c F X.xe V (stat E) z y) λr s4 ⟨M,I4⟩ => ?_)
  subst M;exact Hs ⟨c,F,I4,qn⟩
 ·refine Fy C (YC (T.item X rfl rfl rfl hc i aa U c F X.xe V (stat E) z go) λr s4 ⟨u,M,h4⟩ => ?_)
  subst M;refine Fy C (YC h4 λ_ S ⟨x,Y,I5,r5,Z,t,O⟩=>?_);have P:=I5.pinned (stat O) (T.obj _ _ t);refine Fy C (YC (hg _ S c Y x u _ P r5 (step x Y Z)) λ_ s6 ⟨G,H6,I6,q6⟩=>?_);refine Fy C (YC (k _ s6 G H6 _ I6 q6) λf L q=>?_);have again:∀{a:St}{p:Hp},bM X (aa++QD fp S.heap) a p L->N a p->∃m,m<n/\∃i j H',bM X aa j H' L/\R i L.heap/\(∀b∈fp,H' b=b4)/\W i m j H':=λ{a p} l B=>by obtain⟨m',hm,w7⟩:=hN a p B;refine⟨m',hm,i+1,a,p,l.unpinned,T.keep _ _ _ t λb k o e=>(l.pin (b,o) (Aw _ (Aw _ (X7 k e)))).1,λb k=>?_,w7⟩;obtain⟨o,e,d⟩:=T.obj _ _ t b k;exact(l.pin (b,o) (Aw _ (Aw _ (X7 k e)))).2.1
  cases f with
  |next=>obtain⟨a,p,l,B⟩:=q;exact again l B
  |cont=>obtain⟨a,p,l,B⟩:=q;exact again l B
  |brk=>obtain⟨a,p,l,q⟩:=q;exact⟨a,p,l.unpinned,q⟩
  |ret v=>obtain⟨x7,a,p,l,r7,q⟩:=q;exact⟨x7,a,p,l.unpinned,r7,q⟩
end
abbrev R2:=V->V->Hp->VK->Prop
def V5(X:Cx)(f:Uc->Uc->Ux Uc)(r:R2):Prop:=
 ∀(aa:List (Ud×Uq)) (s:Ae) (σ:St) (H:Hp) (x y:V) (v u:Uc) (Q:VK),bM X aa σ H s->aG x v->aG y u->r x y H Q->
  Ue (Uf X.prog X.w) X.A (f v u) (EP X aa σ Q) X.xe s
def UnR(X:Cx)(f:Uc->Ux Uc)(r:V->Hp->VK->Prop):Prop:=
 ∀(aa:List (Ud×Uq)) (s:Ae) (σ:St) (H:Hp) (x:V) (v:Uc) (Q:VK),bM X aa σ H s->aG x v->r x H Q->
  Ue (Uf X.prog X.w) X.A (f v) (EP X aa σ Q) X.xe s
def ZH(X:Cx)(f:Uc)(r:List V->Hp->VK->Prop):Prop:=
 ∀(aa:List (Ud×Uq)) (s:Ae) (σ:St) (H:Hp) (xs:List V) (a:List Uc) (Q:VK),bM X aa σ H s->aK xs a->r xs H Q->
  Ue (Uf X.prog X.w) X.A (call f a) (EP X aa σ Q) X.xe s
def tOp(r:R2)(ta tb:TE):TE:=λσ H Q=>ta σ H λx H1=>tb σ H1 λy H2=>r x y H2 Q
def tUn(r:V->Hp->VK->Prop)(ta:TE):TE:=λσ H Q=>ta σ H λx H1=>r x H1 Q
def rI(C:Int->Int->Prop)(g:Int->Int->V):R2:=λx y H Q=>∃i j,x=.int i/\y=.int j/\C i j/\Q (g i j) H
def DH(g:Int->Int->V):R2:=λx y H Q=>∃i j,x=.int i/\y=.int j/\Q (g i j) H
def rU(g:Int->V):V->Hp->VK->Prop:=λx H Q=>∃i,x=.int i/\Q (g i) H
section
variable{X:Cx}{a b c:Uj}{ta tb tc:TE}{pos:Pos}
def binT(l:PE X a ta)(k:PE X b tb){aa:List (Ud×Uq)}{s:Ae}{σ:St}{H:Hp}{R:V->V->Hp->Prop}(I:bM X aa σ H s)(h:ta σ H λx H1=>tb σ H1 λy H2=>R x y H2){Q:Uc->Ae->Prop}{f:Uc->Uc->Ux Uc}(j:∀v u e x y H2,bM X aa σ H2 e->aG x v->aG y u->R x y H2->Ue (Uf X.prog X.w) X.A (f v u) Q X.xe e):Ue (Uf X.prog X.w) X.A (eval a X.env) (λv d=>Ue (Uf X.prog X.w) X.A (eval b X.env) (λu c=>Ue (Uf X.prog X.w) X.A (f v u) Q X.xe c) X.xe d) X.xe s:=by refine YC (l aa s σ H _ I h) λv s1 ⟨x,H1,n,i,q1⟩=>?_;refine YC (k aa s1 σ H1 _ n q1) λu e ⟨y,H2,m,g,q2⟩=>?_;exact j v u e x y H2 m i g q2
def Yu{op:Operator}{r:R2}(f:V5 X (Fq op) r)(i:PE X a ta)(g:PE X b tb):PE X (.BinOp a op b pos) (tOp r ta tb):=by intro aa s σ H Q I h;exact wpAny_BinOp (binT i g I h λv u c x y H2 j e d q=>f aa c σ H2 x y v u Q j e d q)
def iD{op:UnaryOp}{r:V->Hp->VK->Prop}(c:UnR X (unaryOp op) r)(d:PE X a ta):PE X (.UnaryOp op a pos) (tUn r ta):=by intro aa s σ H Q I h;exact UnaryOp_ (YC (d aa s σ H _ I h) λv s1 ⟨x,H1,e,b,q1⟩=>c aa s1 σ H1 x v Q e b q1)
def opI{f:Uc->Uc->Ux Uc}{C:Int->Int->Prop}{g:Int->Int->Int}(rule:∀(i j:Int) (t u:Uz) (s:Ae) (Q:Uc->Ae->Prop) (E:Uc->Ae->Prop),C i j->Q (.int (g i j) s.toks) {s with toks:=s.toks+1}->Ue (Uf X.prog X.w) X.A (f (.int i t) (.int j u)) Q E s):V5 X f (rI C λi j=>.int (g i j)):=by intro aa s σ H x y v u Q I b a h;obtain⟨i,j,rfl,rfl,hc,q⟩:=h;obtain⟨t,rfl⟩:=b;obtain⟨t',rfl⟩:=a;exact rule i j t t' s _ _ hc ⟨.int (g i j),H,I.tok _,⟨_,rfl⟩,q⟩
def opI0{f:Uc->Uc->Ux Uc}{g:Int->Int->Int}(rule:∀(i j:Int) (t u:Uz) (s:Ae) (Q:Uc->Ae->Prop) (E:Uc->Ae->Prop),Q (.int (g i j) s.toks) {s with toks:=s.toks+1}->Ue (Uf X.prog X.w) X.A (f (.int i t) (.int j u)) Q E s):V5 X f (DH λi j=>.int (g i j)):=by intro aa s σ H x y v u Q I b a h;obtain⟨i,j,rfl,rfl,q⟩:=h;obtain⟨t,rfl⟩:=b;obtain⟨t',rfl⟩:=a;exact rule i j t t' s _ _ ⟨.int (g i j),H,I.tok _,⟨_,rfl⟩,q⟩
def opB0{f:Uc->Uc->Ux Uc}{g:Int->Int->Bool}(rule:∀(i j:Int) (t u:Uz) (s:Ae) (Q:Uc->Ae->Prop) (E:Uc->Ae->Prop),Q (.bool (g i j)) s->Ue (Uf X.prog X.w) X.A (f (.int i t) (.int j u)) Q E s):V5 X f (DH λi j=>.bl (g i j)):=by intro aa s σ H x y v u Q I b a h;obtain⟨i,j,rfl,rfl,q⟩:=h;obtain⟨t,rfl⟩:=b;obtain⟨t',rfl⟩:=a;exact rule i j t t' s _ _ ⟨.bl (g i j),H,I,rfl,q⟩
def CDiv(i j:Int):Prop:=0<j/\j<1073741824
def CPow(i j:Int):Prop:=0<=j/\j<=1000000/\i.natAbs<2 ^ 64
def CMul(i j:Int):Prop:=(-(2 ^ 64)<i/\i<2 ^ 64)∨(-(2 ^ 64)<j/\j<2 ^ 64)
def CMul.ok{i j:Int}(h:CMul i j):IntMulOk i j:=by
 rcases h with⟨h1,h2⟩|⟨h1,h2⟩
 ·exact .of_left (intBits_le_64 h1 h2)
 ·exact .of_right (intBits_le_64 h1 h2)
def zK2:V5 X (Fq .Add) (DH λi j=>.int (i+j)):=opI0 λ_ _ _ _ _ _ _ q=>add_int q
def WR:V5 X (Fq .Sub) (DH λi j=>.int (i-j)):=opI0 λ_ _ _ _ _ _ _ q=>sub_int q
def dD:V5 X (Fq .Mult) (rI CMul λi j=>.int (i*j)):=opI λ_ _ _ _ _ _ _ hc q=>mul_int q hc.ok
def A1:V5 X (Fq .FloorDiv) (rI CDiv λi j=>.int (i/j)):=opI λi j _ _ _ _ _ hc q=>by have h1:(0:Int)<j:=hc.1;have h2:j<1073741824:=hc.2;exact floordiv_int (by lia) (by rw[Int.fdiv_eq_ediv_of_nonneg i (by lia)];exact q) (.inl (PyProof.noPylong_small (by lia)))
def RZ:V5 X (Fq .Mod) (rI (λ_ j=>0<j) λi j=>.int (i % j)):=opI λi j _ _ _ _ _ hc q=>by have h1:(0:Int)<j:=hc;exact mod_int' (by lia) (by rw[Int.fmod_eq_emod_of_nonneg i (by lia)];exact q)
def lF:V5 X (Fq .Pow) (rI CPow λi j=>.int (i ^ j.toNat)):=opI λ_ _ _ _ _ _ _ hc q=>pow_int_small hc.1 hc.2.1 hc.2.2 q
def unI{f:Uc->Ux Uc}{g:Int->Int}(rule:∀(i:Int) (t:Uz) (s:Ae) (Q:Uc->Ae->Prop) (E:Uc->Ae->Prop),Q (.int (g i) s.toks) {s with toks:=s.toks+1}->Ue (Uf X.prog X.w) X.A (f (.int i t)) Q E s):UnR X f (rU λi=>.int (g i)):=by intro aa s σ H x v Q I a h;obtain⟨i,rfl,q⟩:=h;obtain⟨t,rfl⟩:=a;exact rule i t s _ _ ⟨.int (g i),H,I.tok _,⟨_,rfl⟩,q⟩
def cT:UnR X (unaryOp .USub) (rU λi=>.int (-i)):=unI λ_ _ _ _ _ q=>neg_int q
end
section
variable{X:Cx}{a b c:Uj}{ta tb tc:TE}{pos:Pos}
def GR{aa:List (Ud×Uq)}{σ:St}{H:Hp}{s:Ae}{Q:VK}{k k':Bool}(I:bM X aa σ H s)(q:Q (.bl k) H)(e:k=k'):EP X aa σ Q (.bool k') s:=by subst e;exact⟨.bl k,H,I,rfl,q⟩
def FC:V5 X (Dd .Lt) (DH λi j=>.bl (decide (i<j))):=opB0 λ_ _ _ _ _ _ _ q=>lt_int q
def Vi:V5 X (Dd .LtE) (DH λi j=>.bl (decide (i<=j))):=opB0 λ_ _ _ _ _ _ _ q=>le_int q
def Vn:V5 X (Dd .Gt) (DH λi j=>.bl (decide (j<i))):=opB0 λ_ _ _ _ _ _ _ q=>gt_int q
def lR:V5 X (Dd .GtE) (DH λi j=>.bl (decide (j<=i))):=opB0 λ_ _ _ _ _ _ _ q=>ge_int q
def G8:V5 X (Dd .Is) (λx y H Q=>y=.non/\Q (.bl (decide (x=.non))) H):=by
 intro aa s σ H x y v u Q I a b h;obtain⟨rfl,q⟩:=h;cases b;refine is_none_gen (GR I q ?_);cases x<;>first
  |(cases a;rfl)
  |(obtain⟨t,rfl⟩:=a;rfl)
def OX:V5 X (Dd .IsNot) (λx y H Q=>y=.non/\Q (.bl (!decide (x=.non))) H):=by
 intro aa s σ H x y v u Q I a b h;obtain⟨rfl,q⟩:=h;cases b;refine isnot_none_gen (GR I q ?_);cases x<;>first
  |(cases a;rfl)
  |(obtain⟨t,rfl⟩:=a;rfl)
def V5.or{f:Uc->Uc->Ux Uc}{r r':R2}(h:V5 X f r)(h':V5 X f r'):V5 X f (λx y H Q=>r x y H Q∨r' x y H Q):=by
 intro aa s σ H x y v u Q I b a q;rcases q with q|q
 ·exact h aa s σ H x y v u Q I b a q
 ·exact h' aa s σ H x y v u Q I b a q
def K6(b:Uj){op:CmpOp}(h:op≠ .In:=by decide)(h2:op≠ .NotIn:=by decide):Hw op b=ba:=by
 have c:(op==CmpOp.In)=ba:=by cases op<;>first|rfl|exact absurd rfl h
 have a:(op==CmpOp.NotIn)=ba:=by cases op<;>first|rfl|exact absurd rfl h2
 cases b<;>simp[Hw,c,a]
def lu{op:CmpOp}{r:R2}(f:V5 X (Dd op) r)(j:PE X a ta)(i:PE X b tb)(g:Hw op b=ba):PE X (.Compare a [op] [b] pos) (tOp r ta tb):=by intro aa s σ H Q I h;exact wpAny_Compare1 (binT j i I h λv u c x y H2 k e d q=>f aa c σ H2 x y v u Q k e d q) g
def Xk(t:TE):TT:=λσ H Q=>t σ H λx H'=>∃k,x=.bl k/\Q k H'
def iE{op:CmpOp}{r:R2}(j:V5 X (Dd op) r)(n:PE X a ta)(m:PE X b tb)(l:Hw op b=ba):PT X (.Compare a [op] [b] pos) (Xk (tOp r ta tb)):=by
 intro aa s σ H Q I h;refine wpAny_isTrue_Compare1 (YC (n aa s σ H _ I h) λv s1 ⟨x,H1,q,i,q1⟩=>YC (m aa s1 σ H1 _ q q1) λu d ⟨y,H2,p,g,q2⟩=>
  YC (j aa d σ H2 x y v u _ p i g q2) λc w ⟨z,t,o,f,k,e,q3⟩=>?_) l
 subst e;cases f;exact Fd ⟨t,o,q3⟩
def DR(r r':R2)(ta tb tc:TE):TE:=λσ H Q=>ta σ H λx H1=>tb σ H1 λy H2=>r x y H2 λz a=>∃k,z=.bl k∧
 (if k=b8 then tc σ a λb c=>r' y b c Q else Q (.bl ba) a)
def mR{op f:CmpOp}{r r':R2}(B:V5 X (Dd op) r)(g:V5 X (Dd f) r')(E:PE X a ta)(D:PE X b tb)(hc:PE X c tc)(C:Rk [op,f] [b,c]=ba:=by with_unfolding_all rfl):PE X (.Compare a [op,f] [b,c] pos) (DR r r' ta tb tc):=by
 intro aa s σ H Q I h;refine Compare_chain (YC (E aa s σ H _ I h) λv s1 ⟨x,H1,J,w,q1⟩=>chain_link (YC (D aa s1 σ H1 _ J q1) λu p ⟨y,H2,G,i,q2⟩=>
  YC (B aa p σ H2 x y v u _ G w i q2) λd o ⟨z,l,j,t,k,e,q3⟩=>?_)) C
 subst e;cases t;refine Fd ?_;cases k with
 |false=>exact ite_ff ⟨.bl ba,l,j,rfl,q3⟩
 |true=>exact ite_tt (chain_last (YC (hc aa o σ l _ j q3) λm n ⟨z',K,F,q,A⟩=>g aa n σ K y z' u m Q F i q A))
def gY{op f:CmpOp}{r r':R2}(E:V5 X (Dd op) r)(g:V5 X (Dd f) r')(J:PE X a ta)(G:PE X b tb)(hc:PE X c tc)(F:Rk [op,f] [b,c]=ba:=by with_unfolding_all rfl):PT X (.Compare a [op,f] [b,c] pos) (Xk (DR r r' ta tb tc)):=by
 intro aa s σ H Q I h;refine isTrue_chain (YC (J aa s σ H _ I h) λv s1 ⟨x,H1,P,A,q1⟩=>test_link (YC (G aa s1 σ H1 _ P q1) λu p ⟨y,H2,O,i,q2⟩=>
  YC (E aa p σ H2 x y v u _ O A i q2) λd o ⟨z,l,j,w,k,e,q3⟩=>?_)) F
 subst e;cases w;refine Fd ?_;cases k with
 |false=>
  obtain⟨k',L,D⟩:=q3;cases L;exact ite_ff ⟨l,j,D⟩
 |true=>
  refine ite_tt (test_last (YC (hc aa o σ l _ j q3) λm n ⟨z',S,N,t,C⟩=>YC (g aa n σ S y z' u m _ N i t C) λd' U ⟨T,R,M,q,k2,K,B⟩=>?_));subst K;cases q;exact Fd ⟨R,M,B⟩
def K4:(sizeLine:Nat)<2 ^ 63:=by rw[Cc];decide
def C6:V5 X (Fq .Add) (λx y H Q=>∃i j,x=.str i/\y=.str j/\i.length+j.length<=sizeLine/\Q (.str (i++j)) H):=by intro aa s σ H x y v u Q I b a h;obtain⟨i,j,rfl,rfl,hz,q⟩:=h;obtain⟨t,rfl⟩:=b;obtain⟨t',rfl⟩:=a;exact add_str (λt' tk=>⟨.str (i++j),H,I.tok _,⟨_,rfl⟩,q⟩) hz
def SQ{x:V}{a:List Uc}(r:aK [x] a):∃u,a=[u]/\aG x u:=by
 cases r with
 |cons c b=>cases b;exact⟨_,rfl,c⟩
def FX{x y:V}{b:List Uc}(r:aK [x,y] b):∃u a,b=[u,a]/\aG x u/\aG y a:=by
 cases r with
 |cons f e=>
  cases e with
  |cons d c=>cases c;exact⟨_,_,rfl,f,d⟩
def nB(hc:X.calm=b8):ZH X (.builtin "max") (λxs H Q=>∃i j,xs=[.int i,.int j]/\Q (.int (if j>i then j else i)) H):=by
 intro aa s σ H xs c Q I r h;obtain⟨i,j,rfl,q⟩:=h;obtain⟨u,b,rfl,⟨t,rfl⟩,⟨t',rfl⟩⟩:=FX r;refine max_two_ints (I.ok.hd hc) λh' tk k=>⟨_,H,I.kept k,?_,q⟩;by_cases a:j>i
 ·rw[if_pos a,if_pos a];exact⟨_,rfl⟩
 ·rw[if_neg a,if_neg a];exact⟨_,rfl⟩
def Zf(hc:X.calm=b8):ZH X (.builtin "min") (λxs H Q=>∃i j,xs=[.int i,.int j]/\Q (.int (if j<i then j else i)) H):=by
 intro aa s σ H xs c Q I r h;obtain⟨i,j,rfl,q⟩:=h;obtain⟨u,b,rfl,⟨t,rfl⟩,⟨t',rfl⟩⟩:=FX r;refine min_two_ints (I.ok.hd hc) λh' tk k=>⟨_,H,I.kept k,?_,q⟩;by_cases a:j<i
 ·rw[if_pos a,if_pos a];exact⟨_,rfl⟩
 ·rw[if_neg a,if_neg a];exact⟨_,rfl⟩
end
structure ObjM(h:Um)(x dx C:Ud)(mA:Ug->Option Uc):Prop where
 obj:h.get? x=b3 (Th C dx)
 ns:h.Ns1 dx mA
 ne:dx≠x
def IU{h:Um}{dx:Ud}{b:Ug->Option Uc}(n:h.Ns1 dx b):∃od,h.get? dx=b3 od/\∀name,W.lookIn name od=b3 (b name):=by
 obtain⟨o,es,k,f,hd,i,_,g⟩:=n;refine⟨o,f,λname=>?_⟩;have e:=g name;unfold nsFind findBy at e;rw[<-Od]at e;unfold W.lookIn;rw[hd];dsimp only;split
 ·rename_i y q
  rw[q]at e;exact congrArg b3 e
 ·rename_i q
  rw[q]at e;have a:es.toList.any (·.refKey)=ba:=by rw[List.any_eq_false];intro y d;obtain⟨z,t,c⟩:=i y (Array.mem_toList_iff.mp d);simp[DictEntry.refKey,c]
  have j:¬es.toList.any (·.refKey)=b8:=by rw[a];exact Dq
  rw[if_neg j];exact congrArg b3 e
def ObjM.look{h:Um}{x dx C:Ud}{a:Ug->Option Uc}(I:ObjM h x dx C a):∃od,W.InstAt h x (Th C dx) C (b3 od)/\∀name,W.lookIn name od=b3 (a name):=
 let ⟨od,b,hl⟩:=IU I.ns
 ⟨od,⟨I.obj,rfl,rfl,b⟩,hl⟩
def QS.some_of{v:V}{o:Option Uc}(r:QS (b3 v) o):∃u,o=b3 u/\aG v u:=by
 cases o with
 |none=>exact(show False from r).elim
 |some u=>exact⟨u,rfl,r⟩
section
variable{P:Be}{w:Ul}{H H':Hp}{h h':Um}{a C dx:Ud}{fs fs':List (Ug×V)}
def kS(c:QR P w H h)(e:H a=b3 (.ins C dx fs)):∃b,ObjM h a dx C b/\(∀f,QS (fs.lookup f) (b f))/\Ti b (fs.map (·.1))/\fs.length<=1000/\H dx=b3 (.own a):=by obtain⟨d,z,i,g,b,n,r,q⟩:=(show Y7 P w H h a (.ins C dx fs) from c a _ e);exact⟨b,⟨g,n,i⟩,r,q,z,d⟩
end
structure Cls(K:Aj)(C:Ud):Prop where
 pg:W.plainGet K C Str.empty=b8
 hd:W.hasDictIn K C=b8
 po:W.plainOver K C=b8
 sa:Qx K (.ref C) "__setattr__"=b3 (b3 (.builtin "object.__setattr__"))
def Cls.get{K:Aj}{C:Ud}(c:Cls K C)(f:Ug):W.plainGet K C f=b8:=c.pg
section
variable{X:Cx}{aa:List (Ud×Uq)}{σ:St}{H:Hp}{s:Ae}{a C dx:Ud}{fs:List (Ug×V)}{f:Ug}{v:V}{A:Bx}{E:Uc->Ae->Prop}
def oJ{prog:Be}{w:Ul}{env:Env}{e:Uj}{f:Ug}{pos:Pos}{s:Ae}{Q:Uc->Ae->Prop}(b:Fs e f env (eval e env)=eval e env)(h:Ue (Uf prog w) A (eval e env) (λo a=>Ue (Uf prog w) A (getAttr o f b8) Q E a) E s):Ue (Uf prog w) A (eval (.Attribute e f pos) env) Q E s:=
 Attribute_any_ h (by rw[arm_eval_Attribute,b])
end
section
variable{X:Cx}{aa:List (Ud×Uq)}{σ:St}{H:Hp}{s:Ae}{A:Bx}{E:Uc->Ae->Prop}{Q:Uc->Ae->Prop}{c:Uc}{b:Bool}
inductive MG(K:Aj)(H:Hp):V->Uc->Prop where
 |non:MG K H .non (.type "NoneType")
 |bl (x:Bool):MG K H (.bl x) (.type "bool")
 |int (i:Int):MG K H (.int i) (.type "int")
 |str (x:Ug):MG K H (.str x) (.type "str")
 |flt (x:UInt64):MG K H (.flt x) (.type "float")
 |lst {a:Ud}{xs:List V}(e:H a=b3 (.lst xs)):MG K H (.ref a) (.type "list")
 |frz {a:Ud}{o:Uq}{xs:List V}(e:H a=b3 (.frz o (.lst xs))):MG K H (.ref a) (.type "list")
 |tup {a:Ud}{xs:List V}(e:H a=b3 (.tup xs)):MG K H (.ref a) (.type "tuple")
 |dK {a:Ud}{kvs:List (Z8×V)}(e:H a=b3 (.dK kvs)):MG K H (.ref a) (.type "dict")
 |dT {a:Ud}{kvs:List (List Z8×V)}(e:H a=b3 (.dT kvs)):MG K H (.ref a) (.type "dict")
 |ins {a C dx:Ud}{fs:List (Ug×V)}(e:H a=b3 (.ins C dx fs)) (cl:Cls K C) (ha:Qx K (.ref C) "__class__"=b3 (b3 (.builtin "object.__class__")))
   (hn:W.specialIn K (.builtin "object.__class__") "__get__"=b3 (b3 (.builtin "getset_descriptor.__get__"))) (htk:W.takesIn K (.builtin "object.__class__")=b3 b8)
   (hm:W.mroIn K C (.type "object")=b3 b8):MG K H (.ref a) (.ref C)
def UE{x:V}{u t:Uc}(I:bM X aa σ H s)(d:aG x u)(ty:MG X.K H x t)(e:Hi X.K t c=b3 b)(h:∀tk,Q (.bool b) {s with toks:=tk}):Ue (Uf X.prog X.w) A (call (.builtin "isinstance") [u,c]) Q E s:=by
 cases ty with
 |non=>cases (show u=Value.none from d);exact Ex W.kitx_none I.kIn True.intro e (λz=>nomatch z) h
 |bl y=>cases (show u=Gi y from d);exact Ex W.kitx_bool I.kIn True.intro e (λz=>nomatch z) h
 |int i=>obtain⟨t,q⟩:=(show∃t,u=Rc i t from d);cases q;exact Ex W.kitx_int I.kIn True.intro e (λz=>nomatch z) h
 |str y=>obtain⟨t,q⟩:=(show∃t,u=Mi y t from d);cases q;exact Ex W.kitx_str I.kIn True.intro e (λz=>nomatch z) h
 |flt y=>obtain⟨t,q⟩:=(show∃t,u=Ts y t from d);cases q;exact Ex W.kitx_float I.kIn True.intro e (λz=>nomatch z) h
 | @lst a xs f=>
  cases (show u=Bo a from d);obtain⟨_,_,n,_,h1⟩:=(show Y7 X.prog X.w H s.heap a (.lst xs) from I.hok a _ f);exact Ex Np I.kIn ⟨_,h1,rfl⟩ e (λz=>nomatch z) h
 | @frz a j xs f=>
  cases (show u=Bo a from d);obtain⟨_,_,_,n,_,h1⟩:=(show Y7 X.prog X.w H s.heap a (.frz j (.lst xs)) from I.hok a _ f);exact Ex Np I.kIn ⟨_,h1,rfl⟩ e (λz=>nomatch z) h
 | @tup a xs f=>
  cases (show u=Bo a from d);obtain⟨_,_,_,p⟩:=(show Y7 X.prog X.w H s.heap a (.tup xs) from I.hok a _ f);obtain⟨o,h1,h2,_⟩:=p;exact Ex W.kitx_tuple I.kIn ⟨o,h1,h2⟩ e (λz=>nomatch z) h
 | @dK a kvs f=>
  cases (show u=Bo a from d);obtain⟨_,_,vs,_,p⟩:=(show Y7 X.prog X.w H s.heap a (.dK kvs) from I.hok a _ f);obtain⟨o,es,r,h1,h2,_⟩:=p;exact Ex Rl I.kIn ⟨o,h1,h2.1⟩ e (λz=>nomatch z) h
 | @dT a kvs f=>
  cases (show u=Bo a from d);obtain⟨_,_,xs,_,o,es,r,h1,h2,_⟩:=(show Y7 X.prog X.w H s.heap a (.dT kvs) from I.hok a _ f);exact Ex Rl I.kIn ⟨o,h1,h2.1⟩ e (λz=>nomatch z) h
 | @ins a C dx fs f cl m k g l=>
  cases (show u=Bo a from d);obtain⟨v,O,_⟩:=kS I.hok f;obtain⟨od,J,_⟩:=O.look;exact Ex (W.kitx_own (cl.get _) cl.hd m k g l) I.kIn J e (λz=>nomatch z) h
end
structure X1(k:Nat)(A:Bx):Prop where
 hd:A.handled=b4
 dp:A.depth+3*k+5<Fb
 un:A.units+16*k+200<cLine
def X1.mono{j k:Nat}{A:Bx}(r:X1 k A)(h:j<=k):X1 j A:=⟨r.hd,by have:=r.dp;lia,by have:=r.un;lia⟩
def X1.deeper{k:Nat}{A:Bx}(r:X1 (k+1) A)(env:Env):X1 k (A.deeper env):=
 ⟨r.hd,by have:=r.dp;show A.depth+1+3*k+5<_;lia,by have:=r.un;show A.units+3+16*k+200<_;lia⟩
def X1.depth{k:Nat}{A:Bx}(r:X1 k A):A.depth<Fb:=by have:=r.dp;lia
def X1.units{k:Nat}{A:Bx}(r:X1 k A):A.units+64<cLine:=by have:=r.un;lia
def tNil:TA:=λ_ H Q=>Q [] H
def JP(ta:TE)(a:TA):TA:=λσ H Q=>ta σ H λx H1=>a σ H1 λxs H2=>Q (x::xs) H2
section
variable{X:Cx}{e:Uj}{es:List Uj}{te:TE}{t:TA}{pos:Pos}
def ZB:PA X [] tNil:=λ_ _ _ _ H Q I h=>Ha ⟨[],H,I,.nil,h⟩
def aW(d:PE X e te)(c:PA X es t)(hs:Uh (e::es) X.env=(ba,eval e X.env)::Uh es X.env:=by rfl):PA X (e::es) (JP te t):=by intro pos aa s σ H Q I h;rw[hs];show Ue _ _ (spliced ((ba,eval e X.env)::Ei pos (Uh es X.env))) _ _ s;refine Es (YC (d aa s σ H _ I h) λu s1 ⟨x,H1,g,b,q1⟩=>?_);exact YC (c pos aa s1 σ H1 _ g q1) λi j ⟨xs,H2,f,a,q2⟩=>⟨x::xs,H2,f,.cons b a,q2⟩
def tTup(t:TA):TE:=λσ H Q=>t σ H λxs H1=>xs.length<=sizeLine/\∀p,H1 p=b4->Q (.ref p) (upd H1 p (.tup xs))
def tLst(t:TA):TE:=λσ H Q=>t σ H λxs H1=>xs.length<=sizeLine/\∀p,H1 p=b4->Q (.ref p) (upd H1 p (.lst xs))
def C8{x1}(h:PA X es t):PE X (.Tuple es x1 pos) (tTup t):=by intro aa s σ H Q I d;refine wpAny_Tuple_spliced (YC (h pos aa s σ H _ I d) λc s1 ⟨xs,H1,a,r,z,q⟩=>⟨by rw[<-r.length];exact z,?_⟩);have f:H1 s1.heap.objs.size=b4:=a.hok.fresh (Am _);refine⟨.ref s1.heap.objs.size,upd H1 s1.heap.objs.size (.tup xs),a.laid (t':=s1.toks) (λb u e=>Ad _ e) (Am _) ?_,rfl,q _ f⟩;exact⟨z,c,r,⟨_,Ba _ rfl,rfl,_,rfl⟩⟩
def Xv(h:PA X es t):PE X (.List es pos) (tLst t):=by intro aa s σ H Q I d;refine wpAny_List_spliced (YC (h pos aa s σ H _ I d) λc s1 ⟨xs,H1,a,r,z,q⟩=>⟨by rw[<-r.length];exact z,?_⟩);have f:H1 s1.heap.objs.size=b4:=a.hok.fresh (Am _);refine⟨.ref s1.heap.objs.size,upd H1 s1.heap.objs.size (.lst xs),a.laid (t':=s1.toks) (λb u e=>Ad _ e) (Am _) ?_,rfl,q _ f⟩;exact⟨z,c,0,r,Ba _ rfl⟩
end
abbrev Sp:=List V->Hp->VK->XK->Prop
abbrev CXT:=List Env->Hp->Ae->XK->Uc->Ae->Prop
structure Env0(P:Be)(w:Ul)(K:Aj)(mg:Ug->Option Uc)(base:Um)(A:Bx)(outer:List Env)(s:Ae)(H:Hp):Prop where
 frames:A.frames=b3 outer
 mod:Mod K mg base
 bs:∀b o,base.get? b=b3 o->s.heap.get? b=b3 o/\H b=b4
 bsz:base.objs.size<=s.heap.objs.size
 funs:s.heap.FunFrames base outer
 frf:∀b∈SK outer,H b=b4
 hok:QR P w H s.heap
 bare:Lh s.gens
def CE(outer:List Env)(P:Be)(w:Ul)(H:Hp)(s:Ae)(Q:VK)(u:Uc)(s':Ae):Prop:=
 ∃v H',s'.os=s.os/\Lh s'.gens/\Un (SK outer) [] H H' s.heap s'.heap/\QR P w H' s'.heap/\aG v u/\Q v H'
def CR(CX:CXT)(outer:List Env)(P:Be)(w:Ul)(H:Hp)(s:Ae)(Q:VK)(E:XK)(r:Oe)(s':Ae):Prop:=
 match r with
 |.ok (.ret u)=>CE outer P w H s Q u s'
 |.ok _=>False
 |.error e=>CX outer H s E e s'
structure U4(P:Be)(w:Ul)(K:Aj)(mg:Ug->Option Uc)(base:Um)(CX:CXT)(k:Nat)(f:Ud)(fd:Cr)(ps:List Ug)(sp:Sp):Prop where
 len:∀vs H Q E,sp vs H Q E->vs.length=ps.length
 run:∀(A:Bx) (outer:List Env) (s:Ae) (H:Hp) (args:Args) (us:List Uc) (vs:List V) (Q:VK) (E:XK),X1 k A->Env0 P w K mg base A outer s H->Ph s fd args (ps.zip us)->aK vs us->sp vs H Q E->
  Fl (Uf P w) A (.call (.ref f) args) (CR CX outer P w H s Q E) s
section
variable{X:Cx}{aa:List (Ud×Uq)}{σ:St}{H:Hp}{s s':Ae}
def bM.env0(I:bM X aa σ H s):Env0 X.prog X.w X.K X.mg X.base X.A X.stack s H:=
 ⟨I.ok.frames,I.ok.mod,I.bs,Dj I.ok.bsz I.sz,I.stack,I.stkFree,I.hok,I.bare⟩
def bM.after{Q:VK}{u:Uc}(I:bM X aa σ H s)(h:CE X.stack X.prog X.w H s Q u s'):EP X aa σ Q u s':=by obtain⟨v,H',os,a,un,e,r,q⟩:=h;obtain⟨f,g,d,t,c⟩:=s';obtain rfl:c=s.os:=os;exact⟨v,H',I.call (h':=f) (g':=g) (d':=d) (t':=t) (ch:=[]) un e a (λb z=>absurd z (by simp)),r,q⟩
end
def BR(sp:Sp)(dvs:List V)(E:XK)(t:TA):TE:=λσ H Q=>t σ H λvs H1=>sp (vs++dvs) H1 Q E
def RE(K:Aj)(fd:Cr)(ps:List Ug)(ds:List Uc):Prop:=
 ∀(s:Ae) (a:List Uc),K.In s.heap->(a++ds).length=ps.length->Ph s fd ⟨a,[]⟩ (ps.zip (a++ds))
def RE.all{K:Aj}{fd:Cr}{ps:List Ug}(h:∀a:List Uc,a.length=ps.length->bindArgs fd ⟨a,[]⟩=pure (ps.zip a)):RE K fd ps []:=λs a _ hl=>by rw[Ds]at hl⊢;exact .of_eq (h a hl)
def CA(CX:CXT)(X:Cx)(E:XK):Prop:=∀(aa:List (Ud×Uq)) (σ:St) (H:Hp) (s:Ae) (e:Uc) (s':Ae),bM X aa σ H s->CX X.stack H s E e s'->X.xe e s'
section
variable{X:Cx}{CX:CXT}{k:Nat}{f C:Ud}{fd:Cr}{ps:List Ug}{sp:Sp}{dvs:List V}{ds:List Uc}{E:XK}{x m:Ug}{p pos aq:Pos}{e o:Uj}{es:List Uj}{ta:TE}{t:TA}
def mz{aa:List (Ud×Uq)}{σ:St}{H:Hp}{s:Ae}{Q:VK}{a:List Uc}{vs:List V}(F:U4 X.prog X.w X.K X.mg X.base CX k f fd ps sp)(g:X1 k X.A)(i:RE X.K fd ps ds)(hd:aK dvs ds)(d:CA CX X E)(I:bM X aa σ H s)(r:aK vs a)(h:sp (vs++dvs) H Q E):Ue (Uf X.prog X.w) X.A (call (.ref f) a) (EP X aa σ Q) X.xe s:=by
 have c:aK (vs++dvs) (a++ds):=r.append hd;have hl:(a++ds).length=ps.length:=by rw[<-c.length];exact F.len _ _ _ _ h
 refine Ik (Hl (F.run X.A X.stack s H ⟨a,[]⟩ (a++ds) (vs++dvs) Q E g I.env0 (i s a I.kIn hl) c h) λr s' b=>?_);cases r with
 |error e=>exact d aa σ H s e s' I b
 |ok j=>
  cases j with
  |ret u=>exact I.after b
  |next=>exact Gw b
  |brk=>exact Gw b
  |cont=>exact Gw b
def cK(F:U4 X.prog X.w X.K X.mg X.base CX k f fd ps sp)(g:X1 k X.A)(l:Gl X x)(i:X.mg x=b3 (.ref f))(j:Hx X.K (.ref f)=b8)(n:RE X.K fd ps ds)(hd:aK dvs ds)(d:CA CX X E)(o:PA X (e::es) t)(b:(x==("__debug__":Ug))=ba:=by decide)(m:Uh (e::es) X.env=(ba,eval e X.env)::Uh es X.env:=by rfl)(a:(Ei pos (Uh es X.env)).any (·.1)=ba:=by rfl):PE X (.Call (.Name x p) (e::es) [] pos) (BR sp dvs E t):=by intro aa s σ H Q I h;refine Et (TR I l i ?_ b);refine Qb (h₀:=X.base) I.ok.mod.kin j (YC (o pos aa s σ H _ I h) λu s1 ⟨vs,H1,c,r,q⟩=>⟨c.kIn,?_⟩) m a;exact mz F g n hd d c r q
end
structure ZI(N P:List Ug)(sc:Ut):Prop where
 kind:sc.kind=.function
 co:sc.isCoroutine=ba
 gen:sc.isGenerator=ba
 nd:N.Nodup
 pre:N.take P.length=P
 par:∀x∈P,sc.names.lookup x=b3 .local∨sc.names.lookup x=b3 .cell
 nofree:∀y∈sc.names,y.2≠ .free
theorem HY{kindOf:Ug->Option Uu}{x:Ug}:∀{binds:List (Ug×Uc)}{m:Ug->Option Uc},(∀v,(x,v)∉binds)->bindL kindOf binds m x=m x
 |[],_,_=>rfl
 | (n,v) :: r,m,h => by
  unfold bindL;rw[HY λw hw=>h w (Aq _ hw)];split
  ·have : x ≠ n := by rintro rfl;exact h v Bb
   simp[this]
  ·rfl
theorem HW{kindOf:Ug->Option Uu}{x:Ug}:∀{binds:List (Ug×Uc)}{m:Ug->Option Uc},(∀v,(x,v)∉binds)->bindC kindOf binds m x=m x
 |[],_,_=>rfl
 | (n,v) :: r,m,h => by
  unfold bindC;rw[HW λw hw=>h w (Aq _ hw)];split
  ·rfl
  ·have : x ≠ n := by rintro rfl;exact h v Bb
   simp[this]
theorem HX{kindOf:Ug->Option Uu}{x:Ug}{v:Uc}:∀{P:List Ug}{vs:List Uc}{i:Nat}{m:Ug->Option Uc},P.Nodup->P[i]?=b3 x->vs[i]?=b3 v->kindOf x=b3 .local->bindL kindOf (P.zip vs) m x=b3 v
 |[],_,_,_,_,h,_,_=>by simp at h
 |_::_,[],_,_,_,_,h,_=>by simp at h
 |p::P,w::vs,0,m,a,h1,h2,b=>by simp at h1 h2;subst h1;subst h2;show bindL kindOf ((p,w)::P.zip vs) m p=_;unfold bindL;rw[HY λv c=>(De.mp a).1 (Hy c).1,if_pos b];simp
 |p::P,w::vs,i+1,m,a,h1,h2,b=>by show bindL kindOf ((p,w)::P.zip vs) m x=_;unfold bindL;exact HX (i:=i) (De.mp a).2 (by simpa using h1) (by simpa using h2) b
theorem HV{kindOf:Ug->Option Uu}{x:Ug}{v:Uc}:∀{P:List Ug}{vs:List Uc}{i:Nat}{m:Ug->Option Uc},P.Nodup->P[i]?=b3 x->vs[i]?=b3 v->kindOf x≠b3 .local->bindC kindOf (P.zip vs) m x=b3 v
 |[],_,_,_,_,h,_,_=>by simp at h
 |_::_,[],_,_,_,_,h,_=>by simp at h
 |p::P,w::vs,0,m,a,h1,h2,b=>by simp at h1 h2;subst h1;subst h2;show bindC kindOf ((p,w)::P.zip vs) m p=_;unfold bindC;rw[HW λv c=>(De.mp a).1 (Hy c).1,if_neg b];simp
 |p::P,w::vs,i+1,m,a,h1,h2,b=>by show bindC kindOf ((p,w)::P.zip vs) m x=_;unfold bindC;exact HV (i:=i) (De.mp a).2 (by simpa using h1) (by simpa using h2) b
def start(N:List Ug)(vs:List V):St:=vs.map b3++Ax (N.length-vs.length) b4
noncomputable def RK(CX:CXT)(P:Be)(w:Ul)(K:Aj)(mg:Ug->Option Uc)(base:Um)(N:List Ug)(qual:Ug)(scope:Ut)(f:Ud)(cd:Uc)(A:Bx)(outer:List Env)(s:Ae)(H:Hp)(E:XK):Cx where
 prog:=P
 w:=w
 K:=K
 mg:=mg
 base:=base
 A:=A.deeper (envOfC qual scope s.heap.objs.size f cd)
 N:=N
 s₀:=s
 H₀:=H
 env:=envOfC qual scope s.heap.objs.size f cd
 outer:=outer
 stack:=envOfC qual scope s.heap.objs.size f cd::outer
 ex:=[]
 calm:=b8
 fn:=λ_=>b8
 pn:=[]
 xe:=λe s'=>Ue (Uf P w) (A.deeper (envOfC qual scope s.heap.objs.size f cd)) (leaving (envOfC qual scope s.heap.objs.size f cd) e) (λ_ a=>CX outer H s E e a) (λb a=>CX outer H s E b a) s'
def EG{sc:Ut}{n:Nat}{x:Ug}(h:sc.names.lookup x=b3 .cell):∃c,(Us n sc.names []).lookup x=b3 c:=by have q:=Lw sc.names n [] (.inl h);exact Option.isSome_iff_exists.mp q
def IN{CX:CXT}{P:Be}{w:Ul}{K:Aj}{mg:Ug->Option Uc}{base:Um}{N ps:List Ug}{qual:Ug}{scope:Ut}{f:Ud}{cd:Uc}{A:Bx}{outer:List Env}{s s1:Ae}{H:Hp}{E:XK}{o:List Uc}{vs:List V}(S:ZI N ps scope)(hd:A.handled=b4)(d:Env0 P w K mg base A outer s H)(hl:vs.length=ps.length)(r:aK vs o)(x:InCallC s s.heap.objs.size (bindL (envOfC qual scope s.heap.objs.size f cd).kindOf (ps.zip o) λ_=>b4) (Us (s.heap.objs.size+1) scope.names []) (bindC (envOfC qual scope s.heap.objs.size f cd).kindOf (ps.zip o) λ_=>b4) s1):bM (RK CX P w K mg base N qual scope f cd A outer s H E) [] (start N vs) H s1:=by
 have D:ps.length<=N.length:=by have:=congrArg List.length S.pre;rw[Cz]at this;lia
 obtain⟨h1,tk,rfl,B⟩:=x.done;have g:∀b:Ud,b∉(RK CX P w K mg base N qual scope f cd A outer s H E).ex:=λb z=>absurd (show b∈([]:List Ud) from z) (by simp);refine⟨⟨d.mod,S.kind,rfl,rfl,Am _,λy z c h1 h2=>?_,λy j=>?_,λy c _ h=>?_,λ_=>hd,Around.frames_deeper d.frames,.inr ⟨rfl,rfl⟩,λb z=>absurd z (g b),d.bs,d.bsz,λb _ _=>g b,λb z=>absurd z (g b),d.funs,d.frf⟩,rfl,d.bare,Un.kept B,⟨_,x.toInCall.ns,λi y v h1 h2 G=>?_⟩,λy c h=>⟨_,x.cell y c h⟩,d.hok.fresh (Am _),λy c h=>?_,λp m=>absurd (show p∈([]:List (Ud×Uq)) from m) (by simp),d.hok.kept B,?_⟩
 ·exact name_of_addr x.apart (Bv h1) (Bv h2)
 ·have j:scope.names.lookup y=b3 .cell∨scope.names.lookup y=b3 .free:=j
  rcases j with j|j
  ·exact EG j
  ·exact absurd rfl (S.nofree _ (Bv j))
 ·exact Mj (x.above y c (Bv h))
 ·have hi:i<vs.length:=by
   unfold start at h2;by_cases hi:i<vs.length
   ·exact hi
   ·rw [Bi (by simpa using hi)]at h2
    rw[Cs]at h2;split at h2<;>cases h2
  have F:vs[i]?=b3 v:=by
   unfold start at h2;rw[Ak (by simpa using hi),Di]at h2;cases e:vs[i]? with
   |none=>rw[e]at h2;cases h2
   |some a=>rw[e]at h2;cases h2;rfl
  obtain⟨u,t,C⟩:=r.get F;have m:ps[i]?=b3 y:=by rw[<-S.pre,Cj (by lia)];exact h1
  have l:ps.Nodup:=by rw[<-S.pre];exact S.nd.sublist (List.take_sublist _ _)
  refine⟨u,C,?_⟩;rcases S.par y (Ee m)with k|k
  ·exact .inl ⟨k,HX l m t k⟩
  ·obtain⟨c,e⟩:=EG (n:=s.heap.objs.size+1) k
   refine .inr ⟨.inl k,c,e,?_⟩;have q:=x.cell y c e;rw[HV l m t (by show scope.names.lookup y≠_;rw[k];decide)]at q;exact q
 ·exact d.hok.fresh (Mj (x.above y c (Bv h)))
 ·unfold start
  show _=N.length;rw[By,Ci,Ix];lia
def Vq{CX:CXT}{P:Be}{w:Ul}{K:Aj}{mg:Ug->Option Uc}{base:Um}{k:Nat}{f:Ud}{name qual:Ug}{c:Arguments}{body:List Up}{scope:Ut}{C kV doc B a ct L:Uc}{D od:Option Ud}{l:Array (Option Uc)}{N ps:List Ug}{sp:Sp}(M:K.lookup f=b3 ⟨L,od,.func (Je name qual c body scope C kV doc B D a ct),l⟩)(z:Lj K a qual=b8)(S:ZI N ps scope)(len:∀vs H Q E,sp vs H Q E->vs.length=ps.length)(ap:∀(A:Bx) (outer:List Env) (s:Ae) (H:Hp) (vs:List V) (Q:VK) (E:XK),X1 k (A.deeper (envOfC qual scope s.heap.objs.size f a))->sp vs H Q E->∃t,V6 (RK CX P w K mg base N qual scope f a A outer s H E) body t/\t {nx:=λ_ H'=>Q .non H',rt:=Q} (start N vs) H):U4 P w K mg base CX (k+1) f (Je name qual c body scope C kV doc B D a ct) ps sp:=by
 refine⟨len,λA outer s H args G vs Q E p i X r g=>?_⟩;have hl:=len _ _ _ _ g;have F:K.In s.heap:=i.mod.kin.keeps λb o e=>(i.bs b o e).1;have m:s.heap.NoLimit:=i.mod.nolimit.keeps λb o e=>(i.bs b o e).1;have Z:∀y∈ps.zip G,scope.names.lookup y.1=b3 .local∨(scope.names.lookup y.1=b3 .cell/\((Us (s.heap.objs.size+1) scope.names []).lookup y.1).isSome=b8):=λ⟨n,v⟩ O=>by
  rcases S.par n (Hy O).1 with q|q
  ·exact .inl q
  ·exact .inr ⟨q,Lw _ _ _ (.inl q)⟩
 refine Iy p.depth (F _ _ M) rfl S.co S.gen rfl (W.codeRec_of F z) (X _ _ _ _ ?_);refine Hd S.kind Z λenv U s1 x=>?_;subst U;refine⟨m.keeps x.toInCall.keep,Qc ?_⟩;obtain⟨t,R,T⟩:=ap A outer s H vs Q E (p.deeper _) g;have I:bM (RK CX P w K mg base N qual scope f a A outer s H E) [] (start N vs) H s1:=IN S p.hd i hl r x;refine At (R [] s1 (start N vs) H _ I T) (λY s' hs=>?_) λe s' hs=>hs;have h:∀{d:St}{H':Hp}{v:V}{u:Uc},bM (RK CX P w K mg base N qual scope f a A outer s H E) [] d H' s'->aG v u->Q v H'->CE outer P w H s Q u s':=
  λ{d H' v u} J j q=>⟨v,H',J.os,J.bare,J.base,J.hok,j,q⟩
 cases Y with
 |ret u=>
  obtain⟨v,d,H',J,j,q⟩:=hs;exact h J j q
 |next=>
  obtain⟨d,H',J,q⟩:=hs;exact h (v:=V.non) (u:=Value.none) J rfl q
 |brk=>
  obtain⟨_,_,_,q⟩:=hs;exact Gw q
 |cont=>
  obtain⟨_,_,_,q⟩:=hs;exact Gw q
section
variable{X:Cx}{x:Ug}{p pos:Pos}{e:Uj}{es:List Uj}{t:TA}{id T:String}{r:List V->Hp->VK->Prop}
def tCB(r:List V->Hp->VK->Prop)(t:TA):TE:=λσ H Q=>t σ H λvs H1=>r vs H1 Q
def OY(hc:ZH X (.builtin id) r)(j:Gl X x)(i:X.mg x=b4)(f:Bp x=b3 (.builtin id))(l:PA X (e::es) t)(g:x≠ "__name__":=by decide)(b:(x==("__debug__":Ug))=ba:=by decide)(k:Uh (e::es) X.env=(ba,eval e X.env)::Uh es X.env:=by rfl)(a:(Ei pos (Uh es X.env)).any (·.1)=ba:=by rfl):PE X (.Call (.Name x p) (e::es) [] pos) (tCB r t):=by intro aa s σ H Q I h;refine Et (P9 I j i f ?_ g b);exact PyProof.Rows.callWith_builtin1 (YC (l pos aa s σ H _ I h) λc s1 ⟨vs,H1,m,d,q1⟩=>hc aa s1 σ H1 vs c Q m d q1) k a
def VQ(hc:ZH X (.type T) r)(j:Gl X x)(i:X.mg x=b4)(f:Bp x=b3 (.type T))(l:PA X (e::es) t)(g:x≠ "__name__":=by decide)(b:(x==("__debug__":Ug))=ba:=by decide)(k:Uh (e::es) X.env=(ba,eval e X.env)::Uh es X.env:=by rfl)(a:(Ei pos (Uh es X.env)).any (·.1)=ba:=by rfl):PE X (.Call (.Name x p) (e::es) [] pos) (tCB r t):=by intro aa s σ H Q I h;refine Et (P9 I j i f ?_ g b);exact Ec (YC (l pos aa s σ H _ I h) λc s1 ⟨vs,H1,m,d,q1⟩=>hc aa s1 σ H1 vs c Q m d q1) k a
end
end L2
namespace HT
open PySem PyProof.Rows
section
variable{prog:Be}{w:Ul}{A:Bx}{E:Uc->Ae->Prop}{s:Ae}
def zHG{t b:Ud}{vs a:List Uc}{Q:Uc->Ae->Prop}(l:IsTup s.heap t vs.toArray)(m:IsTup s.heap b a.toArray)(k:vs≠[])(h1:a=[]->Q (.ref t) s)(h2:a≠[]->Q (.ref s.heap.objs.size) {s with heap:=s.heap.push {cls:=.type "tuple",data:=.seq (vs++a).toArray}})(hsz:vs.length+a.length<=sizeLine):Ue (Uf prog w) A (Fq .Add (.ref t) (.ref b)) Q E s:=by
 obtain⟨⟨cls,dd,data,sl⟩,i,hc,n,hd⟩:=id l;obtain⟨⟨o,h,data2,d⟩,c,g,j,f⟩:=id m;simp only at hc hd g f;subst hc hd g f;have e:vs.toArray++a.toArray=(vs++a).toArray:=by simp
 by_cases hw:a=[]
 ·exact Mm ⟨_,i,rfl⟩ ⟨_,c,rfl⟩ Lx Of Ih Hz (Hm _ _)
   (tuple_addW1 t b vs.toArray a.toArray n j dd h sl d (by simpa using k) (by simp[hw])) ⟨i,c,h1 hw⟩
 ·refine Mm ⟨_,i,rfl⟩ ⟨_,c,rfl⟩ Lx Of Ih Hz (Hm _ _)
   (tuple_addW2 t b vs.toArray a.toArray n j dd h sl d (by simpa using k) (by simpa using hw) (by rw[Ao,Ao];exact hsz)) ⟨i,c,?_⟩
  rw[e];exact h2 hw
noncomputable def sIx(n d:Nat):Option Int->Nat
 |none=>d
 |some v=>if v<0 then(v+(n:Int)).toNat else min v.toNat n
def FO(n d:Nat):sIx n d b4=d:=rfl
def BO(n d k:Nat):sIx n d (b3 (k:Int))=min k n:=by show(if(k:Int)<0 then((k:Int)+(n:Int)).toNat else min (k:Int).toNat n)=min k n;rw[if_neg (by lia),Il]
def iT(n d:Nat)(hd:d<=n)(o:Option Int):sIx n d o<=n:=by
 cases o with
 |none=>exact hd
 |some v=>
  show(if v<0 then(v+(n:Int)).toNat else min v.toNat n)<=n;by_cases a:v<0
  ·rw[if_pos a];lia
  ·rw[if_neg a];exact Nat.min_le_right _ _
def AE(v:Int)(n d:Nat):(if v<0 then max (v+(n:Int)) 0 else min v (n:Int))=((sIx n d (b3 v):Nat):Int):=by
 show(if v<0 then max (v+(n:Int)) 0 else min v (n:Int))=(((if v<0 then(v+(n:Int)).toNat else min v.toNat n):Nat):Int);by_cases a:v<0
 ·simp only[if_pos a];lia
 ·simp only[if_neg a];lia
def CB(lo hi:Option Int)(n:Nat):Hg lo hi 1 (n:Int)=(((sIx n 0 lo:Nat):Int),((sIx n n hi:Nat):Int)):=by
 have h1:¬((1:Int)<0):=by lia
 unfold Hg;simp only[h1,if_false];refine Prod.ext ?_ ?_
 ·cases lo with
  |none=>rfl
  |some v=>exact AE v n 0
 ·cases hi with
  |none=>rfl
  |some v=>exact AE v n n
def DB(i j:Nat):Fv (i:Int) (j:Int) 1=j-i:=by
 unfold Fv;have h1:(1:Int)>0:=by lia
 simp only[h1,if_true,Int.ediv_one];split<;>lia
def LM{v:Uc}{o:Option Int}{Q:Option Int->Ae->Prop}(p:IsPart v o)(h:Q o s):Ue (Uf prog w) A (Qy v) Q E s:=by
 cases p with
 |none=>exact slicePart_none h
 |int i t=>exact slicePart_int h
def UK{sl:Ud}{d c:Uc}{lo hi:Option Int}{n:Nat}{Q:Int×Int×Nat->Ae->Prop}(hs:s.heap.IsSliceOf sl d c .none)(pl:IsPart d lo)(pu:IsPart c hi)(h:Q (((sIx n 0 lo:Nat):Int),1,sIx n n hi-sIx n 0 lo) s):Ue (Uf prog w) A (Kh (.ref sl) (pure (n:Int))) Q E s:=by obtain⟨os,a,e,b⟩:=id hs;unfold Kh Sf;refine Aa (Aa (Ed a b (x:=d) rfl (Aa (Ed a b (x:=c) rfl (Aa (Ed a b (x:=.none) rfl (Ah ?_)))))));refine Aa (slicePart_none ?_);show Ue _ _ (if((1:Int)==0)=b8 then _ else _) _ _ s;rw[if_neg (by decide)];refine Aa (LM pl (Aa (LM pu (Aa (Ah ?_)))));show Ue _ _ (match Hg lo hi 1 (n:Int)with|(lo,hi)=>pure (lo,(1:Int),Fv lo hi 1)) _ _ s;rw[CB lo hi n];show Ue _ _ (pure (((sIx n 0 lo:Nat):Int),(1:Int),Fv ((sIx n 0 lo:Nat):Int) ((sIx n n hi:Nat):Int) 1)) _ _ s;rw[DB];exact Ah h
def mL(xs:Array Uc)(i k:Nat):((Az k).filterMap λ(m:Nat)=>xs[((i:Int)+(m:Int)*1).toNat]?).toArray=((xs.toList.drop i).take k).toArray:=by
 have e:(λ(m:Nat)=>xs[((i:Int)+(m:Int)*1).toNat]?)=λm=>xs[i+m]? :=by
  funext m;have:((i:Int)+(m:Int)*1).toNat=i+m:=by lia
  rw[this]
 rw[e];have:=pick_run xs i k
 rw[List.filterMap_map]at this;have a:((λx=>xs[x]?)∘λx=>i+x)=λm=>xs[i+m]? :=rfl;rw[a]at this;rw[this]
def OR{t sl:Ud}{items:Array Uc}{i g:Uc}{lo hi:Option Int}{Q:Uc->Ae->Prop}(a:IsTup s.heap t items)(hs:s.heap.IsSliceOf sl i g .none)(pl:IsPart i lo)(pu:IsPart g hi)(hw:¬(sIx items.size 0 lo=0/\sIx items.size items.size hi=items.size))(h:Q (.ref s.heap.objs.size) {s with heap:=s.heap.push {cls:=.type "tuple",data:=.seq ((items.toList.drop (sIx items.size 0 lo)).take (sIx items.size items.size hi-sIx items.size 0 lo)).toArray}})(hsz:items.size<=sizeLine):Ue (Uf prog w) A (Lk (.ref t) (.ref sl)) Q E s:=by
 have b:sizeOk (.seq ((items.toList.drop (sIx items.size 0 lo)).take (sIx items.size items.size hi-sIx items.size 0 lo)).toArray):=by show((items.toList.drop (sIx items.size 0 lo)).take (sIx items.size items.size hi-sIx items.size 0 lo)).toArray.size<=sizeLine;rw[Ao,Cz,Qk,Gf];lia
 have k:sIx items.size items.size hi<=items.size:=iT _ _ (Am _) hi;obtain⟨os,c,e,j⟩:=id hs;have f:s.TypeIs (.ref sl) "slice":=⟨os,c,e⟩;unfold Lk;try with_reducible refine Bw ?_
 first|refine Aa (Ah ?_)|skip
 refine Aa (Kx a.typeIs (by decide) ?_);refine Aa (Dt (name:=Bj "__getitem__") a.typeIs Ek
  (Eg Ek a.typeIs entry_tuple_getitem ?_ (args_tuple_getitem _ _)))
 show Ue _ _ (Ki (.ref t)>>=_) _ _ s;refine Aa (tupleItemsOf_ a ?_);refine Aa (Kl f ?_);rw[if_pos (by decide)];refine Aa (UK hs pl pu ?_);have d:¬((((sIx items.size 0 lo:Nat):Int)==0&&(1:Int)==1&&(sIx items.size items.size hi-sIx items.size 0 lo)==items.size)=b8):=by intro q;rw[Af,Af]at q;have q1:((sIx items.size 0 lo:Nat):Int)=0:=eq_of_beq q.1.1;have q2:sIx items.size items.size hi-sIx items.size 0 lo=items.size:=eq_of_beq q.2;exact hw ⟨by lia,by lia⟩
 show Ue _ _ (if(((sIx items.size 0 lo:Nat):Int)==0&&(1:Int)==1&&(sIx items.size items.size hi-sIx items.size 0 lo)==items.size)=b8 then _ else _) _ _ s;rw[if_neg d,mL]
 first
  |exact Aa (m:=Fz _) (Dh (Ah ⟨_,rfl,Ah h⟩) b)
  |exact Aa (m:=Fz _) (Dh (Aa (Ah (Ah ⟨_,rfl,Ah h⟩))) b)
  |exact Aa (Aa (m:=Fz _) (Dh (Ah (Ah ⟨_,rfl,Ah h⟩)) b))
  |exact Aa (Aa (m:=Fz _) (Dh (Ah ⟨_,rfl,Ah h⟩) b))
end
end HT
namespace L2
open PySem PySem.Spec PyProof.Rows
abbrev TO:=St->Hp->(Option Int->Hp->Prop)->Prop
def PO(X:Cx)(e:Option Uj)(t:TO):Prop:=
 ∀(aa:List (Ud×Uq)) (s:Ae) (σ:St) (H:Hp) (Q:Option Int->Hp->Prop),bM X aa σ H s->t σ H Q->
  Ue (Uf X.prog X.w) X.A (evalPart e X.env) (λu s'=>∃o H',bM X aa σ H' s'/\IsPart u o/\Q o H') X.xe s
def cH:TO:=λ_ H Q=>Q b4 H
def kl(t:TE):TO:=λσ H Q=>t σ H λx H1=>∃i,x=.int i/\Q (b3 i) H1
def CN{ns:List Int}:∀{a:List Uc},aK (ns.map V.int) a->Rm a ns:=by
 induction ns with
 |nil=>intro a r;rw[Cw]at r;cases r;exact .nil
 |cons n ns d=>
  intro a r;rw[Bg]at r;cases r with
  |cons c b=>
   obtain⟨t,e⟩:=c;subst e;exact .cons n t (d b)
section
variable{X:Cx}{e:Uj}{te:TE}{lo hi:Option Uj}{tl th:TO}{pos p2:Pos}
def zG5:PO X b4 cH:=by intro aa s σ H Q I h;rw[evalPart_none];exact Ah ⟨b4,H,I,.none,h⟩
def Zu(h:PE X e te):PO X (b3 e) (kl te):=by intro aa s σ H Q I hw;rw[evalPart_some];refine YC (h aa s σ H _ I hw) λu s1 ⟨x,H1,b,a,q1⟩=>?_;obtain⟨i,rfl,q⟩:=q1;obtain⟨t,rfl⟩:=a;exact⟨b3 i,H1,b,.int i t,q⟩
def SlR(X:Cx)(r:V->Option Int->Option Int->Hp->VK->Prop):Prop:=
 ∀(aa:List (Ud×Uq)) (s:Ae) (σ:St) (H:Hp) (x:V) (v b a:Uc) (lo hi:Option Int) (sl:Ud) (Q:VK),bM X aa σ H s->aG x v->s.heap.IsSliceOf sl b a .none->IsPart b lo->IsPart a hi->r x lo hi H Q->
  ∃T id,typeLookup (.type T) "__getitem__"=pure (b3 (.builtin id))/\s.TypeIs v T/\Ue (Uf X.prog X.w) X.A (Lk v (.ref sl)) (EP X aa σ Q) X.xe s
def SlR.or{r r':V->Option Int->Option Int->Hp->VK->Prop}(h:SlR X r)(h':SlR X r'):SlR X (λx lo hi H Q=>r x lo hi H Q∨r' x lo hi H Q):=by
 intro aa s σ H x v b a lo hi sl Q I c hs pl pu q;rcases q with q|q
 ·exact h aa s σ H x v b a lo hi sl Q I c hs pl pu q
 ·exact h' aa s σ H x v b a lo hi sl Q I c hs pl pu q
def tSl(r:V->Option Int->Option Int->Hp->VK->Prop)(te:TE)(tl th:TO):TE:=λσ H Q=>te σ H λx H1=>tl σ H1 λl H2=>th σ H2 λu a=>r x l u a Q
def cS{r:V->Option Int->Option Int->Hp->VK->Prop}(m:SlR X r)(o:PE X e te)(hl:PO X lo tl)(j:PO X hi th):PE X (.Subscript e (.Slice lo hi b4 p2) pos) (tSl r te tl th):=by intro aa s σ H Q I h;refine Subscript_ (YC (o aa s σ H _ I h) λv s1 ⟨x,H1,B,i,q1⟩=>?_);refine wpAny_Slice (YC (hl aa s1 σ H1 _ B q1) λd g ⟨l,H2,z,pl,q2⟩=>YC (j aa g σ H2 _ z q2) λc a ⟨u,f,y,pu,q3⟩=>?_);rw[evalPart_none];refine Ah ?_;have t:bM X aa σ f {a with heap:=a.heap.push {cls:=.type "slice",data:=.fields #[d,c,.none]}}:=y.kept (t':=a.toks) λb C q=>Ad _ q;obtain⟨T,id,p,k,n⟩:=m aa {a with heap:=a.heap.push {cls:=.type "slice",data:=.fields #[d,c,.none]}} σ f x v d c l u a.heap.objs.size Q t i (Tz ..) pl pu q3;show Ue (Uf X.prog X.w) X.A (subscriptTail e (.Slice lo hi b4 p2) v (.ref a.heap.objs.size)) (EP X aa σ Q) X.xe {a with heap:=a.heap.push {cls:=.type "slice",data:=.fields #[d,c,.none]}};exact Su (ops:=[.ref a.heap.objs.size,v]) k p n (by with_unfolding_all rfl)
def EH(xs:List V)(lo hi:Option Int):List V:=(xs.drop (HT.sIx xs.length 0 lo)).take (HT.sIx xs.length xs.length hi-HT.sIx xs.length 0 lo)
def MU(xs:List V)(lo hi:Option Int):(EH xs lo hi).length<=xs.length:=by unfold EH;rw[Cz,Qk];lia
def rSlT(K:Aj):V->Option Int->Option Int->Hp->VK->Prop:=λx lo hi H Q=>∃a xs,x=.ref a/\U6 K H a xs∧
 ¬(HT.sIx xs.length 0 lo=0/\HT.sIx xs.length xs.length hi=xs.length)/\∀p,H p=b4->Q (.ref p) (upd H p (.tup (EH xs lo hi)))
def zJ7:SlR X (rSlT X.K):=by
 intro aa s σ H x v i g lo hi sl Q I e hs pl pu h;obtain⟨a,xs,rfl,f,hw,q⟩:=h;cases e;obtain⟨its,r,d,hz⟩:=I.tuple f;have c:its.toArray.size=xs.length:=by rw[Ao];exact r.length.symm
 refine⟨"tuple",_,PyProof.Rows.slot_tuple_getitem.lookup,d.typeIs,?_⟩;refine HT.OR d hs pl pu (by rw[c];exact hw) ?_ (by rw[c];exact hz);rw[c];refine⟨.ref s.heap.objs.size,_,I.laid (t':=s.toks) (o:=.tup (EH xs lo hi)) (λb j q=>Ad _ q) (Am _) ?_,rfl,q _ (I.hok.fresh (Am _))⟩;exact⟨Dj (MU xs lo hi) hz,_,(r.drop (HT.sIx xs.length 0 lo)).take (HT.sIx xs.length xs.length hi-HT.sIx xs.length 0 lo),Js _ _⟩
def aK.nil_iff{xs:List V}{a:List Uc}(r:aK xs a):a=[]↔xs=[]:=by
 cases r with
 |nil=>simp
 |cons _ _=>simp
end
noncomputable def ixN(n:Nat)(i:Int):Option Nat:=if 0<=i then(if i<n then b3 i.toNat else b4)else if -(n:Int)<=i then b3 (i+n).toNat else b4
def RG{α:Type}(xs:List α)(i:Int):Option α:=(ixN xs.length i).bind λj=>xs[j]?
def mU{n:Nat}{i:Int}{j:Nat}(h:ixN n i=b3 j):seqIndex? i n=b3 j/\j<n/\ -(n:Int)<=i/\i<n:=by
 unfold ixN at h;by_cases a:0<=i
 ·rw[if_pos a]at h
  by_cases h1:i<n
  ·rw[if_pos h1]at h
   have e:i.toNat=j:=Cq h;exact⟨by rw[seqIndex_of a h1,e],by lia,by lia,h1⟩
  ·rw[if_neg h1]at h;cases h
 ·rw[if_neg a]at h
  by_cases h1: -(n:Int)<=i
  ·rw[if_pos h1]at h
   have e:(i+n).toNat=j:=Cq h;exact⟨by rw[seqIndex_neg (by lia) h1,e],by lia,h1,by lia⟩
  ·rw[if_neg h1]at h;cases h
def F9{α:Type}{xs:List α}{i:Int}{v:α}(h:RG xs i=b3 v):∃j,seqIndex? i xs.length=b3 j/\xs[j]?=b3 v/\j<xs.length/\ -(xs.length:Int)<=i/\i<xs.length:=by
 unfold RG at h;cases e:ixN xs.length i with
 |none=>rw[e]at h;cases h
 |some j=>
  rw[e]at h;obtain⟨h1,h2,b,a⟩:=mU e;exact⟨j,h1,h,h2,b,a⟩
def OF{α:Type}(xs:List α)(v:α):RG (xs++[v]) (-1)=b3 v:=by
 have hl:(xs++[v]).length=xs.length+1:=by simp
 have e:ixN (xs++[v]).length (-1)=b3 xs.length:=by unfold ixN;rw[hl,if_neg (by decide),if_pos (by lia)];congr 1;lia
 unfold RG;rw[e];show(xs++[v])[xs.length]?=b3 v;simp
def F6(b:Uj):Prop:=∀o i,subscripted b ba o i=operate [o,i] (Lk o i)
def IxR(X:Cx)(r:R2):Prop:=
 ∀(value a:Uj) (aa:List (Ud×Uq)) (s:Ae) (σ:St) (H:Hp) (x y:V) (v u:Uc) (Q:VK),bM X aa σ H s->aG x v->aG y u->r x y H Q->
  subscripted a ba v u=operate [v,u] (Lk v u)->Ue (Uf X.prog X.w) X.A (subscriptTail value a v u) (EP X aa σ Q) X.xe s
def MtR(X:Cx)(id:String)(r:V->List V->Hp->VK->Prop):Prop:=
 ∀(aa:List (Ud×Uq)) (s:Ae) (σ:St) (H:Hp) (x:V) (xs:List V) (v:Uc) (a:List Uc) (Q:VK),bM X aa σ H s->aG x v->aK xs a->r x xs H Q->
  Ue (Uf X.prog X.w) X.A (call (.builtin id) (v::a)) (EP X aa σ Q) X.xe s
section
variable{X:Cx}{a b:Uj}{ta tb:TE}{pos:Pos}
def IxR.or{r r':R2}(h:IxR X r)(h':IxR X r'):IxR X (λx y H Q=>r x y H Q∨r' x y H Q):=by
 intro value a aa s σ H x y v u Q I c b q hs;rcases q with q|q
 ·exact h value a aa s σ H x y v u Q I c b q hs
 ·exact h' value a aa s σ H x y v u Q I c b q hs
def eN{r:R2}(f:IxR X r)(i:PE X a ta)(g:PE X b tb)(hs:F6 b):PE X (.Subscript a b pos) (tOp r ta tb):=by intro aa s σ H Q I h;exact Subscript_ (binT i g I h λv u c x y H2 j e d q=>f a b aa c σ H2 x y v u Q j e d q (hs _ _))
def rIxL(K:Aj):R2:=λx y H Q=>∃p xs i v,x=.ref p/\y=.int i/\WW K H p xs/\RG xs i=b3 v/\Q v H
def rIxT(K:Aj):R2:=λx y H Q=>∃p xs i v,x=.ref p/\y=.int i/\U6 K H p xs/\RG xs i=b3 v/\Q v H
def rIxS:R2:=λx y H Q=>∃z i c,x=.str z/\y=.int i/\z.length<=sizeLine/\RG z.cps.toList i=b3 c/\Q (.str ⟨#[c]⟩) H
def zH4:IxR X (rIxL X.K):=by
 intro value b aa s σ H x y v u Q I k g h hs;obtain⟨p,xs,i,z,rfl,rfl,l,m,q⟩:=h;cases k;obtain⟨t,rfl⟩:=g;obtain⟨its,r,pl,hz⟩:=I.list l;obtain⟨j,h1,h2,B,o,n⟩:=F9 m;obtain⟨w,f,c⟩:=r.get h2;have hl:=r.length;have A:=K4;have a:EP X aa σ Q w s:=⟨z,H,I,c,q⟩;by_cases e:0<=i
 ·have d:i.toNat=j:=by rw[seqIndex_of e n]at h1;exact Cq h1
  exact item_listR pl.isList e (by lia) (by rw[d];simpa using f) a hs
 ·have d:(i+(its.toArray.size:Int)).toNat=j:=by rw[seqIndex_neg (by lia) o]at h1;rw[Ao,<- hl];exact Cq h1
  exact Mc (x:=w) pl.isList.typeIs slot_list_getitem.lookup
   (wpAny_getItem_list_neg (Q:=λr s'=>r=w/\EP X aa σ Q r s') pl.isList (by lia) (by rw[Ao]<;>lia) (by lia) (by rw[d];simpa using f) ⟨rfl,a⟩) hs
def zKK:IxR X (rIxT X.K):=by
 intro value a aa s σ H x y v u Q I e d h hs;obtain⟨p,xs,i,z,rfl,rfl,f,g,q⟩:=h;cases e;obtain⟨t,rfl⟩:=d;obtain⟨its,r,pl,hz⟩:=I.tuple f;obtain⟨j,h1,h2,o,n,m⟩:=F9 g;obtain⟨w,k,b⟩:=r.get h2;have hl:=r.length;have l:=K4;have c:EP X aa σ Q w s:=⟨z,H,I,b,q⟩;exact Mc (x:=w) pl.typeIs slot_tuple_getitem.lookup
  (getItem_tuple (j:=j) (Q:=λr s'=>r=w/\EP X aa σ Q r s') pl (by lia) (by lia) (by rw[Ao,<-hl];exact h1) (by simpa using k) ⟨rfl,c⟩) hs
def Za:IxR X rIxS:=by
 intro value a aa s σ H x y v u Q I d b h hs;obtain⟨z,i,c,rfl,rfl,hz,e,q⟩:=h;obtain⟨t,rfl⟩:=d;obtain⟨t',rfl⟩:=b;obtain⟨j,h1,h2,n,g,f⟩:=F9 e;have hl:z.cps.toList.length=z.length:=by simp[Str.length]
 rw[hl]at h1 g f;have m:=K4;exact Su (typeIs_str s z t) slot_str_getitem.lookup (getItem_str (c:=c) (by have l:decide (i< -(2 ^ 63:Int))=ba:=decide_eq_false (by lia);have k:decide (i≥2 ^ 63)=ba:=decide_eq_false (by lia);rw[l,k,Sv]) (by rw[h1];simpa using h2) ⟨.str ⟨#[c]⟩,H,I.tok _,⟨_,rfl⟩,q⟩) hs
def rIx(K:Aj):R2:=λx y H Q=>rIxL K x y H Q∨rIxT K x y H Q∨rIxS x y H Q
def zKM:IxR X (rIx X.K):=zH4.or (zKK.or Za)
def HH(lo hi:Option Int)(n:Nat):(Im lo hi b4 n).1=((HT.sIx n 0 lo:Nat):Int)/\(Im lo hi b4 n).2.1=((HT.sIx n n hi:Nat):Int)/\(Im lo hi b4 n).2.2=1:=by
 refine⟨?_,?_,rfl⟩
 ·cases lo with
  |none=>simp[Im,HT.sIx]
  |some i=>
   simp only[Im,HT.sIx,Ql,show(1:Int)>0 by decide,if_true];by_cases h:i<0
   ·simp only[h,if_true]<;>lia
   ·simp only[h,if_false]<;>lia
 ·cases hi with
  |none=>simp[Im,HT.sIx]
  |some i=>
   simp only[Im,HT.sIx,Ql,show(1:Int)>0 by decide,if_true];by_cases h:i<0
   ·simp only[h,if_true]<;>lia
   ·simp only[h,if_false]<;>lia
def J5(its:List Uc)(lo hi:Option Int):slicePick its.toArray lo hi b4=((its.drop (HT.sIx its.length 0 lo)).take (HT.sIx its.length its.length hi-HT.sIx its.length 0 lo)).toArray:=by obtain⟨h1,h2,a⟩:=HH lo hi its.toArray.size;unfold slicePick;rw[h1,h2,a];simp only[sliceRange_one,pick_run,Ao]<;>rfl
def rSlL(K:Aj):V->Option Int->Option Int->Hp->VK->Prop:=λx lo hi H Q=>∃a xs,x=.ref a/\WW K H a xs/\∀p,H p=b4->Q (.ref p) (upd H p (.lst (EH xs lo hi)))
def iW:SlR X (rSlL X.K):=by intro aa s σ H x v i g lo hi sl Q I d hs pl pu h;obtain⟨a,xs,rfl,e,q⟩:=h;cases d;obtain⟨its,r,c,hz⟩:=I.list e;have f:=r.length;refine⟨"list",_,slot_list_getitem.lookup,c.isList.typeIs,?_⟩;refine wpAny_getItem_list_slice c.isList hs pl pu .none (by simp) ?_ (by rw[Ao]<;>lia);rw[J5,<-f];refine⟨.ref s.heap.objs.size,_,I.laid (t':=s.toks) (o:=.lst (EH xs lo hi)) (λb j q=>Ad _ q) (Am _) ?_,rfl,q _ (I.hok.fresh (Am _))⟩;exact⟨Dj (MU xs lo hi) hz,_,0,(r.drop (HT.sIx xs.length 0 lo)).take (HT.sIx xs.length xs.length hi-HT.sIx xs.length 0 lo),Ba _ rfl⟩
def GC:ZH X (.builtin "len") (λxs H Q=>∃p ys,xs=[.ref p]/\(WW X.K H p ys∨U6 X.K H p ys)/\Q (.int ys.length) H):=by
 intro aa s σ H xs d Q I r h;obtain⟨p,ys,rfl,a,q⟩:=h;obtain⟨u,rfl,c⟩:=SQ r;cases c;have e:=K4;rcases a with a|a
 ·obtain⟨its,r',pl,hz⟩:=I.list a
  have b:=r'.length;exact Calls.call_len_list pl.isList (by simp only[Ao]<;>lia) ⟨.int ys.length,H,I.tok _,⟨s.toks+1,by rw[Ao,b]⟩,q⟩
 ·obtain⟨its,r',pl,hz⟩:=I.tuple a
  have b:=r'.length;exact len_tuple pl (by simp only[Ao]<;>lia) ⟨.int ys.length,H,I.tok _,⟨s.toks+1,by rw[Ao,b]⟩,q⟩
def GD:ZH X (.builtin "len") (λxs H Q=>∃z,xs=[.str z]/\z.length<=sizeLine/\Q (.int z.length) H):=by intro aa s σ H xs a Q I r h;obtain⟨z,rfl,hz,q⟩:=h;obtain⟨u,rfl,t,rfl⟩:=SQ r;have b:=K4;exact len_str (by lia) ⟨.int z.length,H,I.tok _,⟨_,rfl⟩,q⟩
def ZH.or{f:Uc}{r r':List V->Hp->VK->Prop}(h:ZH X f r)(h':ZH X f r'):ZH X f (λxs H Q=>r xs H Q∨r' xs H Q):=by
 intro aa s σ H xs a Q I b q;rcases q with q|q
 ·exact h aa s σ H xs a Q I b q
 ·exact h' aa s σ H xs a Q I b q
def GF:ZH X (.type "list") (λxs H Q=>∃p ys,xs=[.ref p]/\(WW X.K H p ys∨U6 X.K H p ys)/\∀l,H l=b4->Q (.ref l) (upd H l (.lst ys))):=by
 intro aa s σ H xs j Q I r h;obtain⟨p,ys,rfl,c,q⟩:=h;obtain⟨u,rfl,g⟩:=SQ r;cases g;have d:∀(its:List Uc),aK ys its->ys.length<=sizeLine->∀(h':Um) (a:Nat),(∀b o',s.heap.get? b=b3 o'->h'.get? b=b3 o')->
   h'.get? s.heap.objs.size=b3 {cls:=.type "list",dict:=b4,data:=.seq its.toArray a,slots:= #[]}->EP X aa σ Q (.ref s.heap.objs.size) {s with heap:=h'}:=λits r' hz h' a kp e=>
  ⟨.ref s.heap.objs.size,_,I.laid (t':=s.toks) kp (Am _) (show Y7 X.prog X.w _ h' _ (.lst ys) from⟨hz,its,a,r',e⟩),rfl,q _ (I.hok.fresh (Am _))⟩
 rcases c with c|c
 ·obtain⟨its,r',pl,hz⟩:=I.list c
  have i:=r'.length;obtain⟨o,f,hc,n,hd⟩:=pl.isList;exact call_list_seq p (.inl rfl) f hc hd (λh' a kp e=>d its r' hz h' a kp e) (by simp only[Ao]<;>lia)
 ·obtain⟨its,r',pl,hz⟩:=I.tuple c
  have i:=r'.length;obtain⟨o,f,hc,n,hd⟩:=pl;exact call_list_seq p (.inr rfl) f hc hd (λh' a kp e=>d its r' hz h' a kp e) (by simp only[Ao]<;>lia)
def JZ:ZH X (.type "tuple") (λxs H Q=>∃p ys,xs=[.ref p]/\((WW X.K H p ys/\∀l,H l=b4->Q (.ref l) (upd H l (.tup ys)))∨(U6 X.K H p ys/\Q (.ref p) H))):=by
 intro aa s σ H xs g Q I r h;obtain⟨p,ys,rfl,h⟩:=h;obtain⟨u,rfl,d⟩:=SQ r;cases d;rcases h with⟨a,q⟩|⟨a,q⟩
 ·obtain⟨its,r',pl,hz⟩:=I.list a
  have i:=r'.length;refine call_tuple_list pl.isList (λh' kp=>?_) (by simp only[Ao]<;>lia);have c:bM X aa σ H {s with heap:=h'}:=I.kept (t':=s.toks) kp;have f:bM X aa σ (upd H h'.objs.size (.tup ys)) {s with heap:=h'.push {cls:=.type "tuple",data:=.seq its.toArray}}:=
   c.laid (t':=s.toks) (λb o e=>Ad _ e) (Am _) (show Y7 X.prog X.w _ _ _ (.tup ys) from⟨hz,its,r',Js _ _⟩)
  exact⟨.ref h'.objs.size,_,f,rfl,q _ (c.hok.fresh (Am _))⟩
 ·obtain⟨its,r',pl,hz⟩:=I.tuple a
  exact call_tuple_same pl ⟨.ref p,H,I,rfl,q⟩
def tyV(K:Aj)(T:String)(x:V)(H:Hp):Prop:=match x with
 |.str _=>T= "str"
 |.int _=>T= "int"
 | .ref p => (T = "list" /\ ∃ xs,WW K H p xs) ∨ (T = "tuple" /\ ∃ o,K.lookup p = b3 o /\ o.cls = .type "tuple" /\ o.dict = b4) ∨
   (T= "dict" /\((∃kvs,H p=b3 (.dK kvs))∨∃kvs,H p=b3 (.dT kvs)))∨(T= "set" /\∃S n,H p=b3 (.set S n))
 |_=>False
def lz{aa:List (Ud×Uq)}{σ:St}{H:Hp}{s:Ae}{T:String}{x:V}{v:Uc}(I:bM X aa σ H s)(r:aG x v)(ty:tyV X.K T x H):s.TypeIs v T/\∀a,v=.ref a->∃f,s.heap.get? a=b3 f/\f.dict=b4:=by
 cases x with
 |str z=>
  obtain⟨t,rfl⟩:=r;cases (show T= "str" from ty);exact⟨typeIs_str s z t,λ_ e=>nomatch e⟩
 |int i=>
  obtain⟨t,rfl⟩:=r;cases (show T= "int" from ty);exact⟨My s i t,λ_ e=>nomatch e⟩
 |ref p=>
  cases r;rcases ty with⟨rfl,xs,g⟩|⟨rfl,o,b,hc,hd⟩|⟨rfl,b⟩|⟨rfl,S,n,b⟩
  ·obtain⟨its,_,pl,_⟩:=I.list g
   refine⟨pl.isList.typeIs,λa e=>?_⟩;cases e;obtain⟨o,n,e,c,hd,_⟩:=pl;exact⟨o,e,hd⟩
  ·refine ⟨⟨o,I.kIn p o b,hc⟩,λa e => ?_⟩
   cases e;exact⟨o,I.kIn _ o b,hd⟩
  ·have z: ∃o,s.heap.get? p=b3 o/\o.ExactDict:=by
    rcases b with⟨kvs,b⟩|⟨kvs,b⟩
    ·obtain⟨_,_,_,_,o,_,_,e,ex,_⟩:=I.hok p _ b
     exact⟨o,e,ex⟩
    ·obtain⟨_,_,_,_,o,_,_,e,ex,_⟩:=I.hok p _ b
     exact⟨o,e,ex⟩
   obtain⟨o,e,ex⟩:=z;refine⟨⟨o,e,ex.1⟩,λa d=>?_⟩;cases d;exact⟨o,e,ex.2.1⟩
  ·obtain⟨o,_,_,_,e,ex,_⟩:=I.hok p _ b
   refine⟨⟨o,e,ex.1⟩,λa d=>?_⟩;cases d;exact⟨o,e,ex.2.1⟩
 |_=>exact Gw ty
def tBM(K:Aj)(T:String)(r:V->List V->Hp->VK->Prop)(to:TE)(t:TA):TE:=λσ H Q=>to σ H λx H1=>tyV K T x H1/\t σ H1 λxs H2=>r x xs H2 Q
variable{o e:Uj}{es:List Uj}{to:TE}{t:TA}{name:Ug}{aq ai:Pos}{T id:String}{r:V->List V->Hp->VK->Prop}
def oN(pa:PlainAttrs T)(slot:Slot T name id)(a:Nh (.builtin id)=pure (.type "method_descriptor"))(k:MtR X id r)(j:PE X o to)(l:PA X (e::es) t)(n:Fs o name X.env (eval o X.env)=eval o X.env:=by rfl)(m:((Ei ai (Uh (e::es) X.env)).all (λx=> !x.1)&&(Km ai (Gp [] X.env)).all (λx=>x.1.isSome)&&decide ((e::es).length+([]:List Io).length+(if([]:List Io).isEmpty then 0 else 1)<30))=b8:=by rfl)(p:(aq.endLine==ai.line)=b8:=by rfl)(hs:Uh (e::es) X.env=(ba,eval e X.env)::Uh es X.env:=by rfl)(q:(Ei ai (Uh es X.env)).any (·.1)=ba:=by rfl):PE X (.Call (.Attribute o name aq) (e::es) [] ai) (tBM X.K T r to t):=by intro aa s σ H Q I h;refine wpAny_Call_method_late n m p rfl (YC (j aa s σ H _ I h) λv s1 ⟨x,H1,d,b,ty,q1⟩=>?_);obtain⟨h1,h2⟩:=lz d b ty;refine⟨T,id,pa,slot,a,h1,h2,?_⟩;have c:=l ai aa s1 σ H1 _ d q1;rw[hs]at c⊢;refine Fi (by show(ba || (Ei ai (Uh es X.env)).any (·.1))=ba;rw[q]<;>rfl) (Ef ?_);exact YC c λf g ⟨vs,H2,u,i,q2⟩=>k aa g σ H2 x vs v f Q u b i q2
end
def MtM(X:Cx)(id:String)(r:V->List V->Hp->VK->Prop):Prop:=
 ∀(aa:List (Ud×Uq)) (s:Ae) (σ:St) (H:Hp) (x:V) (xs:List V) (v:Uc) (a:List Uc) (Q:VK),bM X aa σ H s->aG x v->aK xs a->r x xs H Q->
  Ue (Uf X.prog X.w) X.A (call (.builtin id) (v::a)) (EP X aa σ Q) X.xe s
theorem aK.one:∀{x:V}{a:List Uc},aK [x] a->∃u,a=[u]/\aG x u
 |_,_,.cons r .nil=>⟨_,rfl,r⟩
theorem aK.eraseIdx:∀{xs:List V}{a:List Uc}(i:Nat),aK xs a->aK (xs.eraseIdx i) (a.eraseIdx i)
 |_,_,_,.nil=>.nil
 |_,_,0,.cons _ t=>t
 |_,_,i+1,.cons r t=>.cons r (aK.eraseIdx i t)
section
variable{X:Cx}{aa:List (Ud×Uq)}{σ:St}{H:Hp}{s:Ae}{l b:Ud}{xs ys zs:List V}
def bM.lset{its its':List Uc}{n:Nat}{f:Array Uc->Array Uc}{t':Nat}(I:bM X aa σ H s)(g:H l=b3 (.lst xs))(e:s.heap.get? l=b3 {cls:=.type "list",data:=.seq its.toArray n})(c:f its.toArray=its'.toArray)(a:aK ys its')(hz:ys.length<=sizeLine):bM X aa σ (upd H l (.lst ys)) {s with heap:=s.heap.update l (Fn f),toks:=t'}:=by have q:=PySem.IsL.update e f;rw[c]at q;refine I.write (x:=l) (e:=l) (by rw[g];exact trivial) (.inl rfl) (λh u d b=>(Gm s.heap (Fn f) (Ck d)).trans b) ⟨_,q⟩ ?_;exact⟨hz,its',_,a,q⟩
def bM.lnew{its:List Uc}{t':Nat}(I:bM X aa σ H s)(a:aK ys its)(hz:ys.length<=sizeLine):bM X aa σ (upd H s.heap.objs.size (.lst ys)) {s with heap:=s.heap.push {cls:=.type "list",data:=.seq its.toArray},toks:=t'}:=
 I.laid (λ_ _ q=>Ad _ q) (Am _) ⟨hz,its,0,a,Ba _ rfl⟩
def bM.fresh(I:bM X aa σ H s):H s.heap.objs.size=b4:=I.hok.fresh (Am _)
def bM.lstM(I:bM X aa σ H s)(a:H l=b3 (.lst xs)):xs.length<=sizeLine/\∃(its:List Uc) (n:Nat),aK xs its/\xs.length=its.length/\s.heap.get? l=b3 {cls:=.type "list",data:=.seq its.toArray n}:=by obtain⟨z,its,n,r,e⟩:=I.hok l _ a;exact⟨z,its,n,r,r.length,e⟩
def Zy{n:Nat}(h:n<=sizeLine):Ga n=ba:=by unfold Ga;exact decide_eq_false (by lia)
end
section
variable{X:Cx}
def BF:V->List V->Hp->VK->Prop:=λx vs H Q=>∃l xs y,x=.ref l/\vs=[y]/\H l=b3 (.lst xs)/\xs.length<sizeLine/\Q .non (upd H l (.lst (xs++[y])))
def aQ:MtM X "list.append" BF:=by intro aa s σ H x vs v f Q I b c h;obtain⟨l,xs,y,rfl,rfl,a,hz,q⟩:=h;cases b;obtain⟨u,rfl,d⟩:=c.one;obtain⟨z,its,n,r,hl,e⟩:=I.lstM a;refine Gb F.slot_list_append ⟨_,e,rfl⟩ F.entry_list_append (F.args_list_append_2 _ _) (PySem.list_append l its.toArray n u (by rw[Ao];lia)) ⟨e,?_⟩;refine⟨.non,_,I.lset (its':=its++[u]) a e (by simp) (r.append (.cons d .nil)) ?_,rfl,q⟩;rw[By,Gq];lia
end
section
variable{prog:Be}{w:Ul}{A:Bx}{E:Uc->Ae->Prop}{s:Ae}
set_option maxRecDepth 100000 in
end
section
variable{κ:Type}[DecidableEq κ]
noncomputable def QU(kvs:List (κ×V))(k:κ):Option V:=(kvs.find? λa=>decide (a.1=k)).map (·.2)
noncomputable def WS(kvs:List (κ×V))(k:κ)(v:V):List (κ×V):=
 if(kvs.any λa=>decide (a.1=k))=b8 then kvs.map (λa=>if a.1=k then(a.1,v)else a)else kvs++[(k,v)]
def PF{p:κ×V}{r:List (κ×V)}{k:κ}(e:p.1=k):QU (p::r) k=b3 p.2:=by simp[QU,Gr,e]
def R6{p:κ×V}{r:List (κ×V)}{k:κ}(e:¬p.1=k):QU (p::r) k=QU r k:=by simp[QU,Gr,e]
theorem LN(k:κ):∀kvs:List (κ×V),(kvs.any λa=>decide (a.1=k))=(QU kvs k).isSome
 |[]=>rfl
 |p::r=>by
  rw[Ji];by_cases e:p.1=k
  ·simp only[PF e,decide_eq_true e,Bool.true_or,Og]
  ·rw[R6 e,decide_eq_false e,Sw];exact LN k r
def RV(kvs:List (κ×V))(k:κ)(v:V):(WS kvs k v).length<=kvs.length+1:=by
 unfold WS;split
 ·rw[Ci];lia
 ·rw[By,Br,Gs];lia
def lP{kvs:List (κ×V)}{k:κ}(v:V)(h:QU kvs k=b4):WS kvs k v=kvs++[(k,v)]:=by unfold WS;rw[LN,h];exact if_neg (by decide)
def QS.isSome_eq{o:Option V}{u:Option Uc}(r:QS o u):o.isSome=u.isSome:=by
 cases o with
 |none=>cases u with
  |none=>rfl
  |some _=>exact(show False from r).elim
 |some _=>cases u with
  |none=>exact(show False from r).elim
  |some _=>rfl
def QS.getD{o:Option V}{u:Option Uc}{d:V}{d':Uc}(r:QS o u)(a:aG d d'):aG (o.getD d) (u.getD d'):=by
 cases o with
 |none=>cases u with
  |none=>exact a
  |some _=>exact(show False from r).elim
 |some _=>cases u with
  |none=>exact(show False from r).elim
  |some _=>exact r
def KV.val{kvs:List (κ×V)}{vs:List (κ×Uc)}(r:KV kvs vs)(k:κ):QS (QU kvs k) (Pj vs k):=by
 unfold KV at r;induction r with
 |nil=>exact True.intro
 | @cons p q ps a h t d=>
  obtain⟨h1,h2⟩:=h;by_cases e:p.1=k
  ·have c:q.1=k:=h1.symm.trans e
   have b:Pj (q::a) k=b3 q.2:=by simp[Pj,Gr,c]
   rw[PF e,b];exact h2
  ·have c : ¬ q.1 = k := λz => e (h1.trans z)
   have b:Pj (q::a) k=Pj a k:=by simp[Pj,Gr,c]
   rw[R6 e,b];exact d
def KV.any{kvs:List (κ×V)}{vs:List (κ×Uc)}(r:KV kvs vs)(k:κ):(kvs.any λa=>decide (a.1=k))=vs.any λa=>decide (a.1=k):=by
 unfold KV at r;induction r with
 |nil=>rfl
 |cons h t b=>rw[Ji,Ji,b,h.1]
def KV.repl{kvs:List (κ×V)}{vs:List (κ×Uc)}(r:KV kvs vs)(k:κ){y:V}{u:Uc}(b:aG y u):KV (kvs.map λa=>if a.1=k then(a.1,y)else a) (vs.map λa=>if a.1=k then(a.1,u)else a):=by
 unfold KV at r⊢;induction r with
 |nil=>exact .nil
 | @cons p q ps d h t c=>
  rw[Bg,Bg];refine .cons ?_ c;obtain⟨h1,h2⟩:=h;by_cases e:p.1=k
  ·rw[if_pos e,if_pos (h1.symm.trans e)];exact⟨h1,b⟩
  ·rw[if_neg e,if_neg (λz=>e (h1.trans z))];exact⟨h1,h2⟩
def KV.put{kvs:List (κ×V)}{vs:List (κ×Uc)}(r:KV kvs vs)(k:κ){y:V}{u:Uc}(a:aG y u):KV (WS kvs k y) (Tk vs k u):=by
 unfold WS Tk;rw[r.any k];by_cases e:(vs.any λb=>decide (b.1=k))=b8
 ·rw[if_pos e,if_pos e];exact r.repl k a
 ·rw[if_neg e,if_neg e];exact Tu r ⟨rfl,a⟩
def KV.length{kvs:List (κ×V)}{vs:List (κ×Uc)}(r:KV kvs vs):kvs.length=vs.length:=Oa r
end
def K2{P:Be}{w:Ul}{k:Z8}{u:Uc}(r:aG (kV k) u):(Z5 P w).is k u=b8:=by
 cases k with
 |inl i=>obtain⟨t,e⟩:=(show∃t,u=Rc i t from r);subst e;exact E2 P w i t
 |inr x=>obtain⟨t,e⟩:=(show∃t,u=Mi x t from r);subst e;exact E3 P w x t
theorem IQ{P:Be}{w:Ul}:∀{ks:List Z8}{a:List Uc},aK (ks.map kV) a->ItemsAre (Z5 P w) ks a
 |[],_,r=>by rw[Cw]at r;cases r;exact .nil
 |k::ks,_,r=>by
  rw[Bg]at r;cases r with
  |cons h t=>exact .cons (K2 h) (IQ t)
abbrev KT(H:Hp):List (List Z8×V)->List (List Z8×Ud×Uc)->Prop:=Paired λp q=>p.1=q.1/\H q.2.1=b3 (.tup (p.1.map kV))/\aG p.2 q.2.2
def KT.val{H:Hp}{kvs:List (List Z8×V)}{xs:List (List Z8×Ud×Uc)}(r:KT H kvs xs)(k:List Z8):QS (QU kvs k) ((atKey xs k).map (·.2)):=by
 induction r with
 |nil=>exact True.intro
 | @cons p q ps a h t d=>
  obtain⟨h1,_,h2⟩:=h;by_cases e:p.1=k
  ·have c:q.1=k:=h1.symm.trans e
   have b:atKey (q::a) k=b3 q.2:=by simp[atKey,Gr,c]
   rw[PF e,b];exact h2
  ·have c : ¬ q.1 = k := λz => e (h1.trans z)
   have b:atKey (q::a) k=atKey a k:=by simp[atKey,Gr,c]
   rw[R6 e,b];exact d
def KT.repl{H:Hp}{kvs:List (List Z8×V)}{xs:List (List Z8×Ud×Uc)}(r:KT H kvs xs)(k:List Z8){y:V}{u:Uc}(b:aG y u):KT H (kvs.map λa=>if a.1=k then(a.1,y)else a) (xs.map (putAt k u)):=by
 induction r with
 |nil=>exact .nil
 | @cons p q ps f h t c=>
  rw[Bg,Bg];refine .cons ?_ c;obtain⟨h1,h2,d⟩:=h;unfold putAt;by_cases e:p.1=k
  ·rw[if_pos e,if_pos (h1.symm.trans e)];exact⟨h1,h2,b⟩
  ·rw[if_neg e,if_neg (λz=>e (h1.trans z))];exact⟨h1,h2,d⟩
def KT.put{H:Hp}{kvs:List (List Z8×V)}{xs:List (List Z8×Ud×Uc)}(r:KT H kvs xs)(k:List Z8){b:Ud}{y:V}{u:Uc}(d:H b=b3 (.tup (k.map kV)))(a:aG y u):KT H (WS kvs k y) (storedH xs k b u):=by
 have e:(kvs.any λc=>decide (c.1=k))=(atKey xs k).isSome:=by rw[LN,(r.val k).isSome_eq,Option.isSome_map]
 unfold WS storedH;rw[e];by_cases q:(atKey xs k).isSome=b8
 ·rw[if_pos q,if_pos q];exact r.repl k a
 ·rw[if_neg q,if_neg q];exact Tu r ⟨rfl,d,a⟩
def KT.keeps{H H':Hp}{kvs:List (List Z8×V)}{xs:List (List Z8×Ud×Uc)}(r:KT H kvs xs)(a:∀b ys,H b=b3 (.tup ys)->H' b=b3 (.tup ys)):KT H' kvs xs:=
 Paired.mapP r λ_ _ z=>⟨z.1,a _ _ z.2.1,z.2.2⟩
section
variable{P:Be}{w:Ul}{H:Hp}{h:Um}{a:Ud}
def Wr{u:HO}(ok:QR P w H h)(e:Rd H a u):Y7 P w H h a u:=e.ok ok
def IF{kvs:List (Z8×V)}(ok:QR P w H h)(e:Rd H a (.dK kvs)):kvs.length<=sizeLine/\(a==Gj)=ba/\∃vs,KV kvs vs/\h.DictOf (Z5 P w) a vs:=
 show Y7 P w H h a (.dK kvs) from Wr ok e
def Xg{kvs:List (Z8×V)}(ok:QR P w H h)(e:H a=b3 (.dK kvs)):kvs.length<=sizeLine/\(a==Gj)=ba/\∃vs,KV kvs vs/\h.DictOf (Z5 P w) a vs:=IF ok (.inl e)
def K3{ks:List Z8}(ok:QR P w H h)(e:H a=b3 (.tup (ks.map kV))):(tupleKind (Z5 P w)).is h ks a:=by obtain⟨_,its,r,o,h1,h2,n,b⟩:=(show Y7 P w H h a (.tup (ks.map kV)) from ok a _ e);exact⟨o,its.toArray,n,h1,h2,b,by simpa using IQ r⟩
def IH{kvs:List (List Z8×V)}(ok:QR P w H h)(e:Rd H a (.dT kvs)):kvs.length<=sizeLine/\(a==Gj)=ba∧ ∃xs,KT H kvs xs/\h.DictOfH (tupleKind (Z5 P w)) a xs:=by
 obtain⟨z,y,xs,r,o,es,j,h1,h2,i,g,f⟩:=(show Y7 P w H h a (.dT kvs) from Wr ok e);refine⟨z,y,xs,r,o,es,j,h1,h2,i,g,λx b=>?_,f⟩;have all:∀{l:List (List Z8×V)}{m:List (List Z8×Ud×Uc)},KT H l m->∀x∈m,(tupleKind (Z5 P w)).is h x.1 x.2.1:=by
  intro l m q;induction q with
  |nil=>intro x b;exact nomatch b
  | @cons p q ps k c t d=>
   intro x b;rcases Ai.mp b with e|b
   ·subst e
    exact K3 ok (by rw[<-c.1];exact c.2.1)
   ·exact d x b
 exact all r x b
def kL{kvs:List (List Z8×V)}(ok:QR P w H h)(e:H a=b3 (.dT kvs)):kvs.length<=sizeLine/\(a==Gj)=ba∧ ∃xs,KT H kvs xs/\h.DictOfH (tupleKind (Z5 P w)) a xs:=IH ok (.inl e)
end
def M9(H:Hp)(a:Ud)(y:V)(r:Option V):Prop:=
 (∃kvs k,Rd H a (.dK kvs)/\y=kV k/\r=QU kvs k)∨∃kvs k b,Rd H a (.dT kvs)/\y=.ref b/\H b=b3 (.tup (k.map kV))/\r=QU kvs k
def DPut(H:Hp)(a:Ud)(y v:V)(H':Hp):Prop:=
 (∃kvs k,H a=b3 (.dK kvs)/\y=kV k/\kvs.length<sizeLine/\H'=upd H a (.dK (WS kvs k v)))∨
 ∃kvs k b,H a=b3 (.dT kvs)/\y=.ref b/\H b=b3 (.tup (k.map kV))/\kvs.length<sizeLine/\H'=upd H a (.dT (WS kvs k v))
def M9.k{H:Hp}{a:Ud}{kvs:List (Z8×V)}{k:Z8}(e:H a=b3 (.dK kvs)):M9 H a (kV k) (QU kvs k):=.inl ⟨kvs,k,.inl e,rfl,rfl⟩
def DPut.k{H:Hp}{a:Ud}{kvs:List (Z8×V)}{k:Z8}{v:V}(e:H a=b3 (.dK kvs))(hl:kvs.length<sizeLine):DPut H a (kV k) v (upd H a (.dK (WS kvs k v))):=.inl ⟨kvs,k,e,rfl,hl,rfl⟩
section
variable{X:Cx}{aa:List (Ud×Uq)}{σ:St}{H:Hp}{s:Ae}{a:Ud}{y v:V}{u r:Uc}{o:Option V}{A:Bx}{E:Uc->Ae->Prop}
def bM.big(I:bM X aa σ H s):Gj<s.heap.objs.size:=by have h:Ui<s.heap.objs.size:=(I.mod.glob.keeps I.bk).lt;exact Qd (by decide) h
def kY{Q:Uc->Ae->Prop}(n:A.units+1<cLine)(I:bM X aa σ H s)(g:M9 H a y (b3 v))(m:aG y u)(h:∀f s',bM X aa σ H s'->aG v f->Q f s'):Ue (Uf X.prog X.w) A (Lk (.ref a) u) Q E s:=by
 rcases g with⟨kvs,k,e,j,l⟩|⟨kvs,k,b,e,j,r,l⟩
 ·subst j
  obtain⟨z,hd,vs,d,dd⟩:=IF I.hok e;obtain⟨f,hw,c⟩:=QS.some_of (v:=v) (o:=Pj vs k) (by rw[l];exact d.val k);exact wpAny_getItem_of (K2 m) dd.mapOf hw (h f _ (I.tok _) c)
 ·subst j
  cases (show u=Bo b from m);obtain⟨z,hd,xs,d,dd⟩:=IH I.hok e;obtain⟨f,hw,c⟩:=QS.some_of (v:=v) (o:=(atKey xs k).map (·.2)) (by rw[l];exact d.val k);obtain⟨p,q,i⟩:=As.mp hw;refine wpAny_getItem_heap (Ia n) (K3 I.hok r) dd q ?_;rw[i];exact h f _ (I.tok _) c
def GL{h':Um}{t':Nat}{c:HO}(I:bM X aa σ H s)(d:Mut (H a))(hs:Fa a s.heap h')(f:∃q,h'.get? a=b3 q)(new:Y7 X.prog X.w (upd H a c) h' a c):bM X aa σ (upd H a c) {s with heap:=h',toks:=t'}:=
 I.write (x:=a) (e:=a) d (.inl rfl) (λb q g z=>(hs.2 b g).trans z) f new
def CL{P:Be}{w:Ul}{H':Hp}{h':Um}{kvs:List (Z8×V)}{vs:List (Z8×Uc)}(z:kvs.length<=sizeLine)(hd:(a==Gj)=ba)(b:KV kvs vs)(dd:h'.DictOf (Z5 P w) a vs):Y7 P w H' h' a (.dK kvs):=⟨z,hd,vs,b,dd⟩
def kE{H':Hp}{Q:Unit->Ae->Prop}(x:A.units+1<cLine)(I:bM X aa σ H s)(g:DPut H a y v H')(n:aG y u)(o:aG v r)(h:∀s',bM X aa σ H' s'->Q () s'):Ue (Uf X.prog X.w) A (setItem (.ref a) u r) Q E s:=by
 rcases g with⟨kvs,k,e,j,l,m⟩|⟨kvs,k,b,e,j,t,l,m⟩
 ·subst j m
  obtain⟨z,hd,vs,d,dd⟩:=Xg I.hok e;have hz:vs.length<=sizeLine:=by rw[<-d.length];exact z
  have hl:(WS kvs k v).length<=sizeLine:=by have:=RV kvs k v;lia
  refine wpAny_setItem_pairs (hsz:=hz) (K2 n) dd λh' f hs=>h _ ?_;have B:∃q,h'.get? a=b3 q:=let ⟨q,_,_,i,_⟩:=f;⟨q,i⟩
  exact GL I (by rw[e];exact True.intro) hs B (CL hl hd (d.put k o) f)
 ·subst j m
  cases (show u=Bo b from n);obtain⟨z,hd,xs,d,dd⟩:=kL I.hok e;have hz:xs.length<=sizeLine:=by rw[<-Oa d];exact z
  have hl:(WS kvs k v).length<=sizeLine:=by have:=RV kvs k v;lia
  refine wpAny_setItem_heap (hsz:=hz) (Ia x) (K3 I.hok t) dd λh' f hs=>h _ ?_;obtain⟨q,es,G,i,h2,F,D,_,C⟩:=f;refine GL I (by rw[e];exact True.intro) hs ⟨q,i⟩ ⟨hl,hd,_,(d.put k t o).keeps λc ys p=>?_,q,es,G,i,h2,F,D,C⟩;rw[bA (mD p e (λz=>nomatch z))];exact p
end
def EI{X:Cx}{aa:List (Ud×Uq)}{σ:St}{H:Hp}{s:Ae}{a:Ud}{y:V}{o:Option V}(I:bM X aa σ H s)(g:M9 H a y o):s.TypeIs (.ref a) "dict":=by
 rcases g with⟨kvs,k,e,_,_⟩|⟨kvs,k,b,e,_,_,_⟩
 ·obtain⟨_,_,vs,_,dd⟩:=IF I.hok e
  exact dd.typeIs
 ·obtain⟨_,_,xs,_,dd⟩:=IH I.hok e
  exact dd.typeIs
def gR(td ty tv:TE):TS:=λD σ H=>tv σ H λv H1=>td σ H1 λx H2=>ty σ H2 λy c=>∃a b,x=.ref a/\DPut c a y v b/\D.nx σ b
section
variable{X:Cx}{o i e value:Uj}{pos bu cz:Pos}{td ty tv:TE}
def jK(j:X.A.units+1<cLine)(k:PE X o td)(hi:PE X i ty)(f:PE X value tv)(hs:Ur value (b3 (.Subscript o i bu)) pos.line X.env=pure ba):PS X (.Assign [.Subscript o i bu] value pos) (gR td ty tv):=by intro aa s σ H D I h;refine wpAny_Assign_Subscript (YC (f aa s σ H _ I h) λr s1 ⟨v,H1,p,e,q1⟩=>YC (k aa s1 σ H1 _ p q1) λu b ⟨x,H2,n,d,q2⟩=>YC (hi aa b σ H2 _ n q2) λz w ⟨y,B,m,c,a,q,ex,g,q3⟩=>?_) hs;subst ex;obtain rfl:u=Bo a:=d;exact kE j m g c e λt l=>⟨σ,q,l,q3⟩
end
def EJ{P:Be}{w:Ul}{H:Hp}(h:Um)(a:Gj<h.objs.size):Y7 P w H (h.push {cls:=.type "dict",data:=.dict #[]}) h.objs.size (.dK []):=
 ⟨Dm _,beq_eq_false_iff_ne.mpr (Ck (Bf a)),[],.nil,Rn h⟩
def kN:TE:=λ_ H Q=>∀p,H p=b4->Q (.ref p) (upd H p (.dK []))
section
variable{X:Cx}{pos:Pos}
def FG:PE X (.Dict [] [] pos) kN:=λaa s σ H Q I h=>
 wpAny_Dict_empty ⟨.ref s.heap.objs.size,_,I.laid (a:=s.heap.objs.size) (o:=.dK []) (t':=s.toks) (λ_ _ q=>Ad _ q) (Am _) (EJ s.heap I.big),rfl,h _ (I.hok.fresh (Am _))⟩
end
def HJ:List (TE×TE)->St->Hp->(List (V×V)->Hp->Prop)->Prop
 |[],_,H,Q=>Q [] H
 |(tk,tv)::r,σ,H,Q=>tk σ H λx H1=>tv σ H1 λy H2=>HJ r σ H2 λps a=>Q ((x,y)::ps) a
abbrev VV:List (V×V)->List (Uc×Uc)->Prop:=Paired λp q=>aG p.1 q.1/\aG p.2 q.2
def PPs(X:Cx)(pos:Pos)(a:List (Option Uj))(c:List Uj)(b:List (TE×TE)):Prop:=
 ∀(aa:List (Ud×Uq)) (s:Ae) (σ:St) (H:Hp) (Q:List (V×V)->Hp->Prop),bM X aa σ H s->HJ b σ H Q->
  Ue (Uf X.prog X.w) X.A (evalPairs (pairTrees a c X.env pos)) (λvs s'=>∃ps H',bM X aa σ H' s'/\VV ps vs/\Q ps H') X.xe s
def kZ{X:Cx}{pos:Pos}:PPs X pos [] [] []:=λaa s σ H Q I h=>pairTrees_nil_walk ⟨[],H,I,.nil,h⟩
def nh{X:Cx}{pos:Pos}{k v:Uj}{ks:List (Option Uj)}{vs:List Uj}{tk tv:TE}{a:List (TE×TE)}(i:PE X k tk)(f:PE X v tv)(g:PPs X pos ks vs a):PPs X pos (b3 k::ks) (v::vs) ((tk,tv)::a):=λaa s σ H Q I h=>
 pairTrees_cons_walk (YC (i aa s σ H _ I h) λu s1 ⟨x,H1,m,e,q1⟩=>YC (f aa s1 σ H1 _ m q1) λp c ⟨y,H2,l,d,q2⟩=>
  YC (g aa c σ H2 _ l q2) λo q ⟨ps,n,j,b,q3⟩=>⟨(x,y)::ps,n,j,.cons ⟨e,d⟩ b,q3⟩)
def UR(kvs more:List (Z8×V)):List (Z8×V):=more.foldl (λacc a=>WS acc a.1 a.2) kvs
def KV.merge:∀{more:List (Z8×V)}{a:List (Z8×Uc)}{kvs:List (Z8×V)}{vs:List (Z8×Uc)},KV more a->KV kvs vs->KV (UR kvs more) (merged vs a):=by
 intro more a kvs vs r;unfold KV at r;induction r generalizing kvs vs with
 |nil=>intro q;exact q
 | @cons p q ps d h t c=>
  intro b;have e:KV (WS kvs p.1 p.2) (Tk vs q.1 q.2):=by
   have:=b.put p.1 h.2
   rw[<-h.1];exact this
  exact c e
theorem QN:∀(more kvs:List (Z8×V)),(UR kvs more).length<=kvs.length+more.length
 |[],kvs=>by show kvs.length<=kvs.length+0;lia
 |p::r,kvs=>by have h1:=QN r (WS kvs p.1 p.2);have h2:=RV kvs p.1 p.2;show(UR (WS kvs p.1 p.2) r).length<=_;rw[Br];lia
theorem KJ{P:Be}{w:Ul}:∀{kvs:List (Z8×V)}{e:List (Uc×Uc)},VV (kvs.map λf=>(kV f.1,f.2)) e->∃d,Carries (Z5 P w) e d/\KV kvs d
 |[],_,r=>by rw[Cw]at r;cases r;exact⟨[],True.intro,.nil⟩
 | p :: kvs,_,r => by
  rw[Bg]at r;cases r with
  | @cons a b as bs h t=>
   obtain⟨d,c,q⟩:=KJ (P:=P) (w:=w) t;obtain⟨i,g⟩:=b;exact⟨(p.1,g)::d,⟨K2 h.1,rfl,c⟩,.cons ⟨rfl,h.2⟩ q⟩
def jN(a:List (TE×TE)):TE:=λσ H Q=>∀p,H p=b4->HJ a σ (upd H p (.dK [])) λps H2=>H2 p=b3 (.dK [])/\∃kvs:List (Z8×V),ps=kvs.map (λb=>(kV b.1,b.2))/\kvs.length<=15/\Q (.ref p) (upd H2 p (.dK (UR [] kvs)))
def eZ{X:Cx}{pos:Pos}{b:List (Option Uj)}{j:List Uj}{d:List (TE×TE)}(h:PPs X pos b j d)(y:b.all (·.isSome)=b8)(hl:b.length=j.length)(v:b≠[])(i:b.length<=15):PE X (.Dict b j pos) (jN d):=by
 intro aa s σ H Q I q;have t:=I.hok.fresh (Am s.heap.objs.size);have A:=I.laid (a:=s.heap.objs.size) (o:=.dK []) (h':=s.heap.push {cls:=.type "dict",data:=.dict #[]}) (t':=s.toks) (λ_ _ q=>Ad _ q) (Am _) (EJ s.heap I.big);refine wpAny_Dict_walk (knd:=Z5 X.prog X.w) y hl v i (YC (h aa _ σ _ _ A (q _ t)) λB C ⟨ps,H2,k,g,e,kvs,x,D,q2⟩=>?_);subst x;obtain⟨m,c,n⟩:=KJ (P:=X.prog) (w:=X.w) g;obtain⟨z,hd,l,p,dd⟩:=Xg k.hok e;cases p;refine⟨m,c,dd,λh' f hs=>⟨.ref s.heap.objs.size,_,?_,rfl,q2⟩⟩;have hz:(UR [] kvs).length<=sizeLine:=by have h1:=QN kvs [];rw[Gs]at h1;rw[Cc];lia
 have u:∃q,h'.get? s.heap.objs.size=b3 q:=let ⟨q,_,_,r,_⟩:=f;⟨q,r⟩
 exact GL k (by rw[e];exact True.intro) hs u (CL hz hd (n.merge .nil) f)
structure M1(X:Cx)(o:Uj)(m:Ug)(aq:Pos)(e:Uj)(ai:Pos):Prop where
 base:Fs o m X.env (eval o X.env)=eval o X.env
 few:((Ei ai (Uh [e] X.env)).all (λx=> !x.1)&&(Km ai (Gp [] X.env)).all (λx=>x.1.isSome)
  && decide (([e]:List Uj).length+([]:List Io).length+(if([]:List Io).isEmpty then 0 else 1)<30))=b8
 line:(aq.endLine==ai.line)=b8
 trees:Ei ai (Uh [e] X.env)=[(ba,eval e X.env)]
structure M2(X:Cx)(o:Uj)(m:Ug)(aq:Pos)(e f:Uj)(ai:Pos):Prop where
 base:Fs o m X.env (eval o X.env)=eval o X.env
 few:((Ei ai (Uh [e,f] X.env)).all (λx=> !x.1)&&(Km ai (Gp [] X.env)).all (λx=>x.1.isSome)
  && decide (([e,f]:List Uj).length+([]:List Io).length+(if([]:List Io).isEmpty then 0 else 1)<30))=b8
 line:(aq.endLine==ai.line)=b8
 trees:Ei ai (Uh [e,f] X.env)=[(ba,eval e X.env),(ba,eval f X.env)]
def IsD(H:Hp)(a:Ud):Prop:=(∃kvs,Rd H a (.dK kvs))∨∃kvs,Rd H a (.dT kvs)
def Wx{X:Cx}{aa:List (Ud×Uq)}{σ:St}{H:Hp}{s:Ae}{a:Ud}(I:bM X aa σ H s)(d:IsD H a):s.TypeIs (.ref a) "dict" /\(∀b,Bo a=.ref b->∃c,s.heap.get? b=b3 c/\c.dict=b4)/\(a==Gj)=ba:=by
 rcases d with⟨kvs,e⟩|⟨kvs,e⟩
 ·obtain⟨_,hd,vs,_,dd⟩:=IF I.hok e
  refine⟨dd.typeIs,λb q=>?_,hd⟩;cases q;obtain⟨c,_,_,h1,h2,_⟩:=dd;exact⟨c,h1,h2.2.1⟩
 ·obtain⟨_,hd,xs,_,dd⟩:=IH I.hok e
  refine⟨dd.typeIs,λb q=>?_,hd⟩;cases q;obtain⟨c,_,_,h1,h2,_⟩:=dd;exact⟨c,h1,h2.2.1⟩
section
variable{X:Cx}{aa:List (Ud×Uq)}{σ:St}{H:Hp}{s:Ae}{a:Ud}{y d:V}{u r:Uc}{o:Option V}{A:Bx}{E:Uc->Ae->Prop}
def jE{Q:Uc->Ae->Prop}(j:A.units+1<cLine)(I:bM X aa σ H s)(g:M9 H a y o)(i:aG y u)(h:∀f s',bM X aa σ H s'->aG (o.getD .non) f->Q f s'):Ue (Uf X.prog X.w) A (call (.builtin "dict.get") [.ref a,u]) Q E s:=by
 rcases g with⟨kvs,k,e,d,l⟩|⟨kvs,k,b,e,d,m,l⟩
 ·subst d
  obtain⟨z,hd,vs,c,dd⟩:=IF I.hok e;refine Mn Dy dd.typeIs Fj (Ib _ _) (meets_dict_get (Z5 X.prog X.w) a (K2 i) hd) ⟨_,dd.mapOf,h _ _ (I.tok _) ?_⟩;rw[l];exact(c.val k).getD rfl
 ·subst d
  cases (show u=Bo b from i);obtain⟨z,hd,xs,c,dd⟩:=IH I.hok e;refine Mn Dy dd.typeIs Fj (Ib _ _) (meetsH_dict_get (tupleKind (Z5 X.prog X.w)) a b hd) ⟨Ia j,k,xs,K3 I.hok m,dd,h _ _ (I.tok _) ?_⟩;rw[l];exact(c.val k).getD rfl
def kx{Q:Uc->Ae->Prop}(n:A.units+1<cLine)(I:bM X aa σ H s)(g:M9 H a y o)(j:aG y u)(m:aG d r)(h:∀i s',bM X aa σ H s'->aG (o.getD d) i->Q i s'):Ue (Uf X.prog X.w) A (call (.builtin "dict.get") [.ref a,u,r]) Q E s:=by
 rcases g with⟨kvs,k,e,f,l⟩|⟨kvs,k,b,e,f,p,l⟩
 ·subst f
  obtain⟨z,hd,vs,c,dd⟩:=IF I.hok e;refine Mn Dy dd.typeIs Fj (Ll _ _ _) (meets_dict_get_default (Z5 X.prog X.w) a (K2 j) hd r) ⟨_,dd.mapOf,h _ _ (I.tok _) ?_⟩;rw[l];exact(c.val k).getD m
 ·subst f
  cases (show u=Bo b from j);obtain⟨z,hd,xs,c,dd⟩:=IH I.hok e;refine Mn Dy dd.typeIs Fj (Ll _ _ _) (meetsH_dict_get_default (tupleKind (Z5 X.prog X.w)) a b hd r) ⟨Ia n,k,xs,K3 I.hok p,dd,h _ _ (I.tok _) ?_⟩;rw[l];exact(c.val k).getD m
end
def Zn(td ty tx:TE):TE:=λσ H Q=>td σ H λx H1=>∃a,x=.ref a/\IsD H1 a/\ty σ H1 λy H2=>tx σ H2 λz b=>∃o,M9 b a y o/\Q (o.getD z) b
section
variable{X:Cx}{o e f:Uj}{aq ai:Pos}{td ty tx:TE}
def Zv(p:X.A.units+1<cLine)(q:PE X o td)(t:PE X e ty)(r:PE X f tx)(m:M2 X o "get" aq e f ai):PE X (.Call (.Attribute o "get" aq) [e,f] [] ai) (Zn td ty tx):=by
 intro aa s σ H Q I h;refine Pk m.base m.few m.line Lm Dy Mo (YC (q aa s σ H _ I h) λu s1 ⟨x,H1,c,n,a,ex,d,q1⟩=>?_);subst ex;obtain rfl:u=Bo a:=n;obtain⟨j,i,_⟩:=Wx c d;refine⟨j,i,?_⟩;rw[m.trees];refine Fi rfl (Ef (Es (YC (t aa s1 σ H1 _ c q1) λJ k ⟨y,H2,B,l,q2⟩=>
  Es (YC (r aa k σ H2 _ B q2) λK F ⟨z,C,w,rz,G,g,q3⟩=>Ha ?_))))
 exact kx p w g l rz λD E v b=>⟨_,C,v,b,q3⟩
end
end L2
namespace Att
open PySem PySem.W PySem.Calls PyProof.Rows
def ML{P:Pz}{h:Um}:∀(ns:List Int) (vs:List Uc),WellAll P h vs (ns.map WData.int)->Rm vs ns:=by
 intro ns;induction ns with
 |nil=>
  intro vs w;rw[Cw]at w;cases w;exact .nil
 |cons n ns c=>
  intro vs w;rw[Bg]at w;cases w with
  |cons a b=>
   cases a;exact .cons _ _ (c _ b)
def dL{l:OpenLaw}{n:Nat}(p:l.most=b3 n){P:Pz}{h:Um}{args:List WData}{b:List Uc}(c:l.row.toRowW.claim.pre args=b8)(g:WellAll P h b args):∃a vs ns,b=[Bo a]/\args=[WData.list (ns.map WData.int)]/\h.get? a=b3 {cls:=.type "list",data:=.seq vs.toArray}/\Rm vs ns/\ns.length<=n:=by
 have i:WShape.hasAll [] args [.list .int]=b8:=(pre_splitW c).1;have hc:l.pre.holds [] {args:=args}=b8:=(pre_splitW c).2;obtain⟨d,r,rfl,h1,h2⟩:=hasAllW_cons i;obtain rfl:=hasAllW_nil h2;obtain⟨xs,rfl,s⟩:=hasW_list h1;obtain⟨ns,rfl⟩:=items_int s;have u:ns.length<=n:=by
  unfold OpenLaw.pre at hc;have f:(WTm.not (.lt (.lit (.int (n:Int))) (.len (.arg 0)))).holds [] {args:=[.list (ns.map .int)]}=b8:=by have f:=(holds_andW hc).1;rw[p]at f;exact f
  have e:=condW_of f (w_not (w_lt w_lit (w_len_list (w_arg rfl))));rw[Ci]at e;refine Nat.le_of_not_lt λq=>?_;have m:(n:Int)<((ns.length:Nat):Int):=by lia
  first
   |(rw[decide_eq_true m]at e;exact absurd e (by decide))
   |(simp at e;lia)
 cases g with
 |cons k j=>
  cases j;cases k with
  |list o t=>exact⟨_,_,ns,rfl,rfl,o,ML ns _ t,u⟩
def fJ(l:OpenLaw)(args:List WData):l.row.toRowW.claim.post args (.bool b8) args=b8:=
 postW_of (r:=l.row.toRowW) (X:=(b8==b8))
  (show Ua [] (.bool b8) .bool=b8 by first|rfl|decide|simp[Ua,WShape.arms,WShape.armsAll])
  (show(WTm.eq .res (.lit (.bool b8))).value [] {args:=args,res:=b3 (.bool b8),after:=args}=b3 (.bool (b8==b8)) from w_eq_bool (w_res rfl) w_lit) rfl
def EB{l:OpenLaw}{n:Nat}{q:Be}{loose:List Ug}{XP:(Ug->Option Uc)->Um->Prop}{YP:Ul->Um->Prop}{d:DefRec}(z:l.most=b3 n)(m:d.params.defaults=[])(call:∀(w:Ul) (s₀ b:Ae) (mg i:Ug->Option Uc) (fa:Ud) (o:Uq) (h cd doc:Uc) (a:Ud) (vs:List Uc) (ns:List Int),Ground q loose [] XP w s₀ mg i b.heap->YP w b.heap->b.heap.get? fa=b3 o->o.data=.func (docDef d.name d.params d.body d.scope h cd doc)->b.heap.CodeRec cd d.name->mg d.name=b3 (.ref fa)->b.heap.get? a=b3 {cls:=.type "list",data:=.seq vs.toArray}->Rm vs ns->ns.length<=n->b.gens= #[]->Fl (Uf l.prog w) Nq (.call (.ref fa) ⟨[.ref a],[]⟩) (λr s'=>r=.ok (.ret (.bool b8))/\OldK b.heap s'.heap/\s'.os=b.os/\Lh s'.gens) b):WalkO q loose XP YP l.row.toRowW d [] (λf vs=>Sk f vs):=by intro w s₀ b mg i G Y fa o h cd doc F kV y hd p u k C args s as e t v j B;obtain rfl:F=.none:=Dflts.none u m;obtain rfl:kV=.none:=Dflts.noKw u;obtain⟨a,vs,ns,rfl,rfl,g,c,H⟩:=dL z e j;refine enter_call (Hl (call w s₀ b mg i fa o h cd doc a vs ns G Y y (fd_plain hd) p k g c H C) λr s' x=>?_);obtain⟨rfl,h2,E,D⟩:=x;exact⟨.inl ⟨.bool b8,.bool b8,[],rfl,λ_=>rfl,.bool b8,fJ l _,λ_=>⟨Ky,λ_ A=>(nomatch A)⟩⟩,h2,E,D⟩
end Att
namespace L2
open PySem PySem.Spec PyProof.Rows
theorem JS:∀{vs:List Uc}{ns:List Int},Rm vs ns->aK (ns.map V.int) vs
 |_,_,.nil=>.nil
 |_,_,.cons n t h=>.cons ⟨t,rfl⟩ (JS h)
def Only(H:Hp):Prop:=∀b,H b=b4∨∃o xs,H b=b3 (.frz o (.lst xs))
def iF{P:Be}{w:Ul}{K:Aj}{mg B:Ug->Option Uc}{CX:CXT}{k:Nat}{fa a:Ud}{fd:Cr}{x:Ug}{sp:Sp}{c:Ae}{vs:List Uc}{ns:List Int}(R:K.In c.heap)(j:c.heap.Ns Ui mg)(f:c.heap.Ns builtinsNs B)(E:∀x:Ug,x≠ "__name__" ->B x=Bp x)(X:c.heap.NoLimit)(hg:c.gens= #[])(y:c.heap.get? a=b3 {cls:=.type "list",data:=.seq vs.toArray})(hi:Rm vs ns)(hl:ns.length<=sizeLine)(hr:X1 k Nq)(F:∀base:Um,K.In base->base.Ns Ui mg->U4 P w K mg base CX k fa fd [x] sp)(ip:∀(s:Ae) (u:Uc),Ph s fd ⟨[u],[]⟩ [(x,u)])(C:∀H:Hp,Only H->WW K H a (ns.map V.int)->sp [.ref a] H (λv _=>v=.bl b8) λ_ _ _=>False)(G:∀H e s',CX [] H c (λ_ _ _=>False) e s'->False):Fl (Uf P w) Nq (.call (.ref fa) ⟨[.ref a],[]⟩) (λr s'=>r=.ok (.ret (.bool b8))/\OldK c.heap s'.heap/\s'.os=c.os/\Lh s'.gens) c:=by
 have J:=JS hi;have Z:=hi.length;have L: ∀H:Hp,Only H->WW K H a (ns.map V.int)->QR P w H c.heap->(∀b,H b≠b4->b=a)->(H a≠b4->K.lookup a=b4)->
   Fl (Uf P w) Nq (.call (.ref fa) ⟨[.ref a],[]⟩) (λr s'=>r=.ok (.ret (.bool b8))/\OldK c.heap s'.heap/\s'.os=c.os/\Lh s'.gens) c:=by
  intro H M hS i N hK;have Q:∀{b:Ud}{o:Uq},c.heap.get? b=b3 o->H b=b4->(GV c.heap H).get? b=b3 o:=λe n=>lx e n;have A:∀{b:Ud}{o:Uq}{es:Array Mh}{p:Nat},c.heap.get? b=b3 o->o.data=.dict es p->H b=b4:=λ{b o es p} e d=>by
   cases q:H b with
   |none=>rfl
   |some u=>
    have I:b=a:=N b (by rw[q];simp);subst I;rw[y]at e;cases e;have d':Data.seq vs.toArray _=Data.dict es p:=d;cases d'
  have g:∀{b:Ud}{m:Ug->Option Uc},c.heap.Ns b m->(GV c.heap H).Ns b m:=λ{b m} ⟨o,es,p,e,d,r⟩=>⟨o,es,p,Q e (A e d),d,r⟩;have l:K.In (GV c.heap H):=λb o e=>Q (R b o e) (by
   cases q:H b with
   |none=>rfl
   |some u=>
    have I:b=a:=N b (by rw[q];simp);subst I;rw[hK (by rw[q];simp)]at e;cases e)
  have hM:Mod K mg (GV c.heap H):=⟨l,g j,⟨B,g f,E⟩,let ⟨W,h1,h2⟩:=X;⟨W,g h1,h2⟩⟩;have e0:Env0 P w K mg (GV c.heap H) Nq [] c H:=⟨rfl,hM,λb o e=>jJ e,Nat.le_of_eq (Zz _ _),trivial,λb f=>absurd (show b∈([]:List Ud) from f) (by simp),i,.of_eq hg⟩;refine Hl ((F _ l (g j)).run Nq [] c H ⟨[.ref a],[]⟩ [.ref a] [.ref a] _ _ hr e0 (ip c (.ref a)) (.cons rfl .nil) (C H M hS)) λr s' h=>?_;cases r with
  |error e=>exact(G H e s' h).elim
  |ok fl=>
   cases fl with
   |next=>exact Gw h
   |brk=>exact Gw h
   |cont=>exact Gw h
   |ret u=>
    obtain⟨v,H',os,t,un,Y,r',q⟩:=h;have T:v=.bl b8:=q;subst T;obtain rfl:u=Gi b8:=r';refine⟨rfl,OldK.of_keep λb o e=>?_,os,t⟩;cases q:H b with
    |none=>exact un.keep b o e q (by intro z;exact absurd (show b∈([]:List Ud) from z) (by simp)) (by simp)
    |some u=>
     rcases M b with z|⟨U,xs,z⟩
     ·rw[q]at z;cases z
     ·have S:=un.frzs b U _ z
      obtain⟨O,_⟩:=i b _ z;obtain⟨e2,_⟩:=Y b _ S;rw[e]at O;cases O;exact e2
 cases D:K.lookup a with
 |some o=>
  have e:=R a o D;rw[y]at e;cases e;refine L (λ_=>b4) (λ_=>.inl rfl) (.inr ⟨_,vs.toArray,_,D,rfl,rfl,rfl,by rw[Ao,Z];exact hl,by simpa using J⟩) (λb u z=>by have z':(b4:Option HO)=b3 u:=z;cases z') (λb z=>absurd rfl z) λz=>absurd rfl z
 |none=>
  refine L (λb=>if b=a then b3 (.frz {cls:=.type "list",data:=.seq vs.toArray} (.lst (ns.map V.int)))else b4) (λb=>?_) (.inl (.inr ⟨{cls:=.type "list",data:=.seq vs.toArray},if_pos rfl⟩)) (λb u z=>?_) (λb z=>?_) λ_=>D
  ·by_cases f:b=a
   ·exact .inr ⟨_,_,if_pos f⟩
   ·exact .inl (if_neg f)
  ·by_cases f:b=a
   ·have z':=(if_pos f).symm.trans z
    cases z';subst f;exact⟨y,by rw[Ci];exact hl,vs,_,J,y⟩
   ·have z':=(if_neg f).symm.trans z
    cases z'
  ·by_cases f:b=a
   ·exact f
   ·exact absurd (if_neg f) z
def iP{l:Tl}{n k:Nat}{q:Be}{loose:List Ug}{XP:(Ug->Option Uc)->Um->Prop}{YP:Ul->Um->Prop}{d:DefRec}{K:Pz->Aj}{CX:Ul->CXT}{sp:Ul->Sp}{x:Ug}(C:l.most=b3 n)(p:n<=sizeLine)(t:d.params.defaults=[])(B:X1 k Nq)(J:∀(w:Ul) (h:Um),YP w h->(K w.params).In h)(F:∀(w:Ul) (mg:Ug->Option Uc) (fa:Ud) (h:Um),(K w.params).In h->h.Ns Ui mg->mg d.name=b3 (.ref fa)->∃fd:Cr,(∀(s:Ae) (u:Uc),Ph s fd ⟨[u],[]⟩ [(x,u)])∧ ∀base:Um,(K w.params).In base->base.Ns Ui mg->U4 l.prog w (K w.params) mg base (CX w) k fa fd [x] (sp w))(m:∀(w:Ul) (H:Hp) (a:Ud) (ns:List Int),ns.length<=n->Only H->WW (K w.params) H a (ns.map V.int)->sp w [.ref a] H (λv _=>v=.bl b8) λ_ _ _=>False)(y:∀(w:Ul) (H:Hp) (s:Ae) (e:Uc) (s':Ae),CX w [] H s (λ_ _ _=>False) e s'->False):W.WalkO q loose XP YP l.row.toRowW d [] (λf vs=>Sk f vs):=by refine Att.EB C t λw s₀ i mg P fa o O cd doc a vs ns G Y Q hd E r j c z D=>?_;have A:=J w _ Y;obtain⟨fd,I,N⟩:=F w mg fa _ A G.T.g r;exact iF A G.T.g G.T.b G.T.builtins G.T.nolimit D j c (Dj z p) B N I (λH M L=>m w H a ns z M L) λH e s'=>y w H i e s'
def zBS{l:Tl}{n k:Nat}{q:Be}{loose:List Ug}{XP:(Ug->Option Uc)->Um->Prop}{YP:Ul->Um->Prop}{d:DefRec}{K:Pz->Aj}{CX:CXT}{sp:Aj->Sp}{x:Ug}(m:l.most=b3 n)(c:n<=sizeLine)(g:d.params.defaults=[])(j:X1 k Nq)(o:∀(w:Ul) (h:Um),YP w h->(K w.params).In h)(F:∀(w:Ul) (mg:Ug->Option Uc) (fa:Ud) (h:Um),(K w.params).In h->h.Ns Ui mg->mg d.name=b3 (.ref fa)->∃fd:Cr,(∀(s:Ae) (u:Uc),Ph s fd ⟨[u],[]⟩ [(x,u)])∧ ∀base:Um,(K w.params).In base->base.Ns Ui mg->U4 l.prog w (K w.params) mg base CX k fa fd [x] (sp (K w.params)))(b:∀(K:Aj) (H:Hp) (a:Ud) (ns:List Int),ns.length<=n->Only H->WW K H a (ns.map V.int)->sp K [.ref a] H (λv _=>v=.bl b8) λ_ _ _=>False)(i:∀(H:Hp) (s:Ae) (e:Uc) (s':Ae),CX [] H s (λ_ _ _=>False) e s'->False):W.WalkO q loose XP YP l.row.toRowW d [] (λf vs=>Sk f vs):=
 iP (K:=K) (CX:=λ_=>CX) (sp:=λw=>sp (K w.params)) m c g j o F (λw H a ns h1 h2 p=>b (K w.params) H a ns h1 h2 p) λ_ H s e s'=>i H s e s'
def YT(s:Up):Arguments:=match s with
 |.FunctionDef _ a _ _ _ _ _ _ _ _=>a
 |_=>{posonlyargs:=[],args:=[],vararg:=b4,kwonlyargs:=[],kw_defaults:=[],kwarg:=b4,defaults:=[]}
def aC(s:Up):List Up:=match s with
 |.FunctionDef _ _ b _ _ _ _ _ _ _=>b
 |_=>[]
def bX(s:Up):Ut:=match s with
 |.FunctionDef _ _ _ _ _ _ sc _ _ _=>sc
 |_=>{kind:=.function,names:=[],isGenerator:=ba,isCoroutine:=ba}
abbrev CX0:CXT:=λ_ _ _ _ _ _=>False
abbrev E0:XK:=λ_ _ _=>False
def jW{X:Cx}:CA CX0 X E0:=λ_ _ _ _ _ _ _ h=>h.elim
structure LX(K:Aj)(x qual:Ug)(st:Up)(f:Ud)(fd:Cr):Prop where
 ex:∃(oc:Uc) (od:Option Ud) (kV doc pm:Uc) (an:Option Ud) (cdv ct:Uc) (osl:Array (Option Uc)),
  fd=Je x qual (YT st) (aC st) (bX st) .none kV doc pm an cdv ct/\K.lookup f=b3 ⟨oc,od,.func fd,osl⟩/\Lj K cdv qual=b8
 kp:Hx K (.ref f)=b8
section
variable{P:Be}{w:Ul}{K:Aj}{mg:Ug->Option Uc}{base:Um}
def LX.ok{x qual:Ug}{st:Up}{f:Ud}{fd:Cr}{N ps:List Ug}{k:Nat}{sp:Sp}(F:LX K x qual st f fd)(S:ZI N ps (bX st))(len:∀vs H Q E,sp vs H Q E->vs.length=ps.length)(i:∀(a:Uc) (A:Bx) (outer:List Env) (s:Ae) (H:Hp) (vs:List V) (Q:VK) (E:XK),X1 k (A.deeper (envOfC qual (bX st) s.heap.objs.size f a))->sp vs H Q E->∃t,V6 (RK CX0 P w K mg base N qual (bX st) f a A outer s H E).nox (aC st) t/\t {nx:=λ_ H'=>Q .non H',rt:=Q} (start N vs) H):U4 P w K mg base CX0 (k+1) f fd ps sp:=by obtain⟨l,od,kV,doc,j,m,a,ct,d,rfl,e,c⟩:=F.ex;refine Vq e c S len λA outer s H vs Q E g b=>?_;obtain⟨t,h,q⟩:=i a A outer s H vs Q E g b;exact⟨t,h.nox,q⟩
def LX.binds{x qual:Ug}{st:Up}{f:Ud}{fd:Cr}{ps:List Ug}(F:LX K x qual st f fd)(h:∀(kV doc c:Uc) (d:Option Ud) (a ct:Uc) (b:List Uc),b.length=ps.length->bindArgs (Je x qual (YT st) (aC st) (bX st) .none kV doc c d a ct) ⟨b,[]⟩=pure (ps.zip b)):RE K fd ps []:=by obtain⟨i,od,kV,doc,c,d,a,ct,e,rfl,j,g⟩:=F.ex;exact .all (h kV doc c d a ct)
def GS{x qual:Ug}{st:Up}{f:Ud}{g:Uc}{od e:Option Ud}{b:Array (Option Uc)}{kV doc d a ct:Uc}(l:K.lookup f=b3 ⟨g,od,.func (Je x qual (YT st) (aC st) (bX st) .none kV doc d e a ct),b⟩)(c:Lj K a qual=b8)(k:Hx K (.ref f)=b8):LX K x qual st f (Je x qual (YT st) (aC st) (bX st) .none kV doc d e a ct):=⟨⟨g,od,kV,doc,d,e,a,ct,b,rfl,l,c⟩,k⟩
end
def Vm{A:Bx}{k:Nat}(a:X1 k A):A.units+1<cLine:=Oh (Nat.add_le_add_left (by decide:1<=64) _) a.units
section
variable{X:Cx}
def pv(i:Nat){x:Ug}{pos:Pos}(c:X.N[i]?=b3 x:=by rfl)(b:Vis X.env.scope x:=by first|exact Ey rfl|exact Du (Ey rfl)|exact Du (Du rfl))(hd:(x==("__debug__":Ug))=ba:=by decide)(a:(x==("__classdict__":Ug))=ba:=by decide):PE X (.Name x pos) (NZ i):=C9 c b hd a
end
def NN{A B:Prop}(h:B):if ba=b8 then A else B:=by rw[if_neg Dq];exact h
def NO{A B:Prop}(h:A):if b8=b8 then A else B:=by rw[if_pos rfl];exact h
def Z6(H H':Hp):Prop:=∀b o,H b=b3 o->H' b=b3 o
def Z6.refl(H:Hp):Z6 H H:=λ_ _ h=>h
def Z6.trans{H H1 H2:Hp}(a:Z6 H H1)(b:Z6 H1 H2):Z6 H H2:=λc o h=>b c o (a c o h)
def Z6.seq{K:Aj}{H H':Hp}{a:Ud}{xs:List V}(e:Z6 H H')(h:WW K H a xs):WW K H' a xs:=by
 rcases h with(h|⟨o,h⟩)|h
 ·exact .inl (.inl (e _ _ h))
 ·exact .inl (.inr ⟨o,e _ _ h⟩)
 ·exact .inr h
theorem GJ{env:Env}{f:Ug×Uu->List (Ug×Ud)->Ux (ForInStep (List (Ug×Ud)))}(g:∀n k r,f (n,k) r=if(k==Bt)=b8 then(cellOf env n>>=λc=>pure (Df ((n,c)::r)))else pure (Df r)):∀(names:List (Ug×Uu)) (cs:List (Ug×Ud)),(∀y∈names,y.2=.free->∃c,env.cells.lookup y.1=b3 c)->∃cl,forIn names cs f=(pure cl:Ux (List (Ug×Ud)))/\(∀x c,cl.lookup x=b3 c->cs.lookup x=b3 c∨env.cells.lookup x=b3 c)∧(∀x c,cs.lookup x=b3 c->∃d,cl.lookup x=b3 d)/\∀x,(x,Bt)∈names->∃c,cl.lookup x=b3 c
 |[],cs,_=>⟨cs,rfl,λ_ _ e=>.inl e,λ_ c e=>⟨c,e⟩,λ_ h=>nomatch h⟩
 | (n,k) :: r,cs,h => by
  have o:∀y∈r,y.2=.free->∃c,env.cells.lookup y.1=b3 c:=λy p=>h y (Aq _ p);by_cases i:k=.free
  ·subst i
   obtain⟨c,hc⟩:=h (n,.free) Bb rfl;have hc:env.cells.lookup n=b3 c:=hc;obtain⟨cl,m,l,b,j⟩:=GJ g r ((n,c)::cs) o;refine⟨cl,?_,λx d e=>?_,λx d e=>?_,λx a=>?_⟩
   ·rw [Jt,g,if_pos (show (Bt == Bt) = b8 by decide)]
    have t:cellOf env n=pure c:=by unfold cellOf;rw[hc]
    rw[t,pure_bind,pure_bind];exact m
   ·rcases l x d e with q|q
    ·by_cases a:x=n
     ·subst a
      rw[Dz]at q;cases q;exact .inr hc
     ·rw[Cn,beq_eq_false_iff_ne.mpr a]at q
      exact .inl q
    ·exact .inr q
   ·by_cases a:x=n
    ·subst a
     exact b x c (Dz ..)
    ·refine b x d ?_
     rw[Cn,beq_eq_false_iff_ne.mpr a];exact e
   ·rcases Ai.mp a with q|q
    ·cases q
     exact b n c (Dz ..)
    ·exact j x q
  ·obtain⟨cl,m,l,b,j⟩:=GJ g r cs o
   refine⟨cl,?_,l,b,λx a=>?_⟩
   ·have s : ¬ (k == Bt) = b8 := by simpa using i
    rw[Jt,g,if_neg s,pure_bind];exact m
   ·rcases Ai.mp a with q|q
    ·cases q
     exact absurd rfl i
    ·exact j x q
def GK{env:Env}{scope:Ut}(h:∀y∈scope.names,y.2=.free->∃c,env.cells.lookup y.1=b3 c):∃cl,closureFor scope env=pure cl/\(∀x c,cl.lookup x=b3 c->env.cells.lookup x=b3 c)/\∀x,(x,Bt)∈scope.names->∃c,cl.lookup x=b3 c:=by
 simp only[closureFor];obtain⟨cl,a,d,_,b⟩:=GJ (env:=env) (f:=λx r=>match x with
  |(name,kind)=>if(kind==Bt)=b8 then(cellOf env name>>=λc=>pure (Df ((name,c)::r)))else pure (Df r)) (λ_ _ _=>rfl) scope.names [] h
 refine⟨cl,?_,λx c e=>?_,b⟩
 ·first
   |exact a
   |(refine Eq.trans (congrArg (λm=>m>>=pure) a) ?_;exact pure_bind _ _)
 ·rcases d x c e with q|q
  ·cases q
  ·exact q
def ZN(ix:List Nat)(σ:St):St:=ix.map λi=>(σ[i]?).join
def PTs(Y:Cx)(a:List Uj)(b:TT):Prop:=
 ∀(aa:List (Ud×Uq)) (s:Ae) (σ:St) (H:Hp) (Q:Bool->Hp->Prop),bM Y aa σ H s->b σ H Q->
  Ue (Uf Y.prog Y.w) Y.A (forIn a b8 λc r=>if r=b8 then do let ok<-isTrue c Y.env (eval c Y.env);pure (Df ok)else pure (Df r)) (TP Y aa σ Q) Y.xe s
def tYes:TT:=λ_ H Q=>Q b8 H
def mw{Y:Cx}:PTs Y [] tYes:=λ_ _ _ H _ I h=>wpAny_tests_nil ⟨H,I,h⟩
def nU{Y:Cx}{c:Uj}{a:TT}(h:PT Y c a):PTs Y [c] a:=λaa s σ H Q I hw=>wpAny_tests_one (h aa s σ H Q I hw)
structure Blk(Y:Cx)(tg:Uj)(ifs:List Uj)(elt:Uj)(g:TG)(tt:TT)(te:TE):Prop where
 tg:PG Y tg g
 ts:PTs Y ifs tt
 el:PE Y elt te
def nV{prog:Be}{w:Ul}{A:Bx}{s:Ae}{l t iter:Uj}{j:List Uj}{scope:Ut}{pos:Pos}{it acc:Uc}{env:Env}{R:Oe->Ae->Prop}(I:Nat->Ae->Prop)(turn:∀n s,I n s->Ue (Uf prog w) A (pyNext it) (λr b=>match r with
   |none=>R (.ok .next) b
   | some v => Ue (Uf prog w) A (Ff t it v) (λ_ s₀ => Ue (Uf prog w) A (Fk t env v) (λ_ f =>
     Ue (Uf prog w) A (forIn j b8 λc r=>if r=b8 then do let ok<-isTrue c env (eval c env);pure (Df ok)else pure (Df r)) (λok a=>if ok=b8 then Ue (Uf prog w) A (eval l env) (λx e=>
      Ue (Uf prog w) A (call (.builtin "list.append") [acc,x]) (λ_ d=>∃m,m<n/\I m d) (λ_ _=>False) e) (λ_ _=>False) a
      else∃m,m<n/\I m a) (λ_ _=>False) f)
     (λ_ _=>False) s₀) (λ_ _=>False) b) (λ_ _=>False) s)
  (n:Nat) (h:I n s):Fl (Uf prog w) A (.compLoop (.ListComp l [⟨t,iter,j,0⟩] scope pos) 0 it acc env) R s:=by
 refine Qe rfl I (λn s y=>?_) n h;show Ue _ A ((Qz (.ListComp l [⟨t,iter,j,0⟩] scope pos) 0 it acc env).onRaise (λx=>do Mp x env;Mq x)) _ _ s;refine Ro ?_;rw[compTurn_list];refine Aa (Dn (Aa (At (turn n s y) (λr b i=>?_) λ_ _ h'=>h'.elim)));cases r with
 |none=>exact Ah i
 |some v=>
  refine Aa (At i (λ_ s₀ k=>?_) λ_ _ h'=>h'.elim);refine Aa (At k (λ_ f q=>?_) λ_ _ h'=>h'.elim);refine Aa (At q (λu a g=>?_) λ_ _ h'=>h'.elim);cases u with
  |false=>exact Ah ⟨rfl,g⟩
  |true=>exact Aa (Aa (At g (λx e p=>Aa (At p (λ_ d o=>Ah (Ah ⟨rfl,o⟩)) λ_ _ h'=>h'.elim)) λ_ _ h'=>h'.elim))
section
variable{X:Cx}{aa:List (Ud×Uq)}{σ:St}{H H':Hp}{s s1 s':Ae}{h'':Um}
def bM.offNew{a:St}{H1:Hp}(d:bM X aa σ H1 s1)(h:bM X aa a H' s')(g:H' s1.heap.objs.size=b4)(sb:∀b o,b≠s1.heap.objs.size->s'.heap.get? b=b3 o->h''.get? b=b3 o):bM X aa a H' {s' with heap:=h''}:=
 h.turned (t':=s'.toks) (it:=s1.heap.objs.size) sb g (Go d.lt) (.inr d.sz)
  (λx c e z => by
   obtain⟨v,q⟩:=d.cell x c e;have:=q.lt
   rw[z]at this;exact Bu _ this)
  λp f z=>by
   have:=Al (d.pin p f).1
   rw[z]at this;exact Bu _ this
end
def Wd(D:Ud)(ix:List Nat)(nl:Nat)(J:It)(g:TG)(h:TT)(te:TE)(σ:St)(H0:Hp)(Q:Hp->Prop):Prop:=
 ∃W:Nat->Nat->List V->Hp->Prop,(∃m,W 0 m [] (upd H0 D (.lst [])))/\∀i m acc H1,W i m acc H1->
  (J.stop i H1/\Q H1)∨
  (J.go i H1/\ ∃N:List V->Hp->Prop,(∀d H',N d H'-> ∃c,c<m/\W (i+1) c d H')∧
   ∀x H2,J.yld i H1 x H2->g x (ZN ix σ++Ax nl b4) H2 λa j=>a.take ix.length=ZN ix σ∧
    h a j λb f=>if b=b8 then te a f λv e=>e D=b3 (.lst acc)/\acc.length<sizeLine/\N (acc++[v]) (upd e D (.lst (acc++[v])))else N acc f)
theorem T0{env:Env}{x:Ug}:∀{l:List (Ug×Uu)},l.lookup x=b3 .free->(l.map λ(n,k)=>if(k==Bt&&env.scope.kind== .function&&env.kindOf n==b3 .cell)then(n,Ca)else(n,k)).lookup x=b3 .cell∨(l.map λ(n,k)=>if(k==Bt&&env.scope.kind== .function&&env.kindOf n==b3 .cell)then(n,Ca)else(n,k)).lookup x=b3 .free
 |[],h=>by cases h
 | (n,k) :: r,h => by
  show Hk x ((if(k==Bt&&env.scope.kind== .function&&env.kindOf n==b3 .cell)=b8 then(n,Ca)else(n,k))::_)=b3 .cell∨Hk x ((if(k==Bt&&env.scope.kind== .function&&env.kindOf n==b3 .cell)=b8 then(n,Ca)else(n,k))::_)=b3 .free;by_cases c:x=n
  ·subst c
   rw[Dz]at h;cases h;by_cases hc:(Bt==Bt&&env.scope.kind== .function&&env.kindOf x==b3 .cell)=b8
   ·left
    rw[if_pos hc,Dz]
   ·right
    rw[if_neg hc,Dz]
  ·have a:(x==n)=ba:=beq_eq_false_iff_ne.mpr c
   simp only[Cn,a]at h;have b:=T0 (env:=env) h;by_cases hc:(k==Bt&&env.scope.kind== .function&&env.kindOf n==b3 .cell)=b8
   ·rw[if_pos hc]
    simp only[Cn,a];exact b
   ·rw[if_neg hc]
    simp only[Cn,a];exact b
def FU(ix:List Nat)(nl:Nat)(a:TI)(g:TG)(b:TT)(te:TE):TE:=λσ H Q=>a σ H λJ H0=>∀D,H0 D=b4->Wd D ix nl J g b te σ H0 λH'=>Q (.ref D) H'
mutual
inductive Dp(K:Aj)(H:Hp):V->Ni->Prop
 |non:Dp K H .non .none
 |bl (b:Bool):Dp K H (.bl b) (.bool b)
 |int (i:Int):Dp K H (.int i) (.int i)
 |str (x:Ug):Dp K H (.str x) (.str x)
 |lst {a:Ud}{xs:List V}{ds:List Ni}:WW K H a xs->J9 K H xs ds->Dp K H (.ref a) (.list ds)
 |tup {a:Ud}{xs:List V}{ds:List Ni}:U6 K H a xs->J9 K H xs ds->Dp K H (.ref a) (.tuple ds)
inductive J9(K:Aj)(H:Hp):List V->List Ni->Prop
 |nil:J9 K H [] []
 |cons {v:V}{vs:List V}{d:Ni}{ds:List Ni}:Dp K H v d->J9 K H vs ds->J9 K H (v::vs) (d::ds)
end
section
variable{X:Cx}{aa:List (Ud×Uq)}{σ:St}{H:Hp}{s:Ae}
mutual
theorem bM.reads(I:bM X aa σ H s):∀{v:V}{d:Ni}{u:Uc},Dp X.K H v d->aG v u->∃as,Reads s.heap u d as
 |_,_,_,.non,r=>by cases r;exact⟨_,.none⟩
 |_,_,_,.bl b,r=>by cases r;exact⟨_,.bool b⟩
 |_,_,_,.int i,r=>by obtain⟨t,rfl⟩:=r;exact⟨_,.int i t⟩
 |_,_,_,.str x,r=>by obtain⟨t,rfl⟩:=r;exact⟨_,.str x t⟩
 |_,_,_,.lst q all,r=>by
  cases r;obtain⟨its,a,⟨o,n,e,c,_,d⟩,_⟩:=I.list q;obtain⟨as,h⟩:=bM.readsAll I all a;exact⟨_,.list e c d (by simpa using h)⟩
 |_,_,_,.tup q all,r=>by
  cases r;obtain⟨its,a,⟨o,e,c,n,d⟩,_⟩:=I.tuple q;obtain⟨as,h⟩:=bM.readsAll I all a;exact⟨_,.tuple e c d (by simpa using h)⟩
theorem bM.readsAll(I:bM X aa σ H s):∀{vs:List V}{ds:List Ni}{a:List Uc},J9 X.K H vs ds->aK vs a->∃as,ReadsAll s.heap a ds as
 |_,_,_,.nil,r=>by cases r;exact⟨_,.nil⟩
 | _,_,_,.cons h t,r => by
  cases r with
  |cons c b=>
   obtain⟨as,h1⟩:=bM.reads I h c;obtain⟨bs,h2⟩:=bM.readsAll I t b;exact⟨_,.cons h1 h2⟩
end
end
def rEqD(K:Aj):R2:=λx y H Q=>∃d e,Dp K H x d/\Dp K H y e/\Er d=b8/\Er e=b8/\Q (.bl (Jl d e)) H
def rNeD(K:Aj):R2:=λx y H Q=>∃d e,Dp K H x d/\Dp K H y e/\Er d=b8/\Er e=b8/\Q (.bl (!PyData.eqv d e)) H
section
variable{X:Cx}
def mY(g:X.A.units+64<cLine):V5 X (Dd .Eq) (rEqD X.K):=by intro aa s σ H x y v u Q I f c h;obtain⟨d,e,hd,i,b,a,q⟩:=h;obtain⟨as,h1⟩:=I.reads hd f;obtain⟨bs,h2⟩:=I.reads i c;exact eq_dataH h1 h2 b a g (GR I q rfl)
def iY(g:X.A.units+64<cLine):V5 X (Dd .NotEq) (rNeD X.K):=by intro aa s σ H x y v u Q I f c h;obtain⟨d,e,hd,i,b,a,q⟩:=h;obtain⟨as,h1⟩:=I.reads hd f;obtain⟨bs,h2⟩:=I.reads i c;exact ne_dataH h1 h2 b a g (GR I q rfl)
def rngP(p:Ud)(a b c:Int):Um->Prop:=λh=>∃t u v,IsRange h p a b c t u v
inductive HR:List Mh->List (Ug×V)->Prop
 |nil:HR [] []
 |cons {e:Mh}{es:List Mh}{x:Ug}{t:Uz}{v:V}{D:List (Ug×V)}:e.key=.str x t->aG v e.val->HR es D->HR (e::es) ((x,v)::D)
def KTab(K:Aj)(a:Ud)(D:List (Ug×V)):Prop:=
 (a==Gj)=ba/\∃o es b,K.lookup a=b3 o/\o.ExactDict/\o.data=.dict es b/\HR es.toList D
def HR.rows{es:List Mh}{D:List (Ug×V)}(h:HR es D):KTD.Rows aG es D:=by
 induction h with
 |nil=>exact .nil
 |cons h1 h2 _ a=>exact .cons h1 h2 a
def EW{A:Bx}{E:Uc->Ae->Prop}{s:Ae}{K:Aj}{prog:Be}{w:Ul}{a:Ud}{D:List (Ug×V)}{k:Ug}{tk:Uz}{Q:Option Uc->Ae->Prop}(n:K.In s.heap)(T:KTab K a D)(h1:∀d v,Fw k D=b3 d->aG d v->Q (b3 v) {s with toks:=s.toks+1})(h2:Fw k D=b4->Q b4 {s with toks:=s.toks+1}):Ue (Uf prog w) A (dictGet a (.str k tk)) Q E s:=by
 obtain⟨_,o,es,p,g,hc,hd,c⟩:=T;have g:=n _ _ g;have c:=c.rows;unfold dictGet;try with_reducible refine Bw ?_
 refine Aa (wpAny_pyHash_str (Aa (KTD.kt_dictFind_strs (s:={s with toks:=s.toks+1}) g hd (by obtain⟨l⟩:=es;simpa using c.exact) ?_)));have f:Q (findBy (λk v=>v.isStr k) es k) {s with toks:=s.toks+1}:=by
  have m:findBy (λk v=>v.isStr k) es k=(es.toList.find? λe=>e.key.isStr k).map (·.val):=by obtain⟨l⟩:=es;simp[findBy]
  rw[m];cases b:Fw k D with
  |some d=>obtain⟨v,j,h⟩:=c.find_some b;rw[j];exact h1 d v b h
  |none=>rw[c.find_none b];exact h2 b
 rw[findBy_of_findIdx?]at f;cases hi:es.findIdx? λe=>e.key.isStr k with
 |none=>rw[hi]at f;exact Ah f
 |some i=>rw[hi]at f;exact Aa (wpAny_dictEntries (s:={s with toks:=s.toks+1}) g hd (Ah f))
def iC:IxR X (λx y H Q=>∃a k D v,x=.ref a/\y=.str k/\KTab X.K a D/\Fw k D=b3 v/\Q v H):=by
 intro value c aa s σ H x y v u Q I l j h hs;obtain⟨a,k,D,d,rfl,rfl,T,f,q⟩:=h;cases l;obtain⟨t,rfl⟩:=j;have b:s.TypeIs (.ref a) "dict":=by obtain⟨_,o,es,p,n,hc,_⟩:=T;exact⟨o,I.kIn _ _ n,hc.1⟩
 have main:Ue (Uf X.prog X.w) X.A (Lk (.ref a) (.str k t)) (EP X aa σ Q) X.xe s:=by
  unfold Lk;try with_reducible refine Bw ?_
  refine Aa (Kx b (by decide) ?_);refine Aa (Dt (name:=Bj "__getitem__") b Kr
   (Eg Kr b PySem.F.entry_dict_getitem ?_ (PySem.F.args_dict_getitem_2 _ _)))
  show Ue _ _ (dictGet a (.str k t)>>=_) _ _ s;exact Aa (EW I.kIn T (λd' i g m=>Ah ⟨i,rfl,Ah (by rw[f]at g;cases g;exact⟨d,H,I.tok _,m,q⟩)⟩) λe=>by rw[f]at e;cases e)
 exact Su b PySem.F.slot_dict_getitem.lookup main hs
end
section
variable{prog:Be}{w:Ul}{A:Bx}{E:Uc->Ae->Prop}{s:Ae}
theorem IG{it t:Ud}{items:Array Uc}(g:t≠it):∀(n i:Nat) (s:Ae) (Q:List Uc->Ae->Prop),s.heap.IsListIter it t i->s.heap.IsList t items->i+n<=items.size->(∀h',h'.IsListIter it t (i+n)->Fa it s.heap h'->Q ((items.toList.drop i).take n) {s with heap:=h'})->Ue (Uf prog w) A (draw (.ref it) n) Q E s
 |0,i,s,Q,e,_,_,j=>by show Ue _ _ (pure []) Q E s;exact Ah (by simpa using j s.heap e (Heap.SameBut.refl ..))
 |n+1,i,s,Q,e,l,m,j=>by
  have h:i<items.size:=by lia
  show Ue _ _ (pyNext (.ref it)>>=_) Q E s;refine Aa (Mb e l (x:=items[i]) (by simp[h]) λk c a=>?_);refine Aa (Bw (IG g n (i+1) _ _ c (l.extBut a.extBut g) (by lia) λf b d=>Ah ?_));have hd:items.toList.drop i=items[i]::items.toList.drop (i+1):=by simp[Ep,h]
  have:=j f (by rw[show i+(n+1)=i+1+n by lia];exact b) (a.trans d)
  rw[hd,List.take_succ_cons]at this;exact this
def N0{t:Ud}{items:Array Uc}{Q:List Uc->Ae->Prop}(n:A.handled=b4)(k:s.heap.IsList t items)(p:∀h',Ju s.heap.objs.size s.heap h'->Q items.toList {s with heap:=h'}):Ue (Uf prog w) A (Jr (.ref t) items.size b4) Q E s:=by
 have j:t≠s.heap.objs.size:=by obtain⟨o,l,_⟩:=k;exact Bf (Al l)
 unfold Jr;refine Aa ?_
 ·unfold notIterableAtAll
  refine Aa (wpAny_specialOf k.typeIs PySem.F.slot_list_iter.lookup ?_);refine Ah ?_;simp only[Eu,if_false];refine Aa (Bw (Gz k ?_));have i:(s.heap.push {cls:=.type "list_iterator",data:=.fields #[.ref t,.int 0 0]}).IsList t items:=by obtain⟨o,l,r⟩:=k;exact⟨o,Ad _ l,r⟩
  refine Aa (Bw (IG j items.size 0 _ _ ⟨_,Ba _ rfl,rfl,rfl⟩ i (by lia) λh c a=>?_));have q:List.take items.size (List.drop 0 items.toList)=items.toList:=by rw[Nj];exact Cf (by simp)
  rw[q];rw[if_neg (by simp)];have d:h.IsList t items:=i.extBut a.extBut j;refine Aa (Bw (Ml n c d (by simp) λg f=>?_));simp only[Option.isSome_none,Eu,if_false];refine Ah (p g λb o m e=>f b o m (a.extBut b o m (Ad _ e)))
def OE{env:Env}{a:List Uj}{x1}{pos:Pos}{t:Ud}{items:Array Uc}{Q:Unit->Ae->Prop}(e:A.handled=b4)(c:s.heap.IsList t items)(d:(Uk a env).length=items.size)(b:(Uk a env).findIdx? (·.1)=b4)(h:∀h',Ju s.heap.objs.size s.heap h'->Ue (Uf prog w) A (Uv ((Uk a env).map (·.2)) items.toList) Q E {s with heap:=h'}):Ue (Uf prog w) A (Fk (.Tuple a x1 pos) env (.ref t)) Q E s:=by rw[assign_Tuple];refine Aa (Dn ?_);unfold unpack;rw[d,b];exact Aa (Bw (N0 e c h))
end
section
variable{X:Cx}{pos:Pos}
def gLst(K:Aj)(n:Nat)(t:TGs):TG:=λv σ H Q=>∃a xs,v=.ref a/\WW K H a xs/\xs.length=n/\t xs σ H Q
def eL{es:List Uj}{k:Nat}{t:TGs}{n:Nat}(hc:X.calm=b8)(h:AA X es t)(j:(Uk es X.env).length=n:=by rfl)(c:(Uk es X.env).findIdx? (·.1)=b4:=by rfl):PG X (.Tuple es k pos) (gLst X.K n t):=by intro aa s σ H v u Q I r hw;obtain⟨a,xs,l,i,hl,hw⟩:=hw;subst l;cases r;obtain⟨its,d,g,hz⟩:=I.list i;refine OE (I.ok.hd hc) g.isList (by simp[j,<-hl,d.length]) c λh' f=>?_;have m:bM X aa σ H {s with heap:=h'}:=I.kept (t':=s.toks) λb o e=>f b o (Bf (Al e)) e;exact h aa _ σ H xs _ Q m (by simpa using d) hw
end
section
variable{X:Cx}{K:Aj}
def mh(h:X.K=K:=by rfl):ZH X (.type "list") (λxs H Q=>∃p ys,xs=[.ref p]/\(WW K H p ys∨U6 K H p ys)/\∀l,H l=b4->Q (.ref l) (upd H l (.lst ys))):=by subst h;exact GF
def mn(h:X.K=K:=by rfl):ZH X (.type "tuple") (λxs H Q=>∃p ys,xs=[.ref p]/\((WW K H p ys/\∀l,H l=b4->Q (.ref l) (upd H l (.tup ys)))∨(U6 K H p ys/\Q (.ref p) H))):=by subst h;exact JZ
def kEqD(a:X.A.units+64<cLine)(h:X.K=K:=by rfl):V5 X (Dd .Eq) (rEqD K):=by subst h;exact mY a
def UF(a:X.A.units+64<cLine)(h:X.K=K:=by rfl):V5 X (Dd .NotEq) (rNeD K):=by subst h;exact iY a
def Vr(h:X.K=K){es:List Uj}{k:Nat}{t:TGs}{n:Nat}{pos:Pos}(hc:X.calm=b8)(c:AA X es t)(b:(Uk es X.env).length=n:=by rfl)(a:(Uk es X.env).findIdx? (·.1)=b4:=by rfl):PG X (.Tuple es k pos) (gTup K n t):=by subst h;exact oj hc c b a
def iH(h:X.K=K){es:List Uj}{k:Nat}{t:TGs}{n:Nat}{pos:Pos}(hc:X.calm=b8)(c:AA X es t)(b:(Uk es X.env).length=n:=by rfl)(a:(Uk es X.env).findIdx? (·.1)=b4:=by rfl):PG X (.Tuple es k pos) (gLst K n t):=by subst h;exact eL hc c b a
def Xe(h:X.K=K){tg l:Uj}{tl:TE}(hl:PE X l tl):PI X tg l (Xn K tl):=by subst h;exact ku hl
def Xf(h:X.K=K){tg l:Uj}{tl:TE}(hl:PE X l tl):PI X tg l (iTup K tl):=by subst h;exact kG hl
def kBm(h:X.K=K:=by rfl){o e:Uj}{es:List Uj}{to:TE}{t:TA}{name:Ug}{aq ai:Pos}{T id:String}{r:V->List V->Hp->VK->Prop}(pa:PlainAttrs T)(slot:Slot T name id)(a:Nh (.builtin id)=pure (.type "method_descriptor"))(c:MtR X id r)(b:PE X o to)(d:PA X (e::es) t)(g:Fs o name X.env (eval o X.env)=eval o X.env:=by rfl)(f:((Ei ai (Uh (e::es) X.env)).all (λx=> !x.1)&&(Km ai (Gp [] X.env)).all (λx=>x.1.isSome)&&decide ((e::es).length+([]:List Io).length+(if([]:List Io).isEmpty then 0 else 1)<30))=b8:=by rfl)(i:(aq.endLine==ai.line)=b8:=by rfl)(hs:Uh (e::es) X.env=(ba,eval e X.env)::Uh es X.env:=by rfl)(j:(Ei ai (Uh es X.env)).any (·.1)=ba:=by rfl):PE X (.Call (.Attribute o name aq) (e::es) [] ai) (tBM K T r to t):=by subst h;exact oN pa slot a c b d g f i hs j
end
def Vw:Bp "len"=b3 (.builtin "len"):=by decide+kernel
def lX:Bp "min"=b3 (.builtin "min"):=by decide+kernel
def eO:Bp "max"=b3 (.builtin "max"):=by decide+kernel
def mM:Bp "sorted"=b3 (.builtin "sorted"):=by decide+kernel
def aR:Bp "isinstance"=b3 (.builtin "isinstance"):=by decide+kernel
def OI:Bp "list"=b3 (.type "list"):=by decide+kernel
def ZL:Bp "tuple"=b3 (.type "tuple"):=by decide+kernel
def EC:Bp "range"=b3 (.type "range"):=by decide+kernel
def ko:Bp "bool"=b3 (.type "bool"):=by decide+kernel
def dN:Bp "int"=b3 (.type "int"):=by decide+kernel
def CD:Bp "str"=b3 (.type "str"):=by decide+kernel
structure Def(P:Be)(w:Ul)(K:Aj)(mg:Ug->Option Uc)(base:Um)(x:Ug)(k:Nat)(ps:List Ug)(sp:Sp)(f:Ud):Prop where
 at_:mg x=b3 (.ref f)
 ok:∃fd,U4 P w K mg base CX0 k f fd ps sp/\RE K fd ps []
 kp:Hx K (.ref f)=b8
section
variable{X:Cx}{x:Ug}{k j:Nat}{ps:List Ug}{sp:Sp}{f:Ud}{p pos:Pos}{e:Uj}{es:List Uj}{t:TA}
def FF(D:Def X.prog X.w X.K X.mg X.base x k ps sp f)(c:X1 j X.A)(d:k<=j)(g:Gl X x)(i:PA X (e::es) t)(b:(x==("__debug__":Ug))=ba:=by decide)(h:Uh (e::es) X.env=(ba,eval e X.env)::Uh es X.env:=by rfl)(a:(Ei pos (Uh es X.env)).any (·.1)=ba:=by rfl):PE X (.Call (.Name x p) (e::es) [] pos) (BR sp [] E0 t):=by obtain⟨fd,F,B⟩:=D.ok;exact cK F (c.mono d) g D.at_ D.kp B .nil jW i b h a
end
def bZ{H:Hp}{p:Ud}{o:HO}(a:H p=b4):Z6 H (upd H p o):=λb o' e=>by rw[bA (WQ e a)];exact e
def FR(ns:List Int):Er (.list (ns.map Pl))=b8:=by
 have h1:Gk (.list (ns.map Pl))=b8:=by simp only[Gk,canLayAll_ints]
 have h2:Iz (.list (ns.map Pl))<=64:=by simp only[Iz,depthAll_ints];decide
 unfold Er;rw[h1,decide_eq_true h2];rfl
abbrev SE(X:Cx)(a:Uj)(es:List Uj):Prop:=Uh (a::es) X.env=(ba,eval a X.env)::Uh es X.env
abbrev ND(x:Ug):Prop:=(x==("__debug__":Ug))=ba
abbrev LO(X:Cx)(x:Ug):Prop:=X.fn x=b8∨X.env.scope.names.lookup x=b3 .local
inductive cF where
 |non|bl (b:Bool)|int (i:Int)|str (x:Ug)|ty (n:String)|fn (x:Ug)|tup (ds:List cF)|lst (ds:List cF)|dct (ks:List Z8) (ds:List cF)|exn (x:Ug)|exr (x n:Ug) (d:cF)
def FzL(K:Aj)(H:Hp)(a:Ud)(xs:List V):Prop:=
 (∃o,H a=b3 (.frz o (.lst xs)))∨
  ∃(o:Uq) (its:Array Uc) (n:Nat),K.lookup a=b3 o/\o.cls=.type "list" /\o.dict=b4/\o.data=.seq its n/\its.size<=sizeLine/\aK xs its.toList
def FzL.sq{K:Aj}{H:Hp}{a:Ud}{xs:List V}(h:FzL K H a xs):WW K H a xs:=by
 rcases h with⟨o,h⟩|h
 ·exact .inl (.inr ⟨o,h⟩)
 ·exact .inr h
def Va(h:Um)(a C:Ud):Prop:=∃o vs,h.get? a=b3 o/\o.cls=.ref C/\o.data=.fields vs
def Wn(h:Um)(a C D:Ud):Prop:=∃o vs,h.get? a=b3 o/\o.cls=.ref C/\o.data=.fields vs/\o.dict=b3 D
mutual
inductive aD(K:Aj)(N:Ud->Prop)(H:Hp):(Ud->Prop)->V->cF->Prop
 |non {M:Ud->Prop}:aD K N H M .non .non
 |bl {M:Ud->Prop}(b:Bool):aD K N H M (.bl b) (.bl b)
 |int {M:Ud->Prop}(i:Int):aD K N H M (.int i) (.int i)
 |str {M:Ud->Prop}(x:Ug):aD K N H M (.str x) (.str x)
 |ty {M:Ud->Prop}(n:String):aD K N H M (.ty n) (.ty n)
 |fn {M:Ud->Prop}{a:Ud}{x:Ug}:Fg K Ui x=b3 (b3 (.ref a))->aD K N H M (.ref a) (.fn x)
 |tup {M:Ud->Prop}{a:Ud}{xs:List V}{ds:List cF}:U6 K H a xs->bD K N H xs ds->aD K N H M (.ref a) (.tup ds)
 |lst {M:Ud->Prop}{a:Ud}{xs:List V}{ds:List cF}:H a=b3 (.lst xs)->¬M a->bD K N H xs ds->aD K N H M (.ref a) (.lst ds)
 |fzl {M:Ud->Prop}{a:Ud}{xs:List V}{ds:List cF}:FzL K H a xs->bD K N H xs ds->aD K N H M (.ref a) (.lst ds)
 |dct {M:Ud->Prop}{a:Ud}{kvs:List (Z8×V)}{ds:List cF}:H a=b3 (.dK kvs)->¬M a->bD K N H (kvs.map Dg) ds->aD K N H M (.ref a) (.dct (kvs.map Ch) ds)
 |ktb {M:Ud->Prop}{a:Ud}{D:List (Ug×V)}{ds:List cF}:KTab K a D->bD K N H (D.map Dg) ds->aD K N H M (.ref a) (.dct (D.map λp=>.inr p.1) ds)
 |exn {M:Ud->Prop}{a C:Ud}{x:Ug}{φ:Um->Prop}:Fg K Ui x=b3 (b3 (.ref C))->H a=b3 (.ext φ)->(∀h,φ h->Va h a C)->aD K N H M (.ref a) (.exn x)
 |exr {M:Ud->Prop}{a C D:Ud}{x n:Ug}{φ:Um->Prop}{v:V}{d:cF}:Fg K Ui x=b3 (b3 (.ref C))->H a=b3 (.ext φ)->(∀h,φ h->Wn h a C D)->H D=b3 (.xd [(n,v)])->aD K N H N v d->aD K N H M (.ref a) (.exr x n d)
inductive bD(K:Aj)(N:Ud->Prop)(H:Hp):List V->List cF->Prop
 |nil:bD K N H [] []
 |cons {v:V}{vs:List V}{d:cF}{ds:List cF}:aD K N H N v d->bD K N H vs ds->bD K N H (v::vs) (d::ds)
end
inductive RepL(K:Aj)(N:Ud->Prop)(H:Hp)(M:Ud->Prop)(ds:List cF):V->Prop
 |lst {a:Ud}{xs:List V}:H a=b3 (.lst xs)->¬M a->bD K N H xs ds->RepL K N H M ds (.ref a)
 |fzl {a:Ud}{xs:List V}:FzL K H a xs->bD K N H xs ds->RepL K N H M ds (.ref a)
inductive RepT(K:Aj)(N:Ud->Prop)(H:Hp)(ds:List cF):V->Prop
 |tup {a:Ud}{xs:List V}:U6 K H a xs->bD K N H xs ds->RepT K N H ds (.ref a)
inductive RepD(K:Aj)(N:Ud->Prop)(H:Hp)(M:Ud->Prop)(ks:List Z8)(ds:List cF):V->Prop
 |dct {a:Ud}{kvs:List (Z8×V)}:H a=b3 (.dK kvs)->¬M a->bD K N H (kvs.map Dg) ds->ks=kvs.map Ch->RepD K N H M ks ds (.ref a)
 |ktb {a:Ud}{D:List (Ug×V)}:KTab K a D->bD K N H (D.map Dg) ds->ks=D.map (λp=>.inr p.1)->RepD K N H M ks ds (.ref a)
def RepI(K:Aj)(N:Ud->Prop)(H:Hp)(M:Ud->Prop)(v:V):cF->Prop
 |.non=>v=.non
 |.bl b=>v=.bl b
 |.int i=>v=.int i
 |.str x=>v=.str x
 |.ty n=>v=.ty n
 |.fn x=>∃a,v=.ref a/\Fg K Ui x=b3 (b3 (.ref a))
 |.tup ds=>RepT K N H ds v
 |.lst ds=>RepL K N H M ds v
 |.dct ks ds=>RepD K N H M ks ds v
 |_=>True
section
variable{K:Aj}{N:Ud->Prop}{H:Hp}{M:Ud->Prop}{v:V}{d:cF}{ds:List cF}
def aD.inv(h:aD K N H M v d):RepI K N H M v d:=by
 cases h with
 |fn q=>exact⟨_,rfl,q⟩
 |tup q r=>exact .tup q r
 |lst q n r=>exact .lst q n r
 |fzl q r=>exact .fzl q r
 |dct q n r=>exact .dct q n r rfl
 |ktb q r=>exact .ktb q r rfl
 |exn _ _ _=>trivial
 |exr _ _ _ _ _=>trivial
 |_=>rfl
def aD.onI{i:Int}(h:aD K N H M v (.int i)):v=.int i:=h.inv
def aD.onB{i:Bool}(h:aD K N H M v (.bl i)):v=.bl i:=h.inv
def aD.onS{i:Ug}(h:aD K N H M v (.str i)):v=.str i:=h.inv
def aD.onL(h:aD K N H M v (.lst ds)):RepL K N H M ds v:=h.inv
def aD.onT(h:aD K N H M v (.tup ds)):RepT K N H ds v:=h.inv
def aD.onD{ks:List Z8}(h:aD K N H M v (.dct ks ds)):RepD K N H M ks ds v:=h.inv
end
def Hard:HO->Prop
 |.tup _=>True
 |.frz _ _=>True
 |.ext _=>True
 |.xd _=>True
 |_=>False
def Fr(P:Ud->Prop)(H H':Hp):Prop:=∀b o,H b=b3 o->(P b->Hard o)->H' b=b3 o
def Fr.refl(P:Ud->Prop)(H:Hp):Fr P H H:=λ_ _ h _=>h
def Fr.trans{P:Ud->Prop}{H H1 H2:Hp}(a:Fr P H H1)(b:Fr P H1 H2):Fr P H H2:=λc o h n=>b c o (a c o h n) n
def Fr.mono{P d:Ud->Prop}{H H':Hp}(a:Fr P H H')(h:∀b,P b->d b):Fr d H H':=λc o e n=>a c o e λz=>n (h c z)
def Z6.fr{P:Ud->Prop}{H H':Hp}(a:Z6 H H'):Fr P H H':=λc o h _=>a c o h
section
variable{K:Aj}{N N' M M' P:Ud->Prop}{H H':Hp}
def Fr.tup(f:Fr P H H'){a:Ud}{xs:List V}(h:U6 K H a xs):U6 K H' a xs:=by
 rcases h with(h|⟨o,h⟩)|h
 ·exact .inl (.inl (f _ _ h λ_=>trivial))
 ·exact .inl (.inr ⟨o,f _ _ h λ_=>trivial⟩)
 ·exact .inr h
def Fr.fzl(f:Fr P H H'){a:Ud}{xs:List V}(h:FzL K H a xs):FzL K H' a xs:=by
 rcases h with⟨o,h⟩|h
 ·exact .inl ⟨o,f _ _ h λ_=>trivial⟩
 ·exact .inr h
def aD.fr(f:Fr P H H')(e:∀a,P a->N a){M:Ud->Prop}{v:V}{d:cF}(c:∀a,P a->M a)(h:aD K N H M v d):aD K N H' M v d:=
 aD.rec (motive_1:=λM v d _=>(∀a,P a->M a)->aD K N H' M v d) (motive_2:=λvs ds _=>bD K N H' vs ds) (λ_=>.non) (λb _=>.bl b) (λi _=>.int i) (λx _=>.str x) (λn _=>.ty n) (λq _=>.fn q) (λq _ r _=>.tup (f.tup q) r)
  (λq n _ r c=>.lst (f _ _ q λz=>absurd (c _ z) n) n r) (λq _ r _=>.fzl (f.fzl q) r) (λq n _ r c=>.dct (f _ _ q λz=>absurd (c _ z) n) n r) (λq _ r _=>.ktb q r) (λp q r _=>.exn p (f _ _ q λ_=>trivial) r)
  (λp q r s _ t _=>.exr p (f _ _ q λ_=>trivial) r (f _ _ s λ_=>trivial) (t e)) .nil (λ_ _ a b=>.cons (a e) b) h c
def bD.map{c:Aj}{N':Ud->Prop}{H':Hp}(g:∀{v d},aD K N H N v d->aD c N' H' N' v d):∀{vs:List V}{ds:List cF},bD K N H vs ds->bD c N' H' vs ds:=by
 intro vs;induction vs with
 |nil=>intro ds h;cases h;exact .nil
 |cons v vs e=>intro ds h;cases h with|cons a b=>exact .cons (g a) (e b)
def bD.fr(f:Fr P H H')(b:∀a,P a->N a){vs:List V}{ds:List cF}(h:bD K N H vs ds):bD K N H' vs ds:=h.map λr=>r.fr f b b
def aD.mono(e:∀a,N' a->N a){M M':Ud->Prop}{v:V}{d:cF}(c:∀a,M' a->M a)(h:aD K N H M v d):aD K N' H M' v d:=
 aD.rec (motive_1:=λM v d _=>∀M',(∀a,M' a->M a)->aD K N' H M' v d) (motive_2:=λvs ds _=>bD K N' H vs ds) (λ_ _=>.non) (λb _ _=>.bl b) (λi _ _=>.int i) (λx _ _=>.str x) (λn _ _=>.ty n) (λq _ _=>.fn q) (λq _ r _ _=>.tup q r)
  (λq n _ r _ c=>.lst q (λz=>n (c _ z)) r) (λq _ r _ _=>.fzl q r) (λq n _ r _ c=>.dct q (λz=>n (c _ z)) r) (λq _ r _ _=>.ktb q r) (λp q r _ _=>.exn p q r) (λp q r s _ t _ _=>.exr p q r s (t _ e)) .nil (λ_ _ a b=>.cons (a _ e) b) h M' c
def bD.mono(b:∀a,N' a->N a){vs:List V}{ds:List cF}(h:bD K N H vs ds):bD K N' H vs ds:=h.map λr=>r.mono b b
def aD.same(f:Z6 H H'){v:V}{d:cF}(h:aD K N H M v d):aD K N H' M v d:=h.fr f.fr (λ_ z=>z.elim) (P:=λ_=>False) λ_ z=>z.elim
def bD.same(f:Z6 H H'){vs:List V}{ds:List cF}(h:bD K N H vs ds):bD K N H' vs ds:=h.fr f.fr (P:=λ_=>False) λ_ z=>z.elim
theorem bD.length:∀{vs:List V}{ds:List cF},bD K N H vs ds->vs.length=ds.length
 |_,_,.nil=>rfl
 |_,_,.cons _ t=>congrArg (· +1) (bD.length t)
theorem bD.append:∀{vs a:List V}{ds es:List cF},bD K N H vs ds->bD K N H a es->bD K N H (vs++a) (ds++es)
 |_,_,_,_,.nil,s=>s
 |_,_,_,_,.cons h t,s=>.cons h (bD.append t s)
theorem bD.get:∀{vs:List V}{ds:List cF}{i:Nat}{d:cF},bD K N H vs ds->ds[i]?=b3 d->∃v,vs[i]?=b3 v/\aD K N H N v d
 |_,_,_,_,.nil,e=>by simp at e
 |_,_,0,_,.cons r _,e=>by simp at e;subst e;exact⟨_,rfl,r⟩
 |_,_,i+1,x,.cons _ t,e=>by obtain⟨u,h1,h2⟩:=bD.get (i:=i) (d:=x) t (by simpa using e);exact⟨u,by simpa using h1,h2⟩
theorem bD.take:∀{vs:List V}{ds:List cF}(n:Nat),bD K N H vs ds->bD K N H (vs.take n) (ds.take n)
 |_,_,0,_=>.nil
 |_,_,_+1,.nil=>.nil
 |_,_,n+1,.cons r t=>.cons r (bD.take n t)
theorem bD.drop:∀{vs:List V}{ds:List cF}(n:Nat),bD K N H vs ds->bD K N H (vs.drop n) (ds.drop n)
 |_,_,0,r=>r
 |_,_,_+1,.nil=>.nil
 |_,_,n+1,.cons _ t=>bD.drop n t
def bD.snoc{vs:List V}{ds:List cF}{v:V}{d:cF}(r:bD K N H vs ds)(h:aD K N H N v d):bD K N H (vs++[v]) (ds++[d]):=r.append (.cons h .nil)
end
mutual
def cF.isD:cF->Bool
 |.non=>b8
 |.bl _=>b8
 |.int _=>b8
 |.str _=>b8
 |.ty _=>ba
 |.fn _=>ba
 |.tup ds=>ER ds
 |.lst ds=>ER ds
 |.dct _ _=>ba
 |.exn _=>ba
 |.exr _ _ _=>ba
def ER:List cF->Bool
 |[]=>b8
 |d::ds=>d.isD&&ER ds
end
mutual
def cF.pd:cF->Ni
 |.non=>.none
 |.bl b=>.bool b
 |.int i=>.int i
 |.str x=>.str x
 |.ty _=>.none
 |.fn _=>.none
 |.tup ds=>.tuple (pds ds)
 |.lst ds=>.list (pds ds)
 |.dct _ _=>.none
 |.exn _=>.none
 |.exr _ _ _=>.none
def pds:List cF->List Ni
 |[]=>[]
 |d::ds=>d.pd::pds ds
end
mutual
def cF.hard:cF->Bool
 |.tup ds=>RP ds
 |.lst _=>ba
 |.dct _ _=>ba
 |.exr _ _ _=>ba
 |_=>b8
def RP:List cF->Bool
 |[]=>b8
 |d::ds=>d.hard&&RP ds
end
section
variable{K:Aj}{N:Ud->Prop}{H:Hp}
def aD.dp{M:Ud->Prop}{v:V}{d:cF}(h:aD K N H M v d)(e:d.isD=b8):Dp K H v d.pd:=
 aD.rec (motive_1:=λM v d _=>d.isD=b8->Dp K H v d.pd) (motive_2:=λvs ds _=>ER ds=b8->J9 K H vs (pds ds)) (λ_=>.non) (λb _=>.bl b) (λi _=>.int i) (λx _=>.str x) (λ_ h=>nomatch h) (λ_ h=>nomatch h) (λq _ r h=>.tup q (r h))
  (λq _ _ r h=>.lst (WW.of q) (r h)) (λq _ r h=>.lst q.sq (r h)) (λ_ _ _ _ h=>nomatch h) (λ_ _ _ h=>nomatch h) (λ_ _ _ h=>nomatch h) (λ_ _ _ _ _ _ h=>nomatch h) (λ_=>.nil) (λ_ _ a b e=>.cons (a (Dv.mp e).1) (b (Dv.mp e).2)) h e
def aD.hard{N':Ud->Prop}{M M':Ud->Prop}{v:V}{d:cF}(h:aD K N H M v d)(e:d.hard=b8):aD K N' H M' v d:=
 aD.rec (motive_1:=λM v d _=>∀M',d.hard=b8->aD K N' H M' v d) (motive_2:=λvs ds _=>RP ds=b8->bD K N' H vs ds) (λ_ _=>.non) (λb _ _=>.bl b) (λi _ _=>.int i) (λx _ _=>.str x) (λn _ _=>.ty n) (λq _ _=>.fn q) (λq _ r _ h=>.tup q (r h))
  (λ_ _ _ _ _ h=>nomatch h) (λ_ _ _ _ h=>nomatch h) (λ_ _ _ _ _ h=>nomatch h) (λ_ _ _ _ h=>nomatch h) (λp q r _ _=>.exn p q r) (λ_ _ _ _ _ _ _ h=>nomatch h) (λ_=>.nil) (λ_ _ a b e=>.cons (a _ (Dv.mp e).1) (b (Dv.mp e).2)) h M' e
def bD.hard{N':Ud->Prop}:∀{vs:List V}{ds:List cF},bD K N H vs ds->RP ds=b8->bD K N' H vs ds:=by
 intro vs;induction vs with
 |nil=>intro ds h _;cases h;exact .nil
 |cons v vs c=>intro ds h e;cases h with|cons a b=>exact .cons (a.hard (Dv.mp e).1) (c b (Dv.mp e).2)
end
inductive Sl where
 |no|va (d:cF)|ow (d:cF)
abbrev Ev:=List Sl
structure Bs where
 Z:Ud->Prop
 P:Ud->Prop
 H0:Hp
 mu:Nat->Option Ud
 kp:List (V×cF)
def Nn(B:Bs)(O:Nat->Option Ud):Ud->Prop:=λa=>B.Z a∨∃i,O i=b3 a
def OA(O:Nat->Option Ud):Ud->Prop:=λa=>∃i,O i=b3 a
inductive N5(K:Aj)(N:Ud->Prop)(H:Hp)(a:Ud):cF->Prop
 |lst {xs:List V}{ds:List cF}:H a=b3 (.lst xs)->bD K N H xs ds->N5 K N H a (.lst ds)
 |dct {kvs:List (Z8×V)}{ds:List cF}:H a=b3 (.dK kvs)->bD K N H (kvs.map Dg) ds->N5 K N H a (.dct (kvs.map Ch) ds)
theorem N5.fr{K:Aj}{N P:Ud->Prop}{H H':Hp}{a:Ud}{d:cF}(f:Fr P H H')(c:∀a,P a->N a)(b:¬P a):N5 K N H a d->N5 K N H' a d
 |.lst q r=>.lst (f _ _ q λz=>absurd z b) (r.fr f c)
 |.dct q r=>.dct (f _ _ q λz=>absurd z b) (r.fr f c)
theorem N5.mono{K:Aj}{N N':Ud->Prop}{H:Hp}{a:Ud}{d:cF}(h:∀b,N' b->N b):N5 K N H a d->N5 K N' H a d
 |.lst q r=>.lst q (r.mono h)
 |.dct q r=>.dct q (r.mono h)
def N5.soft{K:Aj}{N:Ud->Prop}{H:Hp}{a:Ud}{d:cF}(h:N5 K N H a d):∃o,H a=b3 o/\¬Hard o:=by
 cases h with
 |lst q _=>exact⟨_,q,λz=>z⟩
 |dct q _=>exact⟨_,q,λz=>z⟩
def N5.rep{K:Aj}{N M:Ud->Prop}{H:Hp}{a:Ud}{d:cF}(h:N5 K N H a d)(b:¬M a):aD K N H M (.ref a) d:=by
 cases h with
 |lst q r=>exact .lst q b r
 |dct q r=>exact .dct q b r
structure ZX(K:Aj)(ml:List Nat)(B:Bs)(O:Nat->Option Ud)(H:Hp)(σ:St)(δ:Ev):Prop where
 len:σ.length=δ.length
 va:∀(i:Nat) (d:cF),δ[i]?=b3 (Sl.va d)->∃v,σ[i]?=b3 (b3 v)/\aD K (Nn B O) H (Nn B O) v d
 ow:∀(i:Nat) (d:cF),δ[i]?=b3 (Sl.ow d)->∃a,O i=b3 a/\σ[i]?=b3 (b3 (.ref a))/\N5 K (Nn B O) H a d
 dom:∀(i:Nat) a,O i=b3 a->∃d,δ[i]?=b3 (Sl.ow d)
 inj:∀i j a,O i=b3 a->O j=b3 a->i=j
 old:∀i a,O i=b3 a->¬B.Z a/\(B.P a∨B.H0 a=b4)
 zin:∀a,B.Z a->∃o,H a=b3 o
 frm:Fr B.P B.H0 H
 par:(∀i a,B.mu i=b3 a->i∈ml)/\∀i∈ml,O i=B.mu i
 pin:∀a,B.P a->∃o,H a=b3 o
 kep:∀p∈B.kp,aD K (Nn B O) H (Nn B O) p.1 p.2
section
variable{K:Aj}{ml:List Nat}{B:Bs}{O:Nat->Option Ud}{H H':Hp}{σ:St}{δ δ':Ev}
def ZX.nin(S:ZX K ml B O H σ δ){a:Ud}(h:Nn B O a):∃o,H a=b3 o:=by
 rcases h with h|⟨i,h⟩
 ·exact S.zin a h
 ·obtain⟨d,e⟩:=S.dom i a h
  obtain⟨c,b,_,w⟩:=S.ow i d e;rw[h]at b;cases b;obtain⟨o,q,_⟩:=w.soft;exact⟨o,q⟩
def ZX.new(S:ZX K ml B O H σ δ){a:Ud}(h:H a=b4):¬Nn B O a:=λz=>by obtain⟨o,q⟩:=S.nin z;rw[h]at q;cases q
def ZX.same(S:ZX K ml B O H σ δ)(f:Z6 H H'):ZX K ml B O H' σ δ where
 len:=S.len
 va:=λi d e=>let ⟨v,a,b⟩:=S.va i d e;⟨v,a,b.same f⟩
 ow:=λi d e=>let ⟨a,b,c,w⟩:=S.ow i d e;⟨a,b,c,w.fr (P:=λ_=>False) f.fr (λ_ z=>z.elim) λz=>z⟩
 dom:=S.dom
 inj:=S.inj
 old:=S.old
 zin:=λa h=>let ⟨o,q⟩:=S.zin a h;⟨o,f _ _ q⟩
 frm:=S.frm.trans f.fr
 par:=S.par
 pin:=λa h=>let ⟨o,q⟩:=S.pin a h;⟨o,f _ _ q⟩
 kep:=λp h=>(S.kep p h).same f
def ZX.fresh(S:ZX K ml B O H σ δ){a:Ud}(h:H a=b4):B.H0 a=b4:=by
 cases q:B.H0 a with
 |none=>rfl
 |some o=>
  by_cases b:B.P a
  ·obtain⟨o',e⟩:=S.pin a b
   rw[h]at e;cases e
  ·have := S.frm a o q λz => absurd z b
   rw[h]at this;cases this
def Bs.add(B:Bs)(p:Ud):Bs:={B with Z:=λa=>B.Z a∨a=p}
def QC{p:Ud}:∀a,Nn B O a->Nn (B.add p) O a:=λa h=>by
 rcases h with h|h
 ·exact .inl (.inl h)
 ·exact .inr h
def aD.away{p:Ud}(g:H p=b4)(N N':Ud->Prop)(f:∀a,N' a->N a∨a=p){M M':Ud->Prop}{v:V}{d:cF}(c:∀a,M' a->M a∨a=p)(h:aD K N H M v d):aD K N' H M' v d:=
 have no:∀{a:Ud}{o:HO}{M M':Ud->Prop},H a=b3 o->¬M a->(∀a,M' a->M a∨a=p)->¬M' a:=λq n c z=>(c _ z).elim n λe=>by rw[e,g]at q;cases q
 aD.rec (motive_1:=λM v d _=>∀M',(∀a,M' a->M a∨a=p)->aD K N' H M' v d) (motive_2:=λvs ds _=>bD K N' H vs ds) (λ_ _=>.non) (λb _ _=>.bl b) (λi _ _=>.int i) (λx _ _=>.str x) (λn _ _=>.ty n) (λq _ _=>.fn q) (λq _ r _ _=>.tup q r)
  (λq n _ r _ c=>.lst q (no q n c) r) (λq _ r _ _=>.fzl q r) (λq n _ r _ c=>.dct q (no q n c) r) (λq _ r _ _=>.ktb q r) (λp q r _ _=>.exn p q r) (λp q r s _ t _ _=>.exr p q r s (t _ f)) .nil (λ_ _ a b=>.cons (a _ f) b) h M' c
def bD.away{p:Ud}(c:H p=b4)(N N':Ud->Prop)(b:∀a,N' a->N a∨a=p){vs:List V}{ds:List cF}(h:bD K N H vs ds):bD K N' H vs ds:=h.map λr=>r.away c N N' b b
def U1{p:Ud}:∀a,Nn (B.add p) O a->Nn B O a∨a=p:=λa h=>by
 rcases h with(h|h)|h
 ·exact .inl (.inl h)
 ·exact .inr h
 ·exact .inl (.inr h)
def ZX.laid(S:ZX K ml B O H σ δ){p:Ud}{o:HO}(f:H p=b4):ZX K ml (B.add p) O (upd H p o) σ δ where
 len:=S.len
 va:=λi d e=>let ⟨v,a,b⟩:=S.va i d e;⟨v,a,(b.away f _ _ U1 U1).same (bZ f)⟩
 ow:=λi d e=>by
  obtain⟨a,b,c,w⟩:=S.ow i d e;refine⟨a,b,c,?_⟩;have g:∀o,H a=b3 o->upd H p o=upd H p o:=λ_ _=>rfl;cases w with
  |lst q r=>exact .lst (bZ f _ _ q) ((r.away f _ _ U1).same (bZ f))
  |dct q r=>exact .dct (bZ f _ _ q) ((r.away f _ _ U1).same (bZ f))
 dom:=S.dom
 inj:=S.inj
 old:=λi a h=>by
  refine⟨λz=>?_,(S.old i a h).2⟩;rcases z with z|z
  ·exact(S.old i a h).1 z
  ·obtain⟨o,q⟩:=S.nin (.inr ⟨i,h⟩)
   rw[z,f]at q;cases q
 zin:=λa h=>by
  rcases h with h|h
  ·obtain⟨o,q⟩:=S.zin a h
   exact⟨o,bZ f _ _ q⟩
  ·exact⟨_,by rw[h];exact bK⟩
 frm:=S.frm.trans (bZ f).fr
 par:=S.par
 pin:=λa h=>let ⟨o,q⟩:=S.pin a h;⟨o,bZ f _ _ q⟩
 kep:=λp h=>((S.kep p h).away f _ _ U1 U1).same (bZ f)
def M4{i:Nat}{o:Option Ud}:∀a,Nn B (λj=>if j=i then b4 else O j) a->Nn B O a:=λa h=>by
 rcases h with h|⟨j,h⟩
 ·exact .inl h
 ·refine .inr ⟨j,?_⟩
  by_cases b:j=i
  ·simp[b]at h
  ·simpa[b]using h
def Q8{α:Type}{l:List α}{i j:Nat}{x y:α}(h:(l.set i x)[j]?=b3 y):(j=i/\y=x/\i<l.length)∨(j≠i/\l[j]?=b3 y):=by
 by_cases a:j=i
 ·subst a
  rw[List.getElem?_set_self']at h;obtain⟨z,q,h⟩:=As.mp h;cases h;exact .inl ⟨rfl,rfl,(Ag.mp q).1⟩
 ·rw[Bz (Ck a)]at h
  exact .inr ⟨a,h⟩
def ZX.setVa(S:ZX K ml B O H σ δ){i:Nat}{v:V}{d:cF}(n:i∉ml)(h:aD K (Nn B O) H (Nn B O) v d):ZX K ml B (λj=>if j=i then b4 else O j) H (σ.set i (b3 v)) (δ.set i (.va d)) where
 len:=by rw[Cg,Cg,S.len]
 va:=λj e q=>by
  rcases Q8 q with⟨rfl,z,hl⟩|⟨b,q⟩
  ·cases z
   exact⟨v,by rw[Dk (by rw[S.len];exact hl)],h.mono (M4 (o:=b4)) (M4 (o:=b4))⟩
  ·obtain⟨u,c,r⟩:=S.va j e q
   exact⟨u,by rw[Bz (Ck b)];exact c,r.mono (M4 (o:=b4)) (M4 (o:=b4))⟩
 ow:=λj e q=>by
  rcases Q8 q with⟨rfl,z,hl⟩|⟨b,q⟩
  ·cases z
  ·obtain⟨a,c,f,w⟩:=S.ow j e q
   exact⟨a,by simpa[b]using c,by rw[Bz (Ck b)];exact f,w.mono (M4 (o:=b4))⟩
 dom:=λj a e=>by
  by_cases b:j=i
  ·simp[b]at e
  ·obtain ⟨d,q⟩ := S.dom j a (by simpa [b]using e)
   exact⟨d,by rw[Bz (Ck b)];exact q⟩
 inj:=λj k a c f=>by
  by_cases b:j=i
  ·simp[b]at c
  ·by_cases l:k=i
   ·simp[l]at f
   ·exact S.inj j k a (by simpa[b]using c) (by simpa[l]using f)
 old:=λj a e=>by
  by_cases b:j=i
  ·simp[b]at e
  ·exact S.old j a (by simpa[b]using e)
 zin:=S.zin
 frm:=S.frm
 par:=⟨S.par.1,λj b=>by have g:j≠i:=λz=>n (z▸b);have h2:O j=B.mu j:=S.par.2 j b;simpa[g]using h2⟩
 pin:=S.pin
 kep:=λp m=>(S.kep p m).mono (M4 (o:=b4)) (M4 (o:=b4))
def NU{i:Nat}{p:Ud}:∀a,Nn B (λj=>if j=i then b3 p else O j) a->Nn (B.add p) O a:=λa h=>by
 rcases h with h|⟨j,h⟩
 ·exact .inl (.inl h)
 ·by_cases b:j=i
  ·simp[b]at h
   exact .inl (.inr h.symm)
  ·exact .inr ⟨j,by simpa[b]using h⟩
def ZX.setOw{p:Ud}(S:ZX K ml (B.add p) O H σ δ){i:Nat}{d:cF}(n:i∉ml)(hl:i<δ.length)(hz:¬B.Z p)(o:B.H0 p=b4)(h:N5 K (Nn (B.add p) O) H p d):
  ZX K ml B (λj=>if j=i then b3 p else O j) H (σ.set i (b3 (.ref p))) (δ.set i (.ow d)) where
 len:=by rw[Cg,Cg,S.len]
 va:=λj e q=>by
  rcases Q8 q with⟨rfl,z,_⟩|⟨b,q⟩
  ·cases z
  ·obtain⟨u,c,r⟩:=S.va j e q
   exact⟨u,by rw[Bz (Ck b)];exact c,r.mono NU NU⟩
 ow:=λj e q=>by
  rcases Q8 q with⟨rfl,z,hl⟩|⟨b,q⟩
  ·cases z
   exact⟨p,by simp,by rw[Dk (by rw[S.len];exact hl)],h.mono NU⟩
  ·obtain⟨a,c,f,w⟩:=S.ow j e q
   exact⟨a,by simpa[b]using c,by rw[Bz (Ck b)];exact f,w.mono NU⟩
 dom:=λj a e=>by
  by_cases b:j=i
  ·subst b
   exact⟨d,by rw[Dk hl]⟩
  ·obtain ⟨d,q⟩ := S.dom j a (by simpa [b]using e)
   exact⟨d,by rw[Bz (Ck b)];exact q⟩
 inj:=λj k a c f=>by
  by_cases b:j=i
  ·by_cases g:k=i
   ·rw[b,g]
   ·simp[b]at c
    simp[g]at f;exact absurd (.inr c.symm) (S.old k a f).1
  ·by_cases g:k=i
   ·simp[g]at f
    simp[b]at c;exact absurd (.inr f.symm) (S.old j a c).1
   ·exact S.inj j k a (by simpa[b]using c) (by simpa[g]using f)
 old:=λj a e=>by
  by_cases b:j=i
  ·simp[b]at e
   subst e;exact⟨hz,.inr o⟩
  ·have := S.old j a (by simpa [b]using e)
   exact⟨λz=>this.1 (.inl z),this.2⟩
 zin:=λa h=>S.zin a (.inl h)
 frm:=S.frm
 par:=⟨S.par.1,λj b=>by have l:j≠i:=λz=>n (z▸b);have h2:O j=B.mu j:=S.par.2 j b;simpa[l]using h2⟩
 pin:=S.pin
 kep:=λp m=>(S.kep p m).mono NU NU
def ZX.wrote(S:ZX K ml B O H σ δ){i:Nat}{a:Ud}{d:cF}{o:HO}(e:O i=b3 a)(E:¬Hard o)(h:N5 K (Nn B O) (upd H a o) a d):ZX K ml B O (upd H a o) σ (δ.set i (.ow d)):=by
 have y:Fr (λb=>b=a) H (upd H a o):=λb u q n=>by
  by_cases f:b=a
  ·subst f
   obtain⟨d',t⟩:=S.dom i b e;obtain⟨s,c,_,w⟩:=S.ow i d' t;rw[e]at c;cases c;obtain⟨C,q1,x⟩:=w.soft;rw[q]at q1;cases q1;exact absurd (n rfl) x
  ·rw[bA f]
   exact q
 have l:∀b,b=a->Nn B O b:=λb z=>.inr ⟨i,z▸e⟩;have k:∀b,(∃u,H b=b3 u)->∃u,upd H a o b=b3 u:=λb q0=>by
  obtain⟨u,q⟩:=q0;by_cases f:b=a
  ·exact⟨o,by rw[f];exact bK⟩
  ·exact⟨u,by rw[bA f];exact q⟩
 refine⟨by rw[Cg,S.len],λj d' q=>?_,λj d' q=>?_,λj b q=>?_,S.inj,S.old,λb h=>k b (S.zin b h),?_,S.par,λb h=>k b (S.pin b h),λp D=>(S.kep p D).fr y l l⟩
 ·rcases Q8 q with⟨_,z,_⟩|⟨g,q⟩
  ·cases z
  ·obtain⟨v,c,r⟩:=S.va j d' q
   exact⟨v,c,r.fr y l l⟩
 ·rcases Q8 q with⟨rfl,z,hl⟩|⟨g,q⟩
  ·cases z
   obtain⟨m,q0⟩:=S.dom j a e;obtain⟨s,c,A,_⟩:=S.ow j m q0;rw[e]at c;cases c;exact⟨a,e,A,h⟩
  ·obtain⟨s,c,A,w⟩:=S.ow j d' q
   exact⟨s,c,A,w.fr y l λz=>g (S.inj j i a (z▸c) e)⟩
 ·by_cases g:j=i
  ·subst g
   obtain⟨m,q0⟩:=S.dom j b q;exact⟨d,by rw[Dk (Ag.mp q0).1]⟩
  ·obtain⟨m,q0⟩:=S.dom j b q
   exact⟨m,by rw[Bz (Ck g)];exact q0⟩
 ·intro b u q n
  have h1:=S.frm b u q n;by_cases f:b=a
  ·subst f
   rcases(S.old i b e).2 with z|z
   ·obtain⟨d',t⟩:=S.dom i b e
    obtain⟨s,c,_,w⟩:=S.ow i d' t;rw[e]at c;cases c;obtain⟨C,q1,x⟩:=w.soft;rw[h1]at q1;cases q1;exact absurd (n z) x
   ·rw[q]at z
    cases z
  ·rw[bA f]
   exact h1
def ZX.keepV(S:ZX K ml B O H σ δ){ps:List (V×cF)}(h:∀p∈ps,aD K (Nn B O) H (Nn B O) p.1 p.2):ZX K ml {B with kp:=ps++B.kp} O H σ δ:=
 ⟨S.len,S.va,S.ow,S.dom,S.inj,S.old,S.zin,S.frm,S.par,S.pin,λp a=>(Bq.mp a).elim (h p) (S.kep p)⟩
def ZX.unkeep{ps:List (V×cF)}(S:ZX K ml {B with kp:=ps++B.kp} O H σ δ):ZX K ml B O H σ δ:=
 ⟨S.len,S.va,S.ow,S.dom,S.inj,S.old,S.zin,S.frm,S.par,S.pin,λp a=>S.kep p (Aw _ a)⟩
end
def rz(B:Bs):Ud->Prop:=λa=>B.Z a∨∃i,B.mu i=b3 a
def av(B:Bs)(O:Nat->Option Ud)(b:Bool):Ud->Prop:=if b then Nn B O else λa=>Nn B O a/\rz B a
def at_(B:Bs)(O:Nat->Option Ud)(b:Bool):Ud->Prop:=if b then Nn B O else λ_=>False
def Vt{B:Bs}{O:Nat->Option Ud}{b:Bool}:∀a,at_ B O b a->av B O b a:=λa h=>by
 cases b with
 |true=>exact h
 |false=>exact h.elim
def Yy{B:Bs}{O:Nat->Option Ud}{b c:Bool}(h:b=b8->c=b8):∀a,at_ B O b a->at_ B O c a:=λa z=>by
 cases b with
 |true=>rw[h rfl];exact z
 |false=>exact z.elim
def ZX.rzn{K:Aj}{ml:List Nat}{B:Bs}{O:Nat->Option Ud}{H:Hp}{σ:St}{δ:Ev}(S:ZX K ml B O H σ δ):∀a,rz B a->Nn B O a:=λa h=>by
 rcases h with h|⟨i,h⟩
 ·exact .inl h
 ·exact .inr ⟨i,(S.par.2 i (S.par.1 i a h)).trans h⟩
def ZX.rza{K:Aj}{ml:List Nat}{B:Bs}{O:Nat->Option Ud}{H:Hp}{σ:St}{δ:Ev}(S:ZX K ml B O H σ δ){b:Bool}:∀a,rz B a->av B O b a:=λa h=>by
 cases b with
 |true=>exact S.rzn a h
 |false=>exact⟨S.rzn a h,h⟩
def LY{B:Bs}{O:Nat->Option Ud}{b c:Bool}(h:b=b8->c=b8):∀a,av B O b a->av B O c a:=λa z=>by
 cases b with
 |true=>rw[h rfl];exact z
 |false=>cases c with
  |true=>exact z.1
  |false=>exact z
structure Res(K:Aj)(ml:List Nat)(B:Bs)(O:Nat->Option Ud)(H:Hp)(σ:St)(pu bt bi:Bool)(H':Hp)(δ':Ev)(v:V)(d:cF):Prop where
 sta:ZX K ml B O H' σ δ'
 frm:Fr (OA O) H H'
 pur:pu=b8->Z6 H H'
 rep:aD K (av B O bi) H' (at_ B O bt) v d
abbrev VF:=Ev->Option (cF×Ev)
inductive TVi(K:Aj)(ml:List Nat)(pu bt bi:Bool)(f:VF)(σ:St)(H:Hp)(Q:VK):Prop
 |mk (B:_) (O:_) (δ:_) (d:_) (δ':_) (h0:ZX K ml B O H σ δ) (h1:f δ=b3 (d,δ')) (h2:∀v H',Res K ml B O H σ pu bt bi H' δ' v d->Q v H'):TVi K ml pu bt bi f σ H Q
def TV(K:Aj)(ml:List Nat)(pu bt bi:Bool)(f:VF):TE:=λσ H Q=>TVi K ml pu bt bi f σ H Q
def PE.imp{X:Cx}{e:Uj}{t u:TE}(h:PE X e t)(k:∀σ H Q,u σ H Q->t σ H Q):PE X e u:=λaa s σ H Q I w=>h aa s σ H Q I (k σ H Q w)
def PT.imp{X:Cx}{e:Uj}{t u:TT}(h:PT X e t)(k:∀σ H Q,u σ H Q->t σ H Q):PT X e u:=λaa s σ H Q I w=>h aa s σ H Q I (k σ H Q w)
def PW.imp{X:Cx}{e:Uj}{t u:TT}(h:PW X e t)(k:∀σ H Q,u σ H Q->t σ H Q):PW X e u:=λa aa s σ H Q I w=>h a aa s σ H Q I (k σ H Q w)
def PA.imp{X:Cx}{e:List Uj}{t u:TA}(h:PA X e t)(k:∀σ H Q,u σ H Q->t σ H Q):PA X e u:=λpos aa s σ H Q I w=>h pos aa s σ H Q I (k σ H Q w)
def PS.imp{X:Cx}{e:Up}{t u:TS}(h:PS X e t)(k:∀D σ H,u D σ H->t D σ H):PS X e u:=λaa s σ H D I w=>h aa s σ H D I (k D σ H w)
def V6.imp{X:Cx}{e:List Up}{t u:TS}(h:V6 X e t)(k:∀D σ H,u D σ H->t D σ H):V6 X e u:=λaa s σ H D I w=>h aa s σ H D I (k D σ H w)
section
variable{X:Cx}{K:Aj}{ml:List Nat}{e a b c:Uj}{pa ta ia pb tb ib pc tc ic:Bool}{fa fb fc:VF}{r:R2}{o:cF->cF->Option cF}{B:Bs}{O:Nat->Option Ud}{H H1 H':Hp}{σ:St}{δ δ':Ev}{v:V}{d:cF}
def fC(d:cF):VF:=λδ=>b3 (d,δ)
def Res.refl{pu bt bi:Bool}(S:ZX K ml B O H σ δ)(h:aD K (av B O bi) H (at_ B O bt) v d):Res K ml B O H σ pu bt bi H δ v d:=⟨S,Fr.refl _ _,λ_=>Z6.refl _,h⟩
def ve_c(h:PE X e (tC v))(b:∀N H M,aD K N H M v d):PE X e (TV K ml b8 b8 b8 (fC d)):=h.imp λσ H Q a=>by obtain⟨B,O,δ,d',δ',S,q,k⟩:=a;cases q;exact k v H (Res.refl S (b _ _ _))
def cE{i j pos}:PE X (.Constant (.int i) j pos) (TV K ml b8 b8 b8 (fC (.int i))):=ve_c dC λ_ _ _=>.int i
def Z0{i j pos}:PE X (.Constant (.bool i) j pos) (TV K ml b8 b8 b8 (fC (.bl i))):=ve_c hV λ_ _ _=>.bl i
def ZU{j pos}:PE X (.Constant .none j pos) (TV K ml b8 b8 b8 (fC .non)):=ve_c k9 λ_ _ _=>.non
def bV{i j pos}:PE X (.Constant (.str i) j pos) (TV K ml b8 b8 b8 (fC (.str i))):=ve_c Xr λ_ _ _=>.str i
noncomputable def fV(i:Nat):VF:=λδ=>match δ[i]? with
 |some (.va d)=>b3 (d,δ)
 |_=>b4
noncomputable def fO(i:Nat):VF:=λδ=>match δ[i]? with
 |some (.va d)=>b3 (d,δ)
 |some (.ow d)=>b3 (d,δ)
 |_=>b4
def dF{i:Nat}(h:PE X e (NZ i)):PE X e (TV K ml b8 b8 b8 (fV i)):=h.imp λσ H Q a=>by
 obtain⟨B,O,δ,d',δ',S,q,k⟩:=a;unfold fV at q;split at q
 ·rename_i d hd
  cases q;obtain⟨v,b,r⟩:=S.va i _ hd;exact⟨v,b,k v H (Res.refl S r)⟩
 ·cases q
def lq{i:Nat}(h:PE X e (NZ i)):PE X e (TV K ml b8 ba b8 (fO i)):=h.imp λσ H Q b=>by
 obtain⟨B,O,δ,d',δ',S,q,k⟩:=b;unfold fO at q;split at q
 ·rename_i d hd
  cases q;obtain⟨v,c,r⟩:=S.va i _ hd;exact⟨v,c,k v H (Res.refl S (r.mono (λ_ z=>z) λa z=>z.elim))⟩
 ·rename_i d hd
  cases q;obtain⟨a,c,f,w⟩:=S.ow i _ hd;exact⟨.ref a,f,k _ H (Res.refl S (w.rep λz=>z))⟩
 ·cases q
def Res.live{H2:Hp}{b:V}{c:cF}(R2:Res K ml B O H1 σ pb tb ib H2 δ' b c)(hs:(pb || (ta&&ia))=b8)(h:aD K (av B O ia) H1 (at_ B O ta) v d):aD K (av B O ia) H2 (at_ B O ta) v d:=by
 cases pb with
 |true=>exact h.same (R2.pur rfl)
 |false=>
  have hs:(ta&&ia)=b8:=by simpa using hs
  obtain⟨h1,h2⟩:=(Af _ _).mp hs;subst h1 h2;exact h.fr R2.frm (λa z=>.inr z) λa z=>.inr z
noncomputable def f2(o:cF->cF->Option cF)(fa fb:VF):VF:=λδ=>(fa δ).bind λp=>(fb p.2).bind λq=>(o p.1 q.1).map λc=>(c,q.2)
def PX{δ2:Ev}(h:f2 o fa fb δ=b3 (d,δ2)):∃x δ1 y,fa δ=b3 (x,δ1)/\fb δ1=b3 (y,δ2)/\o x y=b3 d:=by
 unfold f2 at h;cases h1:fa δ with
 |none=>rw[h1]at h;cases h
 |some p=>
  rw[h1]at h;cases h2:fb p.2 with
  |none=>simp[h2]at h
  |some q=>
   simp only[An,h2]at h;obtain⟨c,a,h⟩:=As.mp h;cases h;exact⟨p.1,p.2,q.1,rfl,h2,a⟩
def N4(K:Aj)(r:R2)(o:cF->cF->Option cF):Prop:=∀(H:Hp) (N N' M M':Ud->Prop) (x y:V) (d e c:cF) (Q:VK),aD K N H M x d->aD K N' H M' y e->o d e=b3 c->(∀v,(∀H' N M,aD K N H' M v c)->Q v H)->r x y H Q
def OpC(K:Aj)(r:R2)(o:cF->cF->Option cF):Prop:=∀(H:Hp) (N M M':Ud->Prop) (x y:V) (d e c:cF) (Q:VK),aD K N H M x d->aD K N H M' y e->o d e=b3 c->
 (∀v H',Z6 H H'->(∀M,(∀a,M a->∃o,H a=b3 o)->aD K N H' M v c)->Q v H')->r x y H Q
def OpI(K:Aj)(r:R2)(o:cF->cF->Option cF):Prop:=∀(H:Hp) (N N' M M':Ud->Prop) (x y:V) (d e c:cF) (Q:VK),aD K N H M x d->aD K N' H M' y e->o d e=b3 c->(∀v,aD K N H N v c->Q v H)->r x y H Q
def DV(i:N4 K r o)(hs:(pb || (ta&&ia))=b8){Q:VK}(h:TV K ml (pa&&pb) b8 b8 (f2 o fa fb) σ H Q):tOp r (TV K ml pa ta ia fa) (TV K ml pb tb ib fb) σ H Q:=by
 obtain⟨B,O,δ,d,δ2,S,q,k⟩:=h;obtain⟨x,δ1,y,h1,h2,j⟩:=PX q;refine⟨B,O,δ,x,δ1,S,h1,λf H1 a=>⟨B,O,δ1,y,δ2,a.sta,h2,λe H2 R2=>?_⟩⟩;exact i H2 _ _ _ _ f e x y d Q (R2.live hs a.rep) R2.rep j λv g=>k v H2 ⟨R2.sta,a.frm.trans R2.frm,λz=>by obtain⟨c,b⟩:=(Af _ _).mp z;exact(a.pur c).trans (R2.pur b),g _ _ _⟩
def dO(l:OpC K r o)(hs:(pb || (ta&&ia))=b8){Q:VK}(h:TV K ml (pa&&pb) b8 (ia&&ib) (f2 o fa fb) σ H Q):tOp r (TV K ml pa ta ia fa) (TV K ml pb tb ib fb) σ H Q:=by obtain⟨B,O,δ,d,δ2,S,q,k⟩:=h;obtain⟨x,δ1,y,h1,h2,m⟩:=PX q;refine⟨B,O,δ,x,δ1,S,h1,λi H1 b=>⟨B,O,δ1,y,δ2,b.sta,h2,λg H2 R2=>?_⟩⟩;have p:∀a,av B O (ia&&ib) a->av B O ia a:=LY λz=>((Af _ _).mp z).1;have n:∀a,av B O (ia&&ib) a->av B O ib a:=LY λz=>((Af _ _).mp z).2;refine l H2 (av B O (ia&&ib)) _ _ i g x y d Q ((R2.live hs b.rep).mono p λ_ z=>z) (R2.rep.mono n λ_ z=>z) m λv s c j=>k v s ⟨R2.sta.same c,(b.frm.trans R2.frm).trans c.fr,λz=>?_,j _ λa z=>R2.sta.nin z⟩;obtain⟨f,e⟩:=(Af _ _).mp z;exact((b.pur f).trans (R2.pur e)).trans c
def oA(i:OpI K r o)(hs:(pb || (ta&&ia))=b8){Q:VK}(h:TV K ml (pa&&pb) ia ia (f2 o fa fb) σ H Q):tOp r (TV K ml pa ta ia fa) (TV K ml pb tb ib fb) σ H Q:=by
 obtain⟨B,O,δ,d,δ2,S,q,k⟩:=h;obtain⟨x,δ1,y,h1,h2,j⟩:=PX q;refine⟨B,O,δ,x,δ1,S,h1,λf H1 a=>⟨B,O,δ1,y,δ2,a.sta,h2,λe H2 R2=>?_⟩⟩;exact i H2 _ _ _ _ f e x y d Q (R2.live hs a.rep) R2.rep j λv g=>k v H2 ⟨R2.sta,a.frm.trans R2.frm,λz=>by obtain⟨c,b⟩:=(Af _ _).mp z;exact(a.pur c).trans (R2.pur b),g.mono (λ_ z=>z) Vt⟩
def YB{op:Operator}{pos:Pos}(d:V5 X (Fq op) r)(c:N4 K r o)(f:PE X a (TV K ml pa ta ia fa))(e:PE X b (TV K ml pb tb ib fb))(hs:(pb || (ta&&ia))=b8:=by rfl):PE X (.BinOp a op b pos) (TV K ml (pa&&pb) b8 b8 (f2 o fa fb)):=
 (Yu d f e).imp λ_ _ _ h=>DV c hs h
def Z4{op:Operator}{pos:Pos}(d:V5 X (Fq op) r)(c:OpC K r o)(f:PE X a (TV K ml pa ta ia fa))(e:PE X b (TV K ml pb tb ib fb))(hs:(pb || (ta&&ia))=b8:=by rfl):PE X (.BinOp a op b pos) (TV K ml (pa&&pb) b8 (ia&&ib) (f2 o fa fb)):=
 (Yu d f e).imp λ_ _ _ h=>dO c hs h
def XM{op:CmpOp}{pos:Pos}(d:V5 X (Dd op) r)(c:N4 K r o)(g:PE X a (TV K ml pa ta ia fa))(f:PE X b (TV K ml pb tb ib fb))(e:Hw op b=ba:=by exact K6 _)(hs:(pb || (ta&&ia))=b8:=by rfl):PE X (.Compare a [op] [b] pos) (TV K ml (pa&&pb) b8 b8 (f2 o fa fb)):=
 (lu d g f e).imp λ_ _ _ h=>DV c hs h
def iK{pos:Pos}(e:IxR X r)(d:OpI K r o)(g:PE X a (TV K ml pa ta ia fa))(f:PE X b (TV K ml pb tb ib fb))(c:F6 b)(hs:(pb || (ta&&ia))=b8:=by rfl):PE X (.Subscript a b pos) (TV K ml (pa&&pb) ia ia (f2 o fa fb)):=
 (eN e g f c).imp λ_ _ _ h=>oA d hs h
noncomputable def oI(C:Int->Int->Bool)(g:Int->Int->cF):cF->cF->Option cF
 |.int i,.int j=>if C i j=b8 then b3 (g i j)else b4
 |_,_=>b4
def Yb{C:Int->Int->Bool}{g:Int->Int->cF}{d e c:cF}(h:oI C g d e=b3 c):∃i j,d=.int i/\e=.int j/\C i j=b8/\c=g i j:=by
 unfold oI at h;split at h
 ·split at h
  ·rename_i hc
   cases h;exact⟨_,_,rfl,rfl,hc,rfl⟩
  ·cases h
 ·cases h
def A2{C:Int->Int->Prop}{a:Int->Int->Bool}{g:Int->Int->V}{g':Int->Int->cF}(m:∀i j,a i j=b8->C i j)(l:∀i j N H M,aD K N H M (g i j) (g' i j)):N4 K (rI C g) (oI a g'):=by intro H N N' M M' x y d e c Q f b h k;obtain⟨i,j,rfl,rfl,hc,rfl⟩:=Yb h;cases f.onI;cases b.onI;exact⟨_,_,rfl,rfl,m _ _ hc,k _ λ_ _ _=>l ..⟩
def K7{g:Int->Int->V}{g':Int->Int->cF}(f:∀i j N H M,aD K N H M (g i j) (g' i j)):N4 K (DH g) (oI (λ_ _=>b8) g'):=by intro H N N' M M' x y d e c Q b a h k;obtain⟨i,j,rfl,rfl,hc,rfl⟩:=Yb h;cases b.onI;cases a.onI;exact⟨_,_,rfl,rfl,k _ λ_ _ _=>f ..⟩
noncomputable def cMul(i j:Int):Bool:=(decide (-18446744073709551616<i)&&decide (i<18446744073709551616)) || (decide (-18446744073709551616<j)&&decide (j<18446744073709551616))
noncomputable def cDiv(i j:Int):Bool:=decide (0<j)&&decide (j<1073741824)
def cPow(i j:Int):Bool:=decide (0<=j)&&decide (j<=1000000)&&decide (i.natAbs<18446744073709551616)
abbrev RY:=oI (λ_ _=>b8) λi j=>.int (i-j)
abbrev oMul:=oI cMul λi j=>.int (i*j)
abbrev AX:=oI cDiv λi j=>.int (i/j)
abbrev G6:=oI (λ_ j=>decide (0<j)) λi j=>.int (i % j)
abbrev oPow:=oI cPow λi j=>.int (i ^ j.toNat)
abbrev oLt:=oI (λ_ _=>b8) λi j=>.bl (decide (i<j))
abbrev oLe:=oI (λ_ _=>b8) λi j=>.bl (decide (i<=j))
abbrev oGt:=oI (λ_ _=>b8) λi j=>.bl (decide (j<i))
abbrev oGe:=oI (λ_ _=>b8) λi j=>.bl (decide (j<=i))
def UJ:N4 K (DH λi j=>.int (i-j)) RY:=K7 λi j _ _ _=>.int _
def nF:N4 K (rI CMul λi j=>.int (i*j)) oMul:=A2 (λi j h=>by
 have p:(2:Int) ^ 64=18446744073709551616:=by decide
 unfold CMul;rw[p];simpa[cMul]using h) λi j _ _ _=>.int _
def Ym:N4 K (rI CDiv λi j=>.int (i/j)) AX:=A2 (λi j h=>by show 0<j/\j<1073741824;simpa[cDiv]using h) λi j _ _ _=>.int _
def M7:N4 K (rI (λ_ j=>0<j) λi j=>.int (i % j)) G6:=A2 (λi j h=>by simpa using h) λi j _ _ _=>.int _
def lj:N4 K (rI CPow λi j=>.int (i ^ j.toNat)) oPow:=A2 (λi j h=>by
 have p:(2:Nat) ^ 64=18446744073709551616:=by decide
 unfold CPow;rw[p];simpa[cPow,and_assoc]using h) λi j _ _ _=>.int _
def s_lt:N4 K (DH λi j=>.bl (decide (i<j))) oLt:=K7 λi j _ _ _=>.bl _
def s_le:N4 K (DH λi j=>.bl (decide (i<=j))) oLe:=K7 λi j _ _ _=>.bl _
def s_gt:N4 K (DH λi j=>.bl (decide (j<i))) oGt:=K7 λi j _ _ _=>.bl _
def s_ge:N4 K (DH λi j=>.bl (decide (j<=i))) oGe:=K7 λi j _ _ _=>.bl _
def JB(d:cF):Bool:=d.isD&&Er d.pd
def eqD(d e:cF):Bool:=Jl d.pd e.pd
def YL(d e:cF):Option cF:=if(JB d&&JB e)=b8 then b3 (.bl (eqD d e))else b4
def UT(d e:cF):Option cF:=if(JB d&&JB e)=b8 then b3 (.bl (!eqD d e))else b4
def s_eq:N4 K (rEqD K) YL:=by
 intro H N N' M M' x y d e c Q f b h k;unfold YL at h;split at h
 ·rename_i a
  cases h;simp only[JB,Af]at a;exact⟨d.pd,e.pd,f.dp a.1.1,b.dp a.2.1,a.1.2,a.2.2,k _ λ_ _ _=>.bl _⟩
 ·cases h
def UI:N4 K (rNeD K) UT:=by
 intro H N N' M M' x y d e c Q f b h k;unfold UT at h;split at h
 ·rename_i a
  cases h;simp only[JB,Af]at a;exact⟨d.pd,e.pd,f.dp a.1.1,b.dp a.2.1,a.1.2,a.2.2,k _ λ_ _ _=>.bl _⟩
 ·cases h
noncomputable def isN:cF->Bool
 |.non=>b8
 |_=>ba
def NW:cF->cF->Option cF
 |d,.non=>b3 (.bl (isN d))
 |_,_=>b4
def SM:cF->cF->Option cF
 |d,.non=>b3 (.bl (!isN d))
 |_,_=>b4
def BL{N M:Ud->Prop}(h:aD K N H M v d):decide (v=V.non)=isN d:=by
 cases h<;>simp[isN]
def BP:N4 K (λx y H Q=>y=.non/\Q (.bl (decide (x=.non))) H) NW:=by
  intro H N N' M M' x y d e c Q b a h k;cases a<;>first
    | (cases h
       refine⟨rfl,?_⟩;rw[BL b];exact k _ λ_ _ _=>.bl _)
    |(simp[NW]at h)
def LJ:N4 K (λx y H Q=>y=.non/\Q (.bl (!decide (x=.non))) H) SM:=by
  intro H N N' M M' x y d e c Q b a h k;cases a<;>first
    | (cases h
       refine⟨rfl,?_⟩;rw[BL b];exact k _ λ_ _ _=>.bl _)
    |(simp[SM]at h)
noncomputable def WC:cF->Option (List cF)
 |.tup ds=>b3 ds
 |.lst ds=>b3 ds
 |_=>b4
def aD.seq{N M:Ud->Prop}{ds:List cF}(h:aD K N H M v d)(e:WC d=b3 ds):∃a xs,v=.ref a/\(WW K H a xs∨U6 K H a xs)/\bD K N H xs ds:=by
 cases h<;>first
  |(cases e;rename_i q r;exact⟨_,_,rfl,.inr q,r⟩)
  |(cases e;rename_i q n r;exact⟨_,_,rfl,.inl (WW.of q),r⟩)
  |(cases e;rename_i q r;exact⟨_,_,rfl,.inl q.sq,r⟩)
  |cases e
def iG{N:Ud->Prop}{xs:List V}{ds:List cF}{i:Int}(r:bD K N H xs ds)(h:RG ds i=b3 d):∃v,RG xs i=b3 v/\aD K N H N v d:=by
 unfold RG at h⊢;rw[r.length];cases hi:ixN ds.length i with
 |none=>rw[hi]at h;cases h
 |some j=>
  rw[hi]at h;exact r.get h
end
section
variable{X:Cx}{K:Aj}{ml:List Nat}{e a b c:Uj}{es:List Uj}{pa ta ia pb tb ib pc tc ic pu bt bi ps bs:Bool}{fa fb fc:VF}{r r':R2}{o o':cF->cF->Option cF}{B:Bs}{O:Nat->Option Ud}{H H1 H':Hp}{σ:St}{δ δ':Ev}{v:V}{d:cF}{p:Ud}{pos:Pos}
def ZX.unadd(S:ZX K ml (B.add p) O H σ δ):ZX K ml B O H σ δ where
 len:=S.len
 va:=λi d e=>let ⟨v,a,b⟩:=S.va i d e;⟨v,a,b.mono QC QC⟩
 ow:=λi d e=>let ⟨a,b,c,w⟩:=S.ow i d e;⟨a,b,c,w.mono QC⟩
 dom:=S.dom
 inj:=S.inj
 old:=λi a h=>⟨λz=>(S.old i a h).1 (.inl z),(S.old i a h).2⟩
 zin:=λa h=>S.zin a (.inl h)
 frm:=S.frm
 par:=S.par
 pin:=S.pin
 kep:=λp h=>(S.kep p h).mono QC QC
structure ResN(K:Aj)(ml:List Nat)(B:Bs)(O:Nat->Option Ud)(H:Hp)(σ:St)(pu:Bool)(H':Hp)(δ':Ev)(p:Ud)(d:cF):Prop where
 sta:ZX K ml (B.add p) O H' σ δ'
 frm:Fr (OA O) H H'
 pur:pu=b8->Z6 H H'
 own:N5 K (Nn (B.add p) O) H' p d
 nz:¬Nn B O p
 h0:B.H0 p=b4
inductive TNi(K:Aj)(ml:List Nat)(pu:Bool)(f:VF)(σ:St)(H:Hp)(Q:VK):Prop
 |mk (B:_) (O:_) (δ:_) (d:_) (δ':_) (h0:ZX K ml B O H σ δ) (h1:f δ=b3 (d,δ')) (h2:∀p H',ResN K ml B O H σ pu H' δ' p d->Q (.ref p) H'):TNi K ml pu f σ H Q
def TN(K:Aj)(ml:List Nat)(pu:Bool)(f:VF):TE:=λσ H Q=>TNi K ml pu f σ H Q
def bF{f:VF}(h:PE X e (TN K ml pu f)):PE X e (TV K ml pu b8 b8 f):=h.imp λσ H Q ⟨B,O,δ,d,δ',S,q,k⟩=>
 ⟨B,O,δ,d,δ',S,q,λp H' R=>k _ H' ⟨R.sta.unadd,R.frm,R.pur,(R.own.mono QC).rep R.nz⟩⟩
def mkN{xs:List V}{ds:List cF}(S:ZX K ml B O H1 σ δ')(f:Fr (OA O) H H1)(s:pu=b8->Z6 H H1)(a:H1 p=b4)(r:bD K (Nn B O) H1 xs ds):ResN K ml B O H σ pu (upd H1 p (.lst xs)) δ' p (.lst ds):=
 ⟨S.laid a,f.trans (bZ a).fr,λz=>(s z).trans (bZ a),.lst bK ((r.away a _ _ U1).same (bZ a)),S.new a,S.fresh a⟩
def mkD(S:ZX K ml B O H1 σ δ')(f:Fr (OA O) H H1)(s:pu=b8->Z6 H H1)(a:H1 p=b4):ResN K ml B O H σ pu (upd H1 p (.dK [])) δ' p (.dct [] []):=
 ⟨S.laid a,f.trans (bZ a).fr,λz=>(s z).trans (bZ a),.dct (kvs:=[]) bK .nil,S.new a,S.fresh a⟩
def gS:PE X (.Dict [] [] pos) (TN K ml b8 (fC (.dct [] []))):=FG.imp λσ H Q a=>by obtain⟨B,O,δ,d,δ',S,q,k⟩:=a;cases q;exact λp b=>k p _ (mkD S (Fr.refl _ _) (λ_=>Z6.refl _) b)
abbrev MH:=Ev->Option (List cF×Ev)
structure ResA(K:Aj)(ml:List Nat)(B:Bs)(O:Nat->Option Ud)(H:Hp)(σ:St)(pu b:Bool)(H':Hp)(δ':Ev)(vs:List V)(ds:List cF):Prop where
 sta:ZX K ml B O H' σ δ'
 frm:Fr (OA O) H H'
 pur:pu=b8->Z6 H H'
 rep:bD K (av B O b) H' vs ds
inductive TAVi(K:Aj)(ml:List Nat)(pu b:Bool)(f:MH)(σ:St)(H:Hp)(Q:List V->Hp->Prop):Prop
 |mk (B:_) (O:_) (δ:_) (d:_) (δ':_) (h0:ZX K ml B O H σ δ) (h1:f δ=b3 (d,δ')) (h2:∀vs H',ResA K ml B O H σ pu b H' δ' vs d->Q vs H'):TAVi K ml pu b f σ H Q
def TAV(K:Aj)(ml:List Nat)(pu b:Bool)(f:MH):TA:=λσ H Q=>TAVi K ml pu b f σ H Q
def bP:MH:=λδ=>b3 ([],δ)
noncomputable def cD(fa:VF)(fs:MH):MH:=λδ=>(fa δ).bind λp=>(fs p.2).map λq=>(p.1::q.1,q.2)
def mI{fs:MH}{ds:List cF}(h:cD fa fs δ=b3 (ds,δ')):∃x δ1 xs,fa δ=b3 (x,δ1)/\fs δ1=b3 (xs,δ')/\ds=x::xs:=by
 unfold cD at h;cases h1:fa δ with
 |none=>rw[h1]at h;cases h
 |some p=>
  rw[h1]at h;cases h2:fs p.2 with
  |none=>simp[h2]at h
  |some q=>
   simp only[An,h2]at h;cases h;exact⟨p.1,p.2,q.1,rfl,h2,rfl⟩
def bY:PA X [] (TAV K ml b8 b8 bP):=ZB.imp λσ H Q a=>by obtain⟨B,O,δ,d,δ',S,q,k⟩:=a;cases q;exact k [] H ⟨S,Fr.refl _ _,λ_=>Z6.refl _,.nil⟩
def cG{fs:MH}(n:PE X a (TV K ml pa ta ia fa))(m:PA X es (TAV K ml ps bs fs))(hs:SE X a es:=by rfl)(hl:(ps || (ta&&ia))=b8:=by rfl)(l:ta=b8:=by rfl):
  PA X (a::es) (TAV K ml (pa&&ps) (ta&&ia&&bs) (cD fa fs)):=(aW n m hs).imp λσ H Q e=>by
 obtain⟨B,O,δ,d,δ2,S,q,k⟩:=e;obtain⟨x,δ1,xs,h1,h2,rfl⟩:=mI q;refine⟨B,O,δ,x,δ1,S,h1,λj H1 b=>⟨B,O,δ1,xs,δ2,b.sta,h2,λvs H2 R2=>k _ H2 ⟨R2.sta,b.frm.trans R2.frm,λz=>?_,?_⟩⟩⟩
 ·obtain⟨i,f⟩:=(Af _ _).mp z
  exact(b.pur i).trans (R2.pur f)
 ·have g : ∀ c,((ta && ia && bs) = b8 -> c = b8) -> ∀ a,av B O (ta && ia && bs) a -> av B O c a := λc h => LY h
  have r:=g ta λz=>by simp only[Af]at z;exact z.1.1
  have p:=g ia λz=>by simp only[Af]at z;exact z.1.2
  have o:=g bs λz=>by simp only[Af]at z;exact z.2
  refine .cons ?_ (R2.rep.mono o);have h:aD K (av B O ia) H2 (at_ B O ta) j x:=by
   cases ps with
   |true=>exact b.rep.same (R2.pur rfl)
   |false=>
    have hs:(ta&&ia)=b8:=by simpa using hl
    obtain⟨h1,h2⟩:=(Af _ _).mp hs;subst h1 h2;exact b.rep.fr R2.frm (λa z=>.inr z) λa z=>.inr z
  subst l;exact h.mono p r
def ZX.lone(S:ZX K ml B O H σ δ){i:Nat}{x:cF}(e:i∉ml)(h:fO i δ=b3 (x,δ')):δ'=δ/\∃v,σ[i]?=b3 (b3 v)/\aD K (av B O ba) H (av B O ba) v x:=by
 unfold fO at h;split at h
 ·rename_i d hd
  cases h;obtain⟨v,b,r⟩:=S.va i _ hd;exact⟨rfl,v,b,r.mono (λa z=>z.1) λa z=>z.1⟩
 ·rename_i d hd
  cases h;obtain⟨a,b,f,w⟩:=S.ow i _ hd;refine⟨rfl,.ref a,f,(w.mono λa z=>z.1).rep λz=>?_⟩;rcases z.2 with z|⟨j,z⟩
  ·exact(S.old i a b).1 z
  ·have c:=S.par.1 j a z
   have:i=j:=S.inj i j a b ((S.par.2 j c).trans z)
   exact e (this▸c)
 ·cases h
noncomputable def aH(fs:MH):VF:=λδ=>(fs δ).bind λp=>if p.1.length<=16777216 then b3 (.tup p.1,p.2)else b4
noncomputable def Z7(fs:MH):VF:=λδ=>(fs δ).bind λp=>if p.1.length<=16777216 then b3 (.lst p.1,p.2)else b4
def KQ{fs:MH}{g:List cF->cF}(h:((fs δ).bind λp=>if p.1.length<=16777216 then b3 (g p.1,p.2)else b4)=b3 (d,δ')):∃ds,fs δ=b3 (ds,δ')/\ds.length<=16777216/\d=g ds:=by
 cases h1:fs δ with
 |none=>rw[h1]at h;cases h
 |some p=>
  rw[h1]at h;have h:(if p.1.length<=16777216 then b3 (g p.1,p.2)else b4)=b3 (d,δ'):=h;split at h
  ·cases h
   exact⟨p.1,rfl,by assumption,rfl⟩
  ·cases h
def bI{x1}{fs:MH}(h:PA X es (TAV K ml pu bs fs)):PE X (.Tuple es x1 pos) (TV K ml pu b8 bs (aH fs)):=(C8 h).imp λσ H Q b=>by obtain⟨B,O,δ,d,δ',S,q,k⟩:=b;obtain⟨ds,h1,hl,rfl⟩:=KQ (g:=cF.tup) q;refine⟨B,O,δ,ds,δ',S,h1,λvs H1 R=>⟨by rw[R.rep.length,Cc];exact hl,λp a=>k _ _ ⟨R.sta.same (bZ a),R.frm.trans (bZ a).fr,λz=>(R.pur z).trans (bZ a),.tup (U6.of bK) (R.rep.same (bZ a))⟩⟩⟩
def cW{fs:MH}(h:PA X es (TAV K ml pu bs fs)):PE X (.List es pos) (TV K ml pu b8 bs (Z7 fs)):=(Xv h).imp λσ H Q b=>by obtain⟨B,O,δ,d,δ',S,q,k⟩:=b;obtain⟨ds,h1,hl,rfl⟩:=KQ (g:=cF.lst) q;refine⟨B,O,δ,ds,δ',S,h1,λvs H1 R=>⟨by rw[R.rep.length,Cc];exact hl,λp a=>k _ _ ⟨R.sta.same (bZ a),R.frm.trans (bZ a).fr,λz=>(R.pur z).trans (bZ a),.lst bK (R.sta.new a) (R.rep.same (bZ a))⟩⟩⟩
def aS{fs:MH}(h:PA X es (TAV K ml pu b8 fs)):PE X (.List es pos) (TN K ml pu (Z7 fs)):=(Xv h).imp λσ H Q a=>by obtain⟨B,O,δ,d,δ',S,q,k⟩:=a;obtain⟨ds,h1,hl,rfl⟩:=KQ (g:=cF.lst) q;exact⟨B,O,δ,ds,δ',S,h1,λvs H1 R=>⟨by rw[R.rep.length,Cc];exact hl,λp b=>k p _ (mkN R.sta R.frm R.pur b R.rep)⟩⟩
abbrev VB:=Ev->Option (Bool×Ev)
structure ResB(K:Aj)(ml:List Nat)(B:Bs)(O:Nat->Option Ud)(H:Hp)(σ:St)(pu:Bool)(H':Hp)(δ':Ev):Prop where
 sta:ZX K ml B O H' σ δ'
 frm:Fr (OA O) H H'
 pur:pu=b8->Z6 H H'
inductive TBi(K:Aj)(ml:List Nat)(pu:Bool)(f:VB)(σ:St)(H:Hp)(Q:Bool->Hp->Prop):Prop
 |mk (B:_) (O:_) (δ:_) (k:_) (δ':_) (h0:ZX K ml B O H σ δ) (h1:f δ=b3 (k,δ')) (h2:∀H',ResB K ml B O H σ pu H' δ'->Q k H'):TBi K ml pu f σ H Q
def TB(K:Aj)(ml:List Nat)(pu:Bool)(f:VB):TT:=λσ H Q=>TBi K ml pu f σ H Q
noncomputable def fB(f:VF):VB:=λδ=>(f δ).bind λp=>match p.1 with
 |.bl k=>b3 (k,p.2)
 |_=>b4
def eI{f:VF}{k:Bool}(h:fB f δ=b3 (k,δ')):f δ=b3 (.bl k,δ'):=by
 unfold fB at h;cases h1:f δ with
 |none=>rw[h1]at h;cases h
 |some p=>
  obtain⟨x,δ1⟩:=p;rw[h1]at h;cases x<;>first
   |(cases h;rfl)
   |cases h
def HK{f:VF}{t:TE}(a:∀σ H Q,TV K ml pu bt bi f σ H Q->t σ H Q){Q:Bool->Hp->Prop}(h:TB K ml pu (fB f) σ H Q):t σ H λx H'=>∃k,x=.bl k/\Q k H':=by obtain⟨B,O,δ,k,δ',S,q,w⟩:=h;refine a σ H _ ⟨B,O,δ,.bl k,δ',S,eI q,λv H' R=>⟨k,?_,w H' ⟨R.sta,R.frm,R.pur⟩⟩⟩;exact R.rep.onB
def a8{op:CmpOp}(d:V5 X (Dd op) r)(c:N4 K r o)(g:PE X a (TV K ml pa ta ia fa))(f:PE X b (TV K ml pb tb ib fb))(e:Hw op b=ba:=by exact K6 _)(hs:(pb || (ta&&ia))=b8:=by rfl):PT X (.Compare a [op] [b] pos) (TB K ml (pa&&pb) (fB (f2 o fa fb))):=
 (iE d g f e).imp λ_ _ _ h=>HK (λ_ _ _=>DV c hs) h
def aP{f:VF}(h:PE X e (TV K ml pu bt bi f))(b:∀a,isTrue e X.env a=(do let v<-a;Mk e.pos;Ss [v] (truthy v)):=by intro _;rfl):PT X e (TB K ml pu (fB f)):=
 (Yz h b).imp λ_ _ _ h=>HK (λ_ _ _ z=>z) h
noncomputable def QT(x y:VB):VB:=λδ=>(x δ).bind λp=>if p.1=b8 then y p.2 else b3 (ba,p.2)
noncomputable def MS(x y:VB):VB:=λδ=>(x δ).bind λp=>if p.1=b8 then b3 (b8,p.2)else y p.2
noncomputable def YE(x:VB):VB:=λδ=>(x δ).map λp=>(!p.1,p.2)
def ResB.refl(S:ZX K ml B O H σ δ):ResB K ml B O H σ pu H δ:=⟨S,Fr.refl _ _,λ_=>Z6.refl _⟩
def jT{x y:VB}{Q:Bool->Hp->Prop}(h:TB K ml (pa&&pb) (QT x y) σ H Q):tAnd (TB K ml pa x) (TB K ml pb y) σ H Q:=by
 obtain⟨B,O,δ,k,δ',S,q,w⟩:=h;unfold QT at q;obtain⟨⟨b,δ1⟩,h1,q⟩:=Ac.mp q;refine⟨B,O,δ,b,δ1,S,h1,λH1 a=>?_⟩;cases b with
 |true=>
  have q:y δ1=b3 (k,δ'):=q;exact NO ⟨B,O,δ1,k,δ',a.sta,q,λH2 R2=>w H2 ⟨R2.sta,a.frm.trans R2.frm,λz=>by obtain⟨d,c⟩:=(Af _ _).mp z;exact(a.pur d).trans (R2.pur c)⟩⟩
 |false=>
  have q:b3 (ba,δ1)=b3 (k,δ'):=q;cases q;exact NN (w H1 ⟨a.sta,a.frm,λz=>a.pur ((Af _ _).mp z).1⟩)
def dG{x y:VB}{Q:Bool->Hp->Prop}(h:TB K ml (pa&&pb) (MS x y) σ H Q):tOr (TB K ml pa x) (TB K ml pb y) σ H Q:=by
 obtain⟨B,O,δ,k,δ',S,q,w⟩:=h;unfold MS at q;obtain⟨⟨b,δ1⟩,h1,q⟩:=Ac.mp q;refine⟨B,O,δ,b,δ1,S,h1,λH1 a=>?_⟩;cases b with
 |false=>
  have q:y δ1=b3 (k,δ'):=q;exact NN ⟨B,O,δ1,k,δ',a.sta,q,λH2 R2=>w H2 ⟨R2.sta,a.frm.trans R2.frm,λz=>by obtain⟨d,c⟩:=(Af _ _).mp z;exact(a.pur d).trans (R2.pur c)⟩⟩
 |true=>
  have q:b3 (b8,δ1)=b3 (k,δ'):=q;cases q;exact NO (w H1 ⟨a.sta,a.frm,λz=>a.pur ((Af _ _).mp z).1⟩)
def aB{x:VB}(h:PT X a (TB K ml pu x)):PT X (.UnaryOp .Not a pos) (TB K ml pu (YE x)):=(dE h).imp λσ H Q b=>by obtain⟨B,O,δ,k,δ',S,q,w⟩:=b;unfold YE at q;obtain⟨p,h1,q⟩:=As.mp q;cases q;exact⟨B,O,δ,p.1,p.2,S,h1,w⟩
def RD{x:VB}(h:PT X a (TB K ml pu x)):PW X (.BoolOp .And [a] pos) (TB K ml pu x):=iJ h
def YK{x:VB}(h:PT X a (TB K ml pu x)):PW X (.BoolOp .Or [a] pos) (TB K ml pu x):=jX h
def QF{x y:VB}(d:PT X a (TB K ml pa x))(c:PW X (.BoolOp .And (b::es) pos) (TB K ml pb y)):PW X (.BoolOp .And (a::b::es) pos) (TB K ml (pa&&pb) (QT x y)):=(nC d c).imp λ_ _ _ h=>jT h
def XV{x y:VB}(d:PT X a (TB K ml pa x))(c:PW X (.BoolOp .Or (b::es) pos) (TB K ml pb y)):PW X (.BoolOp .Or (a::b::es) pos) (TB K ml (pa&&pb) (MS x y)):=(Zd d c).imp λ_ _ _ h=>dG h
def WD{x:VB}(h:PW X e (TB K ml pu x)):PT X e (TB K ml pu x):=h.pt
noncomputable def UD(x y:VF):VF:=λδ=>(x δ).bind λp=>match p.1 with
 |.bl b8=>y p.2
 |.bl ba=>b3 (.bl ba,p.2)
 |_=>b4
def WT{op}{f:VF}(h:PE X a (TV K ml pu bt bi f)):PE X (.BoolOp op [a] pos) (TV K ml pu bt bi f):=nS h
def XX(m:PE X a (TV K ml pa ta ia fa))(l:PE X (.BoolOp .And (b::es) pos) (TV K ml pb tb ib fb)):PE X (.BoolOp .And (a::b::es) pos) (TV K ml (pa&&pb) tb ib (UD fa fb)):=(l6 m l).imp λσ H Q f=>by
 obtain⟨B,O,δ,d,δ',S,q,k⟩:=f;unfold UD at q;obtain⟨⟨x,δ1⟩,h1,q⟩:=Ac.mp q;refine⟨B,O,δ,x,δ1,S,h1,λj H1 c=>?_⟩;cases x with
 |bl e=>
  have n:j=.bl e:=c.rep.onB;refine⟨e,n,?_⟩;cases e with
  |true=>
   exact NO ⟨B,O,δ1,d,δ',c.sta,q,λi H2 R2=>k i H2 ⟨R2.sta,c.frm.trans R2.frm,λz=>by obtain⟨h,g⟩:=(Af _ _).mp z;exact(c.pur h).trans (R2.pur g),R2.rep⟩⟩
  |false=>
   cases q;exact NN (k _ H1 ⟨c.sta,c.frm,λz=>c.pur ((Af _ _).mp z).1,.bl _⟩)
 |_=>cases q
def GQ(t:VB)(x y:VF):VF:=λδ=>(t δ).bind λp=>if p.1=b8 then x p.2 else y p.2
def VM{t:VB}(m:PT X c (TB K ml pc t))(o:PE X a (TV K ml pa ta ia fa))(n:PE X b (TV K ml pb tb ib fb)):PE X (.IfExp c a b pos) (TV K ml (pc&&pa&&pb) (ta&&tb) (ia&&ib) (GQ t fa fb)):=(K8 m o n).imp λσ H Q g=>by
 obtain⟨B,O,δ,d,δ',S,q,k⟩:=g;unfold GQ at q;obtain⟨⟨i,δ1⟩,h1,q⟩:=Ac.mp q;refine⟨B,O,δ,i,δ1,S,h1,λH1 e=>?_⟩;have l:∀c,((ta&&tb)=b8->c=b8)->∀a,at_ B O (ta&&tb) a->at_ B O c a:=λc h=>Yy h;have j:∀c,((ia&&ib)=b8->c=b8)->∀a,av B O (ia&&ib) a->av B O c a:=λc h=>LY h;cases i with
 |true=>
  exact NO ⟨B,O,δ1,d,δ',e.sta,q,λf H2 R2=>k f H2 ⟨R2.sta,e.frm.trans R2.frm,λz=>by simp only[Af]at z;exact(e.pur z.1.1).trans (R2.pur z.1.2),R2.rep.mono (j _ λz=>((Af _ _).mp z).1) (l _ λz=>((Af _ _).mp z).1)⟩⟩
 |false=>
  exact NN ⟨B,O,δ1,d,δ',e.sta,q,λf H2 R2=>k f H2 ⟨R2.sta,e.frm.trans R2.frm,λz=>by simp only[Af]at z;exact(e.pur z.1.1).trans (R2.pur z.2),R2.rep.mono (j _ λz=>((Af _ _).mp z).2) (l _ λz=>((Af _ _).mp z).2)⟩⟩
noncomputable def f3(o o':cF->cF->Option cF)(fa fb fc:VF):VF:=λδ=>(fa δ).bind λp=>(fb p.2).bind λq=>(o p.1 q.1).bind λz=>match z with
 |.bl b8=>(fc q.2).bind λs=>(o' q.1 s.1).map λu=>(u,s.2)
 |.bl ba=>b3 (.bl ba,q.2)
 |_=>b4
def FV(w:N4 K r o)(l:N4 K r' o')(hs:(pb || (ta&&ia))=b8)(j:(pc || (tb&&ib))=b8){Q:VK}(h:TV K ml (pa&&pb&&pc) b8 b8 (f3 o o' fa fb fc) σ H Q):DR r r' (TV K ml pa ta ia fa) (TV K ml pb tb ib fb) (TV K ml pc tc ic fc) σ H Q:=by
 obtain⟨B,O,δ,d,b,S,q,k⟩:=h;unfold f3 at q;obtain⟨⟨x,δ1⟩,h1,q⟩:=Ac.mp q;cases h2:fb δ1 with
 |none=>simp[h2]at q
 |some p2=>
  obtain⟨y,δ2⟩:=p2;simp only[An,h2]at q;refine⟨B,O,δ,x,δ1,S,h1,λt H1 a=>⟨B,O,δ1,y,δ2,a.sta,h2,λm H2 R2=>?_⟩⟩;obtain⟨z,D,q⟩:=Ac.mp q;refine w H2 _ _ _ _ t m x y z _ (R2.live hs a.rep) R2.rep D λv c=>?_;have c:=c (λ_=>b4) (λ_=>True) λ_=>True;cases z with
  |bl i=>
   have E:v=.bl i:=c.onB;refine⟨i,E,?_⟩;cases i with
   |false=>
    cases q;exact NN (k _ H2 ⟨R2.sta,a.frm.trans R2.frm,λz=>by simp only[Af]at z;exact(a.pur z.1.1).trans (R2.pur z.1.2),.bl _⟩)
   |true=>
    have q:((fc δ2).bind λs=>(o' y s.1).map λu=>(u,s.2))=b3 (d,b):=q;obtain⟨⟨g,f⟩,C,q⟩:=Ac.mp q;have q:((o' y g).map λu=>(u,f))=b3 (d,b):=q;obtain⟨u,A,q⟩:=As.mp q;cases q;refine NO ⟨B,O,δ2,g,_,R2.sta,C,λp n e=>?_⟩;exact l n _ _ _ _ m p y g d Q (e.live j R2.rep) e.rep A λv c=>k v n ⟨e.sta,(a.frm.trans R2.frm).trans e.frm,λz=>by simp only[Af]at z;exact((a.pur z.1.1).trans (R2.pur z.1.2)).trans (e.pur z.2),c _ _ _⟩
  |_=>cases q
def nk{op d:CmpOp}(j:V5 X (Dd op) r)(g:V5 X (Dd d) r')(i:N4 K r o)(e:N4 K r' o')(m:PE X a (TV K ml pa ta ia fa))(l:PE X b (TV K ml pb tb ib fb))(hc:PE X c (TV K ml pc tc ic fc))(k:Rk [op,d] [b,c]=ba:=by with_unfolding_all rfl)(hs:(pb || (ta&&ia))=b8:=by rfl)(f:(pc || (tb&&ib))=b8:=by rfl):PE X (.Compare a [op,d] [b,c] pos) (TV K ml (pa&&pb&&pc) b8 b8 (f3 o o' fa fb fc)):=
 (mR j g m l hc k).imp λ_ _ _ h=>FV i e hs f h
def lK{op d:CmpOp}(j:V5 X (Dd op) r)(g:V5 X (Dd d) r')(i:N4 K r o)(e:N4 K r' o')(m:PE X a (TV K ml pa ta ia fa))(l:PE X b (TV K ml pb tb ib fb))(hc:PE X c (TV K ml pc tc ic fc))(k:Rk [op,d] [b,c]=ba:=by with_unfolding_all rfl)(hs:(pb || (ta&&ia))=b8:=by rfl)(f:(pc || (tb&&ib))=b8:=by rfl):PT X (.Compare a [op,d] [b,c] pos) (TB K ml (pa&&pb&&pc) (fB (f3 o o' fa fb fc))):=
 (gY j g m l hc k).imp λ_ _ _ h=>HK (λ_ _ _=>FV i e hs f) h
end
section
variable{X:Cx}{K:Aj}{ml:List Nat}{e a b c:Uj}{es:List Uj}{pa ta ia pb tb ib pc tc ic pu bt bi ps bs:Bool}{fa fb fc:VF}{B:Bs}{O:Nat->Option Ud}{H H1 H':Hp}{σ:St}{δ δ':Ev}{v:V}{d:cF}{p:Ud}{pos:Pos}
noncomputable def f1(o:cF->Option cF)(fa:VF):VF:=λδ=>(fa δ).bind λp=>(o p.1).map λc=>(c,p.2)
def PV{o:cF->Option cF}(h:f1 o fa δ=b3 (d,δ')):∃x,fa δ=b3 (x,δ')/\o x=b3 d:=by
 unfold f1 at h;cases h1:fa δ with
 |none=>rw[h1]at h;cases h
 |some p=>
  rw[h1]at h;have h:((o p.1).map λc=>(c,p.2))=b3 (d,δ'):=h;obtain⟨c,a,h⟩:=As.mp h;cases h;exact⟨p.1,rfl,a⟩
abbrev RC:=List V->Hp->VK->Prop
def CalS(K:Aj)(r:RC)(o:cF->Option cF):Prop:=∀(H:Hp) (N M:Ud->Prop) (x:V) (d c:cF) (Q:VK),aD K N H M x d->o d=b3 c->(∀v,(∀H' N M,aD K N H' M v c)->Q v H)->r [x] H Q
def CalC(K:Aj)(r:RC)(o:cF->Option cF):Prop:=∀(H:Hp) (N M:Ud->Prop) (x:V) (d c:cF) (Q:VK),aD K N H M x d->o d=b3 c->
 (∀v H',Z6 H H'->(∀M,(∀a,M a->∃o,H a=b3 o)->aD K N H' M v c)->Q v H')->r [x] H Q
def CalN(K:Aj)(r:RC)(o:cF->Option cF):Prop:=∀(H:Hp) (N M:Ud->Prop) (x:V) (d c:cF) (Q:VK),aD K N H M x d->o d=b3 c->
 (∀p xs ds,H p=b4->bD K N H xs ds->c=.lst ds->Q (.ref p) (upd H p (.lst xs)))->r [x] H Q
def J8(K:Aj)(r:RC)(o:cF->cF->Option cF):Prop:=∀(H:Hp) (N N' M M':Ud->Prop) (x y:V) (d e c:cF) (Q:VK),aD K N H M x d->aD K N' H M' y e->o d e=b3 c->(∀v,(∀H' N M,aD K N H' M v c)->Q v H)->r [x,y] H Q
def iA{r:RC}{o:cF->Option cF}(e:CalS K r o){Q:VK}(h:TV K ml pa b8 b8 (f1 o fa) σ H Q):tCB r (JP (TV K ml pa ta ia fa) tNil) σ H Q:=by obtain⟨B,O,δ,d,δ',S,q,k⟩:=h;obtain⟨x,h1,h2⟩:=PV q;exact⟨B,O,δ,x,δ',S,h1,λb H1 a=>e H1 _ _ b x d Q a.rep h2 λv c=>k v H1 ⟨a.sta,a.frm,a.pur,c _ _ _⟩⟩
def lg{r:RC}{o:cF->Option cF}(g:CalC K r o){Q:VK}(h:TV K ml pa b8 ia (f1 o fa) σ H Q):tCB r (JP (TV K ml pa ta ia fa) tNil) σ H Q:=by obtain⟨B,O,δ,d,δ',S,q,k⟩:=h;obtain⟨x,h1,h2⟩:=PV q;exact⟨B,O,δ,x,δ',S,h1,λe H1 b=>g H1 _ _ e x d Q b.rep h2 λv H2 c f=>k v H2 ⟨b.sta.same c,b.frm.trans c.fr,λz=>(b.pur z).trans c,f _ λa z=>b.sta.nin z⟩⟩
def JR{r:RC}{o:cF->Option cF}(f:CalN K r o){Q:VK}(h:TN K ml pa (f1 o fa) σ H Q):tCB r (JP (TV K ml pa ta b8 fa) tNil) σ H Q:=by obtain⟨B,O,δ,d,δ',S,q,k⟩:=h;obtain⟨x,h1,h2⟩:=PV q;refine⟨B,O,δ,x,δ',S,h1,λb H1 a=>f H1 _ _ b x d Q a.rep h2 λp xs ds e c g=>?_⟩;subst g;exact k p _ (mkN a.sta a.frm a.pur e c)
def hJ{r:RC}{o:cF->cF->Option cF}(i:J8 K r o)(hs:(pb || (ta&&ia))=b8){Q:VK}(h:TV K ml (pa&&pb) b8 b8 (f2 o fa fb) σ H Q):tCB r (JP (TV K ml pa ta ia fa) (JP (TV K ml pb tb ib fb) tNil)) σ H Q:=by
 obtain⟨B,O,δ,d,δ2,S,q,k⟩:=h;obtain⟨x,δ1,y,h1,h2,j⟩:=PX q;refine⟨B,O,δ,x,δ1,S,h1,λf H1 a=>⟨B,O,δ1,y,δ2,a.sta,h2,λe H2 R2=>?_⟩⟩;exact i H2 _ _ _ _ f e x y d Q (R2.live hs a.rep) R2.rep j λv g=>k v H2 ⟨R2.sta,a.frm.trans R2.frm,λz=>by obtain⟨c,b⟩:=(Af _ _).mp z;exact(a.pur c).trans (R2.pur b),g _ _ _⟩
section
variable{x:Ug}{p':Pos}{id T:String}{r:RC}
def LP{o:cF->Option cF}(hc:ZH X (.builtin id) r)(e:CalS K r o)(i:Gl X x)(g:X.mg x=b4)(d:Bp x=b3 (.builtin id))(j:PE X a (TV K ml pa ta ia fa))(f:x≠ "__name__":=by decide)(b:ND x:=by decide)(c:SE X a []:=by rfl):PE X (.Call (.Name x p') [a] [] pos) (TV K ml pa b8 b8 (f1 o fa)):=
 (OY hc i g d (aW j ZB c) f b c).imp λ_ _ _ h=>iA e h
def WU{o:cF->cF->Option cF}(hc:ZH X (.builtin id) r)(i:J8 K r o)(l:Gl X x)(k:X.mg x=b4)(g:Bp x=b3 (.builtin id))(n:PE X a (TV K ml pa ta ia fa))(m:PE X b (TV K ml pb tb ib fb))(j:x≠ "__name__":=by decide)(e:ND x:=by decide)(f:SE X a [b]:=by rfl)(d:SE X b []:=by rfl)(c:(Ei pos (Uh [b] X.env)).any (·.1)=ba:=by rfl)(hs:(pb || (ta&&ia))=b8:=by rfl):PE X (.Call (.Name x p') [a,b] [] pos) (TV K ml (pa&&pb) b8 b8 (f2 o fa fb)):=
 (OY hc l k g (aW n (aW m ZB d) f) j e f c).imp λ_ _ _ h=>hJ i hs h
def PH{o:cF->Option cF}(hc:ZH X (.type T) r)(e:CalC K r o)(i:Gl X x)(g:X.mg x=b4)(d:Bp x=b3 (.type T))(j:PE X a (TV K ml pa ta ia fa))(f:x≠ "__name__":=by decide)(b:ND x:=by decide)(c:SE X a []:=by rfl):PE X (.Call (.Name x p') [a] [] pos) (TV K ml pa b8 ia (f1 o fa)):=
 (VQ hc i g d (aW j ZB c) f b c).imp λ_ _ _ h=>lg e h
def Ys{o:cF->Option cF}(hc:ZH X (.type T) r)(e:CalN K r o)(i:Gl X x)(g:X.mg x=b4)(d:Bp x=b3 (.type T))(j:PE X a (TV K ml pa ta b8 fa))(f:x≠ "__name__":=by decide)(b:ND x:=by decide)(c:SE X a []:=by rfl):PE X (.Call (.Name x p') [a] [] pos) (TN K ml pa (f1 o fa)):=
 (VQ hc i g d (aW j ZB c) f b c).imp λ_ _ _ h=>JR e h
def kj{o:cF->Option cF}(hc:ZH X (.builtin id) r)(e:CalN K r o)(i:Gl X x)(g:X.mg x=b4)(d:Bp x=b3 (.builtin id))(j:PE X a (TV K ml pa ta b8 fa))(f:x≠ "__name__":=by decide)(b:ND x:=by decide)(c:SE X a []:=by rfl):PE X (.Call (.Name x p') [a] [] pos) (TN K ml pa (f1 o fa)):=
 (OY hc i g d (aW j ZB c) f b c).imp λ_ _ _ h=>JR e h
end
noncomputable def ZG:cF->Option cF
 |.tup ds=>b3 (.int ds.length)
 |.lst ds=>b3 (.int ds.length)
 |.str z=>if z.length<=16777216 then b3 (.int z.length)else b4
 |_=>b4
def rLen(K:Aj):RC:=λxs H Q=>(∃p ys,xs=[.ref p]/\(WW K H p ys∨U6 K H p ys)/\Q (.int ys.length) H)∨∃z,xs=[.str z]/\z.length<=sizeLine/\Q (.int z.length) H
def kH(h:X.K=K:=by rfl):ZH X (.builtin "len") (rLen K):=by subst h;exact GC.or GD
def ky:CalS K (rLen K) ZG:=by
  intro H N M x d c Q b h k;cases d<;>first
    | (rename_i ds
       obtain⟨a,xs,rfl,sq,r⟩:=b.seq rfl;cases h;refine .inl ⟨a,xs,rfl,sq,?_⟩;rw[r.length];exact k _ λ_ _ _=>.int _)
    | (cases b.onS
       simp only[ZG]at h;split at h
       · cases h
         exact .inr ⟨_,rfl,by rw[Cc];assumption,k _ λ_ _ _=>.int _⟩
       · cases h)
    |cases h
def E8(d:cF):Option cF:=(WC d).map cF.lst
def WA(d:cF):Option cF:=(WC d).map cF.tup
def Wl(K:Aj):RC:=λxs H Q=>∃p ys,xs=[.ref p]/\(WW K H p ys∨U6 K H p ys)/\∀l,H l=b4->Q (.ref l) (upd H l (.lst ys))
def BH(K:Aj):RC:=λxs H Q=>∃p ys,xs=[.ref p]/\((WW K H p ys/\∀l,H l=b4->Q (.ref l) (upd H l (.tup ys)))∨(U6 K H p ys/\Q (.ref p) H))
def Wv(h:X.K=K:=by rfl):ZH X (.type "list") (Wl K):=mh h
def V1(h:X.K=K:=by rfl):ZH X (.type "tuple") (BH K):=mn h
def FQ{d:cF}{g:List cF->cF}{c:cF}(h:(WC d).map g=b3 c):∃ds,WC d=b3 ds/\c=g ds:=by
 cases h1:WC d with
 |none=>rw[h1]at h;cases h
 |some ds=>rw[h1]at h;cases h;exact⟨ds,rfl,rfl⟩
def RW:CalN K (Wl K) E8:=by intro H N M x d c Q b h k;obtain⟨ds,h1,rfl⟩:=FQ h;obtain⟨a,xs,rfl,sq,r⟩:=b.seq h1;exact⟨a,xs,rfl,sq,λl hl=>k l xs ds hl r rfl⟩
def V0:CalC K (BH K) WA:=by
 intro H N M x d c Q b h k;obtain⟨ds,h1,rfl⟩:=FQ h;obtain⟨a,xs,rfl,sq,r⟩:=b.seq h1;rcases sq with sq|sq
 ·exact⟨a,xs,rfl,.inl ⟨sq,λl hl=>k _ _ (bZ hl) λM e=>.tup (U6.of bK) (r.same (bZ hl))⟩⟩
 ·exact⟨a,xs,rfl,.inr ⟨sq,k _ _ (Z6.refl _) λM e=>.tup sq r⟩⟩
noncomputable def o2I(g:Int->Int->Int):cF->cF->Option cF
 |.int i,.int j=>b3 (.int (g i j))
 |_,_=>b4
def Wp{g:Int->Int->Int}:J8 K (λxs H Q=>∃i j,xs=[.int i,.int j]/\Q (.int (g i j)) H) (o2I g):=by
 intro H N N' M M' x y d e c Q b a h k;unfold o2I at h;split at h
 ·cases h
  cases b.onI;cases a.onI;exact⟨_,_,rfl,k _ λ_ _ _=>.int _⟩
 ·cases h
abbrev oMax:=o2I λi j=>if j>i then j else i
abbrev oMin:=o2I λi j=>if j<i then j else i
def cV:J8 K (λxs H Q=>∃i j,xs=[.int i,.int j]/\Q (.int (if j>i then j else i)) H) oMax:=Wp
def iV:J8 K (λxs H Q=>∃i j,xs=[.int i,.int j]/\Q (.int (if j<i then j else i)) H) oMin:=Wp
noncomputable def tyD:cF->Option String
 |.non=>b3 "NoneType"
 |.bl _=>b3 "bool"
 |.int _=>b3 "int"
 |.str _=>b3 "str"
 |.tup _=>b3 "tuple"
 |.lst _=>b3 "list"
 |.dct _ _=>b3 "dict"
 |_=>b4
noncomputable def NM(t n:String):Option Bool:=if((Kv t)==(Kv n))=b8 then b3 b8 else if W.kitMeta n=b8 then(PySem.fastBuiltinMro t).map (·.contains (.type n))else b4
def mJ{t n:String}{k:Bool}(h:NM t n=b3 k):Hi K (.type t) (.type n)=b3 k:=h
def US:cF->cF->Option cF
 |d,.ty n=>(tyD d).bind λt=>(NM t n).map cF.bl
 |_,_=>b4
def rIsi(K:Aj):RC:=λxs H Q=>∃x n d N M t k,xs=[x,.ty n]/\aD K N H M x d/\tyD d=b3 t/\NM t n=b3 k/\Q (.bl k) H
def kB:ZH X (.builtin "isinstance") (rIsi X.K):=by
 intro aa s σ H xs p Q I r h;obtain⟨x,n,d,N,M,t,k,rfl,g,b,m,q⟩:=h;obtain⟨u,c,rfl,f,j⟩:=FX r;cases (show c=Kv n from j);have e:=mJ (K:=X.K) m;have a:∀tk,EP X aa σ Q (.bool k) {s with toks:=tk}:=λtk=>⟨.bl k,H,I.tok tk,rfl,q⟩;cases g with
 |non=>cases b;exact UE I f (.non) e a
 |bl y=>cases b;exact UE I f (.bl y) e a
 |int i=>cases b;exact UE I f (.int i) e a
 |str y=>cases b;exact UE I f (.str y) e a
 |ty n=>cases b
 |fn _=>cases b
 |dct q _ _=>cases b;exact UE I f (.dK q) e a
 |ktb T _=>
  obtain⟨_,o,es,v,l,g,_⟩:=T;cases b;cases f;exact Ex Rl I.kIn ⟨o,I.kIn _ _ l,g.1⟩ e (λz=>nomatch z) a
 |exn _ _ _=>cases b
 |exr _ _ _ _ _=>cases b
 |tup q _=>
  cases b;cases f;obtain⟨its,_,⟨o,h1,h2,_⟩,_⟩:=I.tuple q;exact Ex W.kitx_tuple I.kIn ⟨o,h1,h2⟩ e (λz=>nomatch z) a
 |lst q _ _=>
  cases b;cases f;obtain⟨its,_,⟨o,n,h1,h2,_⟩,_⟩:=I.list (WW.of q);exact Ex Np I.kIn ⟨o,h1,h2⟩ e (λz=>nomatch z) a
 |fzl q _=>
  cases b;cases f;obtain⟨its,_,⟨o,n,h1,h2,_⟩,_⟩:=I.list q.sq;exact Ex Np I.kIn ⟨o,h1,h2⟩ e (λz=>nomatch z) a
def kIsi(h:X.K=K:=by rfl):ZH X (.builtin "isinstance") (rIsi K):=by subst h;exact kB
def jA:J8 K (rIsi K) US:=by
  intro H N N' M M' x y d e c Q f b h k;cases b<;>first
    | (simp only [US]at h
       cases h1:tyD d with
       |none=>rw[h1]at h;cases h
       |some t=>
         rw[h1]at h;rename_i n;have h:(NM t n).map cF.bl=b3 c:=h;obtain⟨a,h2,h⟩:=As.mp h;cases h;exact⟨x,n,d,N,M,t,a,rfl,f,h1,h2,k _ λ_ _ _=>.bl _⟩)
    |cases h
def VJ:cF->Option cF
 |.int i=>b3 (.int (-i))
 |_=>b4
def XN(f:PE X a (TV K ml pa ta ia fa)):PE X (.UnaryOp .USub a pos) (TV K ml pa b8 b8 (f1 VJ fa)):=(iD cT f).imp λσ H Q c=>by
 obtain⟨B,O,δ,d,δ',S,q,k⟩:=c;obtain⟨x,h1,h2⟩:=PV q;refine⟨B,O,δ,x,δ',S,h1,λe H1 b=>?_⟩;cases x with
 |int i=>
  cases h2;have g:e=.int i:=b.rep.onI;exact⟨i,g,k _ H1 ⟨b.sta,b.frm,b.pur,.int _⟩⟩
 |_=>cases h2
abbrev VP:=Ev->Option (Option Int×Ev)
inductive TPOi(K:Aj)(ml:List Nat)(pu:Bool)(f:VP)(σ:St)(H:Hp)(Q:Option Int->Hp->Prop):Prop
 |mk (B:_) (O:_) (δ:_) (k:_) (δ':_) (h0:ZX K ml B O H σ δ) (h1:f δ=b3 (k,δ')) (h2:∀H',ResB K ml B O H σ pu H' δ'->Q k H'):TPOi K ml pu f σ H Q
def TPO(K:Aj)(ml:List Nat)(pu:Bool)(f:VP):TO:=λσ H Q=>TPOi K ml pu f σ H Q
def D1:VP:=λδ=>b3 (b4,δ)
noncomputable def F4(f:VF):VP:=λδ=>(f δ).bind λp=>match p.1 with
 |.int i=>b3 (b3 i,p.2)
 |_=>b4
def PO.imp{e:Option Uj}{t u:TO}(h:PO X e t)(k:∀σ H Q,u σ H Q->t σ H Q):PO X e u:=λaa s σ H Q I w=>h aa s σ H Q I (k σ H Q w)
def SS:PO X b4 (TPO K ml b8 D1):=zG5.imp λσ H Q a=>by obtain⟨B,O,δ,d,δ',S,q,k⟩:=a;cases q;exact k H (ResB.refl S)
def SU(h:PE X a (TV K ml pa ta ia fa)):PO X (b3 a) (TPO K ml pa (F4 fa)):=(Zu h).imp λσ H Q c=>by
 obtain⟨B,O,δ,d,δ',S,q,k⟩:=c;unfold F4 at q;obtain⟨⟨x,δ1⟩,h1,q⟩:=Ac.mp q;refine⟨B,O,δ,x,δ1,S,h1,λe H1 b=>?_⟩;cases x with
 |int i=>
  have f:e=.int i:=b.rep.onI;cases q;exact⟨i,f,k H1 ⟨b.sta,b.frm,b.pur⟩⟩
 |_=>cases q
def UB(ds:List cF)(lo hi:Option Int):List cF:=(ds.drop (HT.sIx ds.length 0 lo)).take (HT.sIx ds.length ds.length hi-HT.sIx ds.length 0 lo)
def L7{N:Ud->Prop}{xs:List V}{ds:List cF}(r:bD K N H xs ds)(lo hi:Option Int):bD K N H (EH xs lo hi) (UB ds lo hi):=by unfold EH UB;rw[r.length];exact(r.drop _).take _
noncomputable def oSl(d:cF)(lo hi:Option Int):Option cF:=match d with
 |.lst ds=>b3 (.lst (UB ds lo hi))
 |.tup ds=>b3 (.tup (UB ds lo hi))
 |_=>b4
def F3(fa:VF)(a b:VP):VF:=λδ=>(fa δ).bind λp=>(a p.2).bind λl=>(b l.2).bind λu=>(oSl p.1 l.1 u.1).map λc=>(c,u.2)
def kX{prog:Be}{w:Ul}{A:Bx}{E:Uc->Ae->Prop}{s:Ae}{t sl:Ud}{items:Array Uc}{e d:Uc}{lo hi:Option Int}{Q:Uc->Ae->Prop}(a:IsTup s.heap t items)(hs:s.heap.IsSliceOf sl e d .none)(pl:IsPart e lo)(pu:IsPart d hi)(h1:HT.sIx items.size 0 lo=0)(h2:HT.sIx items.size items.size hi=items.size)(h:Q (.ref t) s):Ue (Uf prog w) A (Lk (.ref t) (.ref sl)) Q E s:=by
 obtain⟨os,b,c,f⟩:=id hs;have g:s.TypeIs (.ref sl) "slice":=⟨os,b,c⟩;unfold Lk;try with_reducible refine Bw ?_
 first|refine Aa (Ah ?_)|skip
 refine Aa (Kx a.typeIs (by decide) ?_);refine Aa (Dt (name:=Bj "__getitem__") a.typeIs Ek
  (Eg Ek a.typeIs PyProof.Rows.entry_tuple_getitem ?_ (PyProof.Rows.args_tuple_getitem _ _)))
 show Ue _ _ (Ki (.ref t)>>=_) _ _ s;refine Aa (PyProof.Rows.tupleItemsOf_ a ?_);refine Aa (Kl g ?_);rw[if_pos (by decide)];refine Aa (HT.UK hs pl pu ?_);rw[h1,h2];show Ue _ _ (if((((0:Nat):Int)==0&&(1:Int)==1&&(items.size-0)==items.size)=b8)then _ else _) _ _ s;rw[if_pos (by simp)];refine Aa (m:=Se _) (Aa (Kl a.typeIs (Ah ?_)));rw[if_pos (by decide)];exact Aa (Gy (Ah ⟨_,rfl,Ah h⟩))
def rSlW(K:Aj):V->Option Int->Option Int->Hp->VK->Prop:=λx lo hi H Q=>∃a xs,x=.ref a/\U6 K H a xs/\(HT.sIx xs.length 0 lo=0/\HT.sIx xs.length xs.length hi=xs.length)/\Q (.ref a) H
def fZ:SlR X (rSlW X.K):=by
 intro aa s σ H x v g f lo hi sl Q I d hs pl pu h;obtain⟨a,xs,rfl,e,hw,q⟩:=h;cases d;obtain⟨its,r,b,hz⟩:=I.tuple e;have c:its.toArray.size=xs.length:=by rw[Ao];exact r.length.symm
 refine⟨"tuple",_,PyProof.Rows.slot_tuple_getitem.lookup,b.typeIs,?_⟩;exact kX b hs pl pu (by rw[c];exact hw.1) (by rw[c];exact hw.2) ⟨.ref a,H,I,rfl,q⟩
def rSl(K:Aj):V->Option Int->Option Int->Hp->VK->Prop:=λx lo hi H Q=>(rSlT K x lo hi H Q∨rSlL K x lo hi H Q)∨rSlW K x lo hi H Q
def kSl(h:X.K=K:=by rfl):SlR X (rSl K):=by subst h;exact(zJ7.or iW).or fZ
def mC{b e:VP}(h:F3 fa b e δ=b3 (d,δ')):∃x δ1 l δ2 u,fa δ=b3 (x,δ1)/\b δ1=b3 (l,δ2)/\e δ2=b3 (u,δ')/\oSl x l u=b3 d:=by
 unfold F3 at h;cases h1:fa δ with
 |none=>rw[h1]at h;cases h
 |some p=>
  rw[h1]at h;cases h2:b p.2 with
  |none=>simp[h2]at h
  |some q=>
   simp only[An,h2]at h;cases a:e q.2 with
   |none=>simp[a]at h
   |some s=>
    simp only[An,a]at h;obtain⟨c,f,h⟩:=As.mp h;cases h;exact⟨p.1,p.2,q.1,q.2,s.1,rfl,h2,a,f⟩
def SR{lo hi:Option Uj}{p2:Pos}{v w:VP}(E:X.K=K)(D:PE X a (TV K ml pa ta ia fa))(hl:PO X lo (TPO K ml pb v))(C:PO X hi (TPO K ml pc w))(hs:(pb&&pc || (ta&&ia))=b8:=by rfl):
  PE X (.Subscript a (.Slice lo hi b4 p2) pos) (TV K ml (pa&&pb&&pc) b8 ia (F3 fa v w)):=(cS (kSl E) D hl C).imp λσ H Q s=>by
 obtain⟨B,O,δ,d,i,S,q,k⟩:=s;obtain⟨x,δ1,l,δ2,u,h1,h2,F,t⟩:=mC q;refine⟨B,O,δ,x,δ1,S,h1,λA H1 h=>⟨B,O,δ1,l,δ2,h.sta,h2,λH2 R2=>⟨B,O,δ2,u,i,R2.sta,F,λy c=>?_⟩⟩⟩;have o:aD K (av B O ia) y (at_ B O ta) A x:=by
  rcases(Ic _ _).mp hs with z|z
  ·obtain⟨m,j⟩:=(Af _ _).mp z
   exact(h.rep.same (R2.pur m)).same (c.pur j)
  ·obtain⟨m,j⟩:=(Af _ _).mp z
   subst m j;exact(h.rep.fr R2.frm (λa z=>.inr z) λa z=>.inr z).fr c.frm (λa z=>.inr z) λa z=>.inr z
 have g:(pa&&pb&&pc)=b8->Z6 H y:=λz=>by simp only[Af]at z;exact((h.pur z.1.1).trans (R2.pur z.1.2)).trans (c.pur z.2)
 have f:=(h.frm.trans R2.frm).trans c.frm;cases x with
 |lst ds=>
  cases t;obtain⟨a,xs,rfl,sq,r⟩:=o.seq rfl;rcases sq with sq|sq
  ·exact .inl (.inr ⟨a,xs,rfl,sq,λp b=>k _ _ ⟨c.sta.same (bZ b),f.trans (bZ b).fr,λz=>(g z).trans (bZ b),.lst bK (c.sta.new b) ((L7 r l u).same (bZ b))⟩⟩)
  ·cases o.onL with
   |lst q n r'=>exact .inl (.inr ⟨a,_,rfl,WW.of q,λp b=>k _ _ ⟨c.sta.same (bZ b),f.trans (bZ b).fr,λz=>(g z).trans (bZ b),.lst bK (c.sta.new b) ((L7 r' l u).same (bZ b))⟩⟩)
   |fzl q r'=>exact .inl (.inr ⟨a,_,rfl,q.sq,λp b=>k _ _ ⟨c.sta.same (bZ b),f.trans (bZ b).fr,λz=>(g z).trans (bZ b),.lst bK (c.sta.new b) ((L7 r' l u).same (bZ b))⟩⟩)
 |tup ds=>
  cases t;cases o.onT with
  |tup q r'=>
   by_cases hw:HT.sIx ds.length 0 l=0/\HT.sIx ds.length ds.length u=ds.length
   ·refine .inr ⟨_,_,rfl,q,by rw [r'.length];exact hw,k _ _ ⟨c.sta,f,g,?_⟩⟩
    have e:UB ds l u=ds:=by unfold UB;rw[hw.1,hw.2];simp
    rw[e];exact .tup q r'
   ·exact .inl (.inl ⟨_,_,rfl,q,by rw[r'.length];exact hw,λp b=>k _ _ ⟨c.sta.same (bZ b),f.trans (bZ b).fr,λz=>(g z).trans (bZ b),.tup (U6.of bK) ((L7 r' l u).same (bZ b))⟩⟩)
 |_=>cases t
end
inductive Ou where
 |nx (δ:Ev)|rt (d:cF) (δ:Ev)|bk (δ:Ev)|ct (δ:Ev)
abbrev VS:=Ev->Option Ou
def Post(K:Aj)(ml:List Nat)(B:Bs)(D:KA):Ou->Prop
 |.nx δ'=>∀a H' b,ZX K ml B b H' a δ'->D.nx a H'
 |.rt d δ'=>∀v a H' b,ZX K ml B b H' a δ'->aD K (rz B) H' (rz B) v d->D.rt v H'
 |.bk δ'=>∀a H' b,ZX K ml B b H' a δ'->D.bk a H'
 |.ct δ'=>∀a H' b,ZX K ml B b H' a δ'->D.ct a H'
inductive TSti(K:Aj)(ml:List Nat)(g:VS)(D:KA)(σ:St)(H:Hp):Prop
 |mk (B:_) (O:_) (δ:_) (o:_) (h0:ZX K ml B O H σ δ) (h1:g δ=b3 o) (h2:Post K ml B D o):TSti K ml g D σ H
def U7(K:Aj)(ml:List Nat)(g:VS):TS:=λD σ H=>TSti K ml g D σ H
section
variable{X:Cx}{K:Aj}{ml:List Nat}{e a b c:Uj}{es:List Uj}{pa ta ia pb tb ib pc tc ic pu bt bi ps bs:Bool}{fa fb fc f:VF}{B B':Bs}{O:Nat->Option Ud}{H H1 H':Hp}{σ:St}{δ δ':Ev}{v:V}{d:cF}{p:Ud}{pos:Pos}{st:Up}{rest:List Up}{g g':VS}
def aI:VS:=λδ=>b3 (.nx δ)
def bR(g g':VS):VS:=λδ=>(g δ).bind λo=>match o with
 |.nx δ'=>g' δ'
 |o=>b3 o
def bQ:V6 X [] (U7 K ml aI):=BA.imp λD σ H a=>by obtain⟨B,O,δ,o,S,q,k⟩:=a;cases q;exact k σ H O S
def cA(h1:PS X st (U7 K ml g))(h2:V6 X rest (U7 K ml g')):V6 X (st::rest) (U7 K ml (bR g g')):=(O0 h1 h2).imp λD σ H a=>by
 obtain⟨B,O,δ,o,S,q,k⟩:=a;unfold bR at q;obtain⟨z,h1,q⟩:=Ac.mp q;refine⟨B,O,δ,z,S,h1,?_⟩;cases z with
 |nx δ1=>exact λb H' e c=>⟨B,e,δ1,o,c,q,k⟩
 |rt d δ1=>cases q;exact k
 |bk δ1=>cases q;exact k
 |ct δ1=>cases q;exact k
def b7(h1:PS X st (U7 K ml g)):V6 X [st] (U7 K ml g):=(O0 h1 BA).imp λD σ H ⟨B,O,δ,o,S,q,k⟩=>⟨B,O,δ,o,S,q,by cases o<;>exact k⟩
noncomputable def bE(f:VF):VS:=λδ=>(f δ).map λp=>.rt p.1 p.2
def bU(h:PE X e (TV K ml pu bt bi f))(b:bt=b8:=by rfl):PS X (.Return (b3 e) pos) (U7 K ml (bE f)):=(DE h).imp λD σ H a=>by obtain⟨B,O,δ,o,S,q,k⟩:=a;unfold bE at q;obtain⟨p,h1,q⟩:=As.mp q;cases q;subst b;exact⟨B,O,δ,p.1,p.2,S,h1,λv H' R=>k v σ H' O R.sta (R.rep.mono R.sta.rza R.sta.rzn)⟩
def BZ{i:Nat}(h:PE X e (NZ i))(b:i∉ml:=by decide):PS X (.Return (b3 e) pos) (U7 K ml (bE (fO i))):=(DE h).imp λD σ H a=>by obtain⟨B,O,δ,o,S,q,k⟩:=a;unfold bE at q;obtain⟨⟨x,δ1⟩,h1,q⟩:=As.mp q;cases q;obtain⟨rfl,v,c,r⟩:=S.lone b h1;exact⟨v,c,k v σ H O S (r.mono S.rza S.rza)⟩
def YQ(t:VB)(g g':VS):VS:=λδ=>(t δ).bind λp=>if p.1=b8 then g p.2 else g' p.2
def bC{x y:List Up}{t:VB}(e:PT X c (TB K ml pc t))(h:V6 X x (U7 K ml g))(f:V6 X y (U7 K ml g')):PS X (.If c x y pos) (U7 K ml (YQ t g g')):=(Yt e h f).imp λD σ H a=>by
 obtain⟨B,O,δ,o,S,q,k⟩:=a;unfold YQ at q;obtain⟨⟨b,δ1⟩,h1,q⟩:=Ac.mp q;refine⟨B,O,δ,b,δ1,S,h1,λH1 d=>?_⟩;cases b with
 |true=>exact NO ⟨B,O,δ1,o,d.sta,q,k⟩
 |false=>exact NN ⟨B,O,δ1,o,d.sta,q,k⟩
abbrev VX:=Ev->Option (Sl×Ev)
inductive St1(K:Aj)(B:Bs)(O:Nat->Option Ud)(H:Hp):Bs->V->Sl->Prop
 |va {v:V}{d:cF}:St1 K B O H {B with kp:=[(v,d)]++B.kp} v (.va d)
 |ol {p:Ud}{xs:List V}{ds:List cF}:H p=b3 (.lst xs)->xs.length=ds.length->¬Nn B O p->B.H0 p=b4->St1 K B O H {B.add p with kp:=xs.zip ds++B.kp} (.ref p) (.ow (.lst ds))
 |od {p:Ud}{kvs:List (Z8×V)}{ds:List cF}:H p=b3 (.dK kvs)->kvs.length=ds.length->¬Nn B O p->B.H0 p=b4->St1 K B O H {B.add p with kp:=(kvs.map Dg).zip ds++B.kp} (.ref p) (.ow (.dct (kvs.map Ch) ds))
def St1.fr{s:Sl}(h:St1 K B O H B' v s)(f:Fr (OA O) H H'):St1 K B O H' B' v s:=by
 cases h with
 |va=>exact .va
 |ol q l n z=>exact .ol (f _ _ q λw=>absurd (.inr w) n) l n z
 |od q l n z=>exact .od (f _ _ q λw=>absurd (.inr w) n) l n z
inductive TXi(K:Aj)(ml:List Nat)(f:VX)(σ:St)(H:Hp)(Q:VK):Prop
 |mk (B:_) (O:_) (δ:_) (s:_) (δ':_) (h0:ZX K ml B O H σ δ) (h1:f δ=b3 (s,δ')) (h2:∀v H' B',ZX K ml B' O H' σ δ'->St1 K B O H' B' v s->Fr (OA O) H H'->Q v H'):TXi K ml f σ H Q
def TX(K:Aj)(ml:List Nat)(f:VX):TE:=λσ H Q=>TXi K ml f σ H Q
noncomputable def xV(f:VF):VX:=λδ=>(f δ).map λp=>(.va p.1,p.2)
noncomputable def xO(f:VF):VX:=λδ=>(f δ).map λp=>(.ow p.1,p.2)
def Z9(h:PE X e (TV K ml pu b8 b8 f)):PE X e (TX K ml (xV f)):=h.imp λσ H Q a=>by
 obtain⟨B,O,δ,o,δ',S,q,k⟩:=a;unfold xV at q;obtain⟨p,h1,q⟩:=As.mp q;cases q;exact⟨B,O,δ,p.1,p.2,S,h1,λv H' R=>k v H' _ (R.sta.keepV (ps:=[(v,p.1)]) λz hz=>by rw[Ar.mp hz];exact R.rep) .va R.frm⟩
theorem T4{N:Ud->Prop}:∀{xs:List V}{ds:List cF},bD K N H xs ds->∀z∈xs.zip ds,aD K N H N z.1 z.2
 |_,_,.nil,z,hz=>nomatch hz
 |_,_,.cons h t,z,hz=>by
  rcases Ai.mp hz with e|e
  ·rw[e];exact h
  ·exact T4 t z e
theorem T1{N:Ud->Prop}:∀{xs:List V}{ds:List cF},xs.length=ds.length->(∀z∈xs.zip ds,aD K N H N z.1 z.2)->bD K N H xs ds
 |[],[],_,_=>.nil
 |x::xs,d::ds,hl,h=>.cons (h (x,d) (Bb ..)) (T1 (by simpa using hl) λz hz=>h z (Aq _ hz))
def WV(h:PE X e (TN K ml pu f)):PE X e (TX K ml (xO f)):=h.imp λσ H Q a=>by
 obtain⟨B,O,δ,o,δ',S,q,k⟩:=a;unfold xO at q;cases h1:f δ with
 |none=>rw[h1]at q;cases q
 |some p=>
  obtain⟨d,δ1⟩:=p;rw[h1]at q;cases q;refine⟨B,O,δ,d,δ1,S,h1,λp H' R=>?_⟩;have w:=R.own;cases w with
  |lst q r=>exact k _ H' _ (R.sta.keepV (T4 r)) (.ol q r.length R.nz R.h0) R.frm
  |dct q r=>exact k _ H' _ (R.sta.keepV (T4 r)) (.od q (by simpa using r.length) R.nz R.h0) R.frm
def St1.bind{c:Nat->Option Ud}{s:Sl}{i:Nat}(h:St1 K B O H' B' v s)(S:ZX K ml B' c H' σ δ)(a:i∉ml)(hl:i<δ.length):∃b,ZX K ml B b H' (σ.set i (b3 v)) (δ.set i s):=by
 cases h with
 |va=>
  refine⟨_,ZX.unkeep (ps:=_) (S.setVa a (S.kep _ (Bm _ (Ar.mpr rfl))))⟩
 |ol q l n z=>
  refine⟨_,ZX.setOw (ZX.unkeep (B:=B.add _) S) a hl (λw=>n (.inl w)) z (.lst q (T1 l λz hz=>S.kep z (Bm _ hz)))⟩
 |od q l n z=>
  refine⟨_,ZX.setOw (ZX.unkeep (B:=B.add _) S) a hl (λw=>n (.inl w)) z (.dct q (T1 (by simpa using l) λz hz=>S.kep z (Bm _ hz)))⟩
noncomputable def ZZ(i:Nat)(x:VX):VS:=λδ=>(x δ).bind λp=>if i<p.2.length then b3 (.nx (p.2.set i p.1))else b4
def aN{i:Nat}{y:Ug}{x:VX}{bu:Pos}(h:X.N.Nodup)(g:PE X e (TX K ml x))(hi:X.N[i]?=b3 y:=by rfl)(c:B9 X.env.scope y:=by first|exact .inl rfl|exact .inr rfl)(d:i∉ml:=by decide)(hs:Ur e (b3 (.Name y bu)) pos.line X.env=pure ba:=by rfl)
  (f:LO X y:=by first|exact .inl rfl|exact .inr rfl|assumption):PS X (.Assign [.Name y bu] e pos) (U7 K ml (ZZ i x)):=(gI h hi c g hs f).imp λD σ H a=>by
 obtain⟨B,O,δ,o,S,q,k⟩:=a;unfold ZZ at q;obtain⟨⟨s,δ1⟩,h1,q⟩:=Ac.mp q;have q:(if i<δ1.length then b3 (Ou.nx (δ1.set i s))else b4)=b3 o:=q;split at q
 ·rename_i hl
  cases q;refine⟨B,O,δ,s,δ1,S,h1,λv H' B' j h' m=>?_⟩;obtain⟨l,b⟩:=h'.bind j d hl;exact k _ _ _ b
 ·cases q
noncomputable def U2(i j:Nat)(x y:VX):VS:=λδ=>(x δ).bind λp=>(y p.2).bind λq=>if i<q.2.length/\j<q.2.length then b3 (.nx ((q.2.set j q.1).set i p.1))else b4
def RB{i j:Nat}{y z:Ug}{fx m:VX}{e d pt:Pos}{kt k2 pt2}(hc:X.calm=b8)(G:X.N.Nodup)(hi:X.N[i]?=b3 y)(A:X.N[j]?=b3 z)(c:i≠j)(x:X.env.scope.names.lookup y=b3 .local)(w:X.env.scope.names.lookup z=b3 .local)(F:PE X a (TX K ml fx))(E:PE X b (TX K ml m))(hw:Fp [.Tuple [.Name y e,.Name z d] kt pt] (.Tuple [a,b] k2 pt2) X.env=pure (b3 [y,z]))(h:i∉ml:=by decide)(g:j∉ml:=by decide)(hs:Fo [.Tuple [.Name y e,.Name z d] kt pt] (.Tuple [a,b] k2 pt2) pos.line X.env=pure ba:=by rfl)(C:SE X a [b]:=by rfl)(l:SE X b []:=by rfl):
  PS X (.Assign [.Tuple [.Name y e,.Name z d] kt pt] (.Tuple [a,b] k2 pt2) pos) (U7 K ml (U2 i j fx m)):=(eS hc G hi A c x w (aW F (aW E ZB l) C) hw hs).imp λD σ H f=>by
 obtain⟨B,O,δ,o,S,q,k⟩:=f;unfold U2 at q;obtain⟨⟨s,δ1⟩,h1,q⟩:=Ac.mp q;cases h2:m δ1 with
 |none=>simp[h2]at q
 |some p2=>
  obtain⟨u,δ2⟩:=p2;simp only[An,h2]at q;split at q
  ·rename_i hl
   cases q;refine⟨B,O,δ,s,δ1,S,h1,λv H1 M L r f1=>⟨M,O,δ1,u,δ2,L,h2,λt H2 R J p f2=>⟨v,t,rfl,?_⟩⟩⟩;obtain⟨Q,I⟩:=p.bind J g hl.2;obtain⟨P,n⟩:=(r.fr f2).bind I h (by rw[Cg];exact hl.1);rw[Eb _ _ (Ck c)]at n;exact k _ _ _ n
  ·cases q
abbrev VG:=cF->Ev->Option Ev
inductive TGVi(K:Aj)(ml:List Nat)(h:VG)(v:V)(σ:St)(H:Hp)(Q:St->Hp->Prop):Prop
 |mk (B:_) (O:_) (δ:_) (d:_) (δ':_) (h0:ZX K ml B O H σ δ) (h1:aD K (Nn B O) H (Nn B O) v d) (h2:h d δ=b3 δ') (h3:∀σ' O',ZX K ml B O' H σ' δ'->(∀i∈ml,σ'[i]?=σ[i]?)->Q σ' H):TGVi K ml h v σ H Q
def TGV(K:Aj)(ml:List Nat)(h:VG):TG:=λv σ H Q=>TGVi K ml h v σ H Q
def PG.imp{t u:TG}(h:PG X e t)(k:∀v σ H Q,u v σ H Q->t v σ H Q):PG X e u:=λaa s σ H v w Q I r z=>h aa s σ H v w Q I r (k v σ H Q z)
def AA.imp{t u:TGs}(h:AA X es t)(k:∀v σ H Q,u v σ H Q->t v σ H Q):AA X es u:=λaa s σ H v w Q I r z=>h aa s σ H v w Q I r (k v σ H Q z)
def PG.or{t u:TG}(h:PG X e t)(h':PG X e u):PG X e (λv σ H Q=>t v σ H Q∨u v σ H Q):=λaa s σ H v w Q I r z=>by
 rcases z with z|z
 ·exact h aa s σ H v w Q I r z
 ·exact h' aa s σ H v w Q I r z
def gN(i:Nat):VG:=λd δ=>b3 (δ.set i (.va d))
def bT{i:Nat}{x:Ug}(g:X.N.Nodup)(hi:X.N[i]?=b3 x:=by rfl)(c:B9 X.env.scope x:=by first|exact .inl rfl|exact .inr rfl)(b:i∉ml:=by decide)(f:LO X x:=by first|exact .inl rfl|exact .inr rfl|assumption):PG X (.Name x pos) (TGV K ml (gN i)):=
 (Q6 g hi c f).imp λv σ H Q a=>by obtain⟨B,O,δ,d,δ',S,r,q,k⟩:=a;cases q;exact k _ _ (S.setVa b r) λj e=>Bz λ(z:i=j)=>b (z▸e)
abbrev VGs:=List cF->Ev->Option Ev
inductive Vz(K:Aj)(ml:List Nat)(h:VGs)(vs:List V)(σ:St)(H:Hp)(Q:St->Hp->Prop):Prop
 |mk (B:_) (O:_) (δ:_) (ds:_) (δ':_) (h0:ZX K ml B O H σ δ) (h1:bD K (Nn B O) H vs ds) (h2:h ds δ=b3 δ') (h3:∀σ' O',ZX K ml B O' H σ' δ'->(∀i∈ml,σ'[i]?=σ[i]?)->Q σ' H):Vz K ml h vs σ H Q
def TGVs(K:Aj)(ml:List Nat)(h:VGs):TGs:=λvs σ H Q=>Vz K ml h vs σ H Q
def YY:VGs:=λds δ=>match ds with
 |[]=>b3 δ
 |_=>b4
def bH(g:VG)(a:VGs):VGs:=λds δ=>match ds with
 |d::r=>(g d δ).bind λδ1=>a r δ1
 |[]=>b4
def ZJ:AA X [] (TGVs K ml YY):=G9.imp λvs σ H Q a=>by
 obtain⟨B,O,δ,ds,δ',S,r,q,k⟩:=a;cases r with
 |nil=>cases q;exact⟨rfl,k _ _ S λ_ _=>rfl⟩
 |cons _ _=>cases q
def bL{g:VG}{c:VGs}(h1:PG X e (TGV K ml g))(h2:AA X es (TGVs K ml c))(hs:(Uk (e::es) X.env).map (·.2)=Fk e X.env::(Uk es X.env).map (·.2):=by rfl):AA X (e::es) (TGVs K ml (bH g c)):=
 (UG h1 h2 hs).imp λvs σ H Q b => by
  obtain⟨B,O,δ,ds,δ',S,r,q,k⟩:=b;cases r with
  |nil=>cases q
  | @cons v vs d ds h t=>
   have q:((g d δ).bind λδ1=>c ds δ1)=b3 δ':=q;obtain⟨δ1,h1,q⟩:=Ac.mp q;have m:=S.keepV (T4 t);exact⟨v,vs,rfl,_,O,δ,d,δ1,m,h,h1,λj o f m1=>⟨B,o,δ1,ds,δ',f.unkeep,T1 t.length λz hz=>f.kep z (Bm _ hz),q,λa n l m2=>k a n l λi hi=>(m2 i hi).trans (m1 i hi)⟩⟩
def PN(n:Nat)(a:VGs):VG:=λd δ=>(WC d).bind λds=>if ds.length=n then a ds δ else b4
def YR{e:VGs}{k n:Nat}(j:X.K=K)(hc:X.calm=b8)(h:AA X es (TGVs K ml e))(i:(Uk es X.env).length=n:=by rfl)(b:(Uk es X.env).findIdx? (·.1)=b4:=by rfl):PG X (.Tuple es k pos) (TGV K ml (PN n e)):=
 ((Vr (K := K) j hc h i b).or (iH (K := K) j hc h i b)).imp λv σ H Q g => by
  obtain⟨B,O,δ,d,δ',S,r,q,k⟩:=g;unfold PN at q;obtain⟨ds,h1,q⟩:=Ac.mp q;have q:(if ds.length=n then e ds δ else b4)=b3 δ':=q;split at q
  ·rename_i hl
   obtain⟨a,xs,rfl,sq,f⟩:=r.seq h1;have c:TGVs K ml e xs σ H Q:=⟨B,O,δ,ds,δ',S,f,q,k⟩;rcases sq with sq|sq
   ·exact .inr ⟨a,xs,rfl,sq,f.length.trans hl,c⟩
   ·exact .inl ⟨a,xs,rfl,sq,f.length.trans hl,c⟩
  ·cases q
noncomputable def MO(f:VF)(g:VG):VS:=λδ=>(f δ).bind λp=>(g p.1 p.2).map Ou.nx
def T3{tg:Uj}{gg:VG}(g:PE X e (TV K ml pu b8 b8 f))(c:PG X tg (TGV K ml gg))(hs:Fo [tg] e pos.line X.env=pure ba:=by rfl)(hw:Fp [tg] e X.env=pure b4:=by rfl)
  (h1:(Uk [tg] X.env).map (·.2)=[Fk tg X.env]:=by rfl):PS X (.Assign [tg] e pos) (U7 K ml (MO f gg)):=(HA g c hs hw h1).imp λD σ H b=>by
 obtain⟨B,O,δ,o,S,q,k⟩:=b;unfold MO at q;obtain⟨⟨d,δ1⟩,h1,q⟩:=Ac.mp q;have q:(gg d δ1).map Ou.nx=b3 o:=q;obtain⟨δ2,h2,q⟩:=As.mp q;cases q;exact⟨B,O,δ,d,δ1,S,h1,λv H' R=>⟨B,O,δ1,d,δ2,R.sta,R.rep,h2,λa i h _=>k a H' i h⟩⟩
def MuV(K:Aj)(r:V->List V->Hp->VK->Prop)(m:List cF->List cF->Option (List cF)):Prop:=∀(H:Hp) (N:Ud->Prop) (l:Ud) (xs vs:List V) (ds es b:List cF) (Q:VK),
 H l=b3 (.lst xs)->N l->bD K N H xs ds->bD K N H vs es->m ds es=b3 b->(∀v a,bD K N H a b->Q v (upd H l (.lst a)))->r (.ref l) vs H Q
noncomputable def MM(δ:Ev)(i:Nat):Option (List cF):=match δ[i]? with
 |some (.ow (.lst ds))=>b3 ds
 |_=>b4
def XW(i:Nat)(m:List cF->List cF->Option (List cF))(fs:MH):VS:=λδ=>(MM δ i).bind λ_=>(fs δ).bind λp=>(MM p.2 i).bind λds=>(m ds p.1).map λa=>.nx (p.2.set i (.ow (.lst a)))
def JC{i:Nat}{ds:List cF}(h:MM δ i=b3 ds):δ[i]?=b3 (.ow (.lst ds)):=by
 unfold MM at h;split at h
 ·cases h;assumption
 ·cases h
def FL{N:Ud->Prop}{l:Ud}{o:HO}{xs:List V}{ds ys:List cF}{zs:List V}(d:H l=b3 (.lst zs))(e:N l)(h:bD K N H xs ds):bD K N (upd H l o) xs ds:=
 h.fr (P:=λb=>b=l) (λb u q n=>by
  by_cases c:b=l
  ·subst c
   rw[d]at q;cases q;exact absurd (n rfl) λz=>z
  ·rw[bA c]
   exact q) λa z=>z▸e
def ZW{i:Nat}{x:Ug}{name:Ug}{aq ai c:Pos}{id:String}{r:V->List V->Hp->VK->Prop}{m:List cF->List cF->Option (List cF)}{fs:MH}(slot:Slot "list" name id)(g:Nh (.builtin id)=pure (.type "method_descriptor"))(G:MtR X id r)(n:MuV K r m)(F:PE X (.Name x c) (NZ i))(I:PA X (e::es) (TAV K ml pu b8 fs))(Q:Fs (.Name x c) name X.env (eval (.Name x c) X.env)=eval (.Name x c) X.env:=by rfl)(P:((Ei ai (Uh (e::es) X.env)).all (λx=> !x.1)&&(Km ai (Gp [] X.env)).all (λx=>x.1.isSome)&&decide ((e::es).length+([]:List Io).length+(if([]:List Io).isEmpty then 0 else 1)<30))=b8:=by rfl)(T:(aq.endLine==ai.line)=b8:=by rfl)(hs:SE X e es:=by rfl)(U:(Ei ai (Uh es X.env)).any (·.1)=ba:=by rfl)(h:Ur (.Call (.Attribute (.Name x c) name aq) (e::es) [] ai) b4 pos.line X.env=pure ba:=by rfl)(J:X.K=K:=by rfl):PS X (.Expr (.Call (.Attribute (.Name x c) name aq) (e::es) [] ai) pos) (U7 K ml (XW i m fs)):=
 (gM (kBm (K := K) J Ie slot g G F I Q P T hs U) h).imp λD σ H j => by
  obtain⟨B,O,δ,o,S,q,k⟩:=j;unfold XW at q;obtain⟨N,L,q⟩:=Ac.mp q;have q:((fs δ).bind λp=>(MM p.2 i).bind λds=>(m ds p.1).map λa=>Ou.nx (p.2.set i (.ow (.lst a))))=b3 o:=q;obtain⟨⟨b,δ1⟩,h1,q⟩:=Ac.mp q;have q:((MM δ1 i).bind λds=>(m ds b).map λa=>Ou.nx (δ1.set i (.ow (.lst a))))=b3 o:=q;obtain⟨ds,h2,q⟩:=Ac.mp q;have q:((m ds b).map λa=>Ou.nx (δ1.set i (.ow (.lst a))))=b3 o:=q;cases t:m ds b with
  |none=>rw[t]at q;cases q
  |some a=>
   rw[t]at q;cases q;obtain⟨l,f,M,w⟩:=S.ow i _ (JC L);cases w with
   |lst s _=>
    refine⟨.ref l,M,.inl ⟨rfl,_,WW.of s⟩,B,O,δ,b,δ1,S,h1,λvs H1 R=>?_⟩;obtain⟨W,u,_,A⟩:=R.sta.ow i _ (JC h2);rw[f]at u;cases u;cases A with
    |lst d E=>
     refine n H1 (Nn B O) l _ vs ds b a _ d (.inr ⟨i,f⟩) E R.rep t λv y C=>?_;exact k σ _ O (R.sta.wrote f (λz=>z) (.lst bK (FL (ys:=[]) d (.inr ⟨i,f⟩) C)))
noncomputable def WX:List cF->List cF->Option (List cF)
 |ds,[d]=>if ds.length<16777216 then b3 (ds++[d])else b4
 |_,_=>b4
def ZA:MuV K BF WX:=by
 intro H N l xs vs ds es c Q hl e a b h k;cases b with
 |nil=>cases h
 | @cons v vs d es hd t=>
  cases t with
  |cons _ _=>cases h
  |nil=>
   simp only[WX]at h;split at h
   ·rename_i hz
    cases h;exact⟨l,xs,v,rfl,rfl,hl,by rw[a.length,Cc];exact hz,k _ _ (a.snoc hd)⟩
   ·cases h
end
section
variable{X:Cx}{K:Aj}{ml:List Nat}{e a b c:Uj}{es:List Uj}{pa ta ia pb tb ib pc tc ic pu bt bi ps bs:Bool}{fa fb fc f:VF}{B B':Bs}{O:Nat->Option Ud}{H H1 H':Hp}{σ:St}{δ δ':Ev}{v:V}{d:cF}{p:Ud}{pos:Pos}{st:Up}{rest:List Up}{g g':VS}
def again(a:VS):Ou->Option Ou
 |.nx δ=>a δ
 |.ct δ=>a δ
 |.bk δ=>b3 (.nx δ)
 |.rt d δ=>b3 (.rt d δ)
noncomputable def ZR(t:VB)(g:VS):Nat->VS
 |0=>λ_=>b4
 |n+1=>λδ=>(t δ).bind λp=>if p.1=b8 then(g p.2).bind (again (ZR t g n))else b3 (.nx p.2)
theorem R7{t:VB}:∀{n:Nat}{δ:Ev}{o:Ou},ZR t g n δ=b3 o->ZR t g (n+1) δ=b3 o
 |0,_,_,h=>by cases h
 | n + 1,δ,o,h => by
  dsimp only[ZR]at h;show((t δ).bind λp=>if p.1=b8 then(g p.2).bind (again (ZR t g (n+1)))else b3 (.nx p.2))=b3 o;cases h1:t δ with
  |none=>rw[h1]at h;cases h
  |some p=>
   rw[h1]at h;obtain⟨a,δ1⟩:=p;cases a with
   |false=>exact h
   |true=>
    have h:(g δ1).bind (again (ZR t g n))=b3 o:=h;show(g δ1).bind (again (ZR t g (n+1)))=b3 o;cases h2:g δ1 with
    |none=>rw[h2]at h;cases h
    |some z=>
     rw[h2]at h;cases z with
     |nx δ2=>exact R7 (n:=n) h
     |ct δ2=>exact R7 (n:=n) h
     |bk δ2=>exact h
     |rt d δ2=>exact h
theorem QG{t:VB}{n:Nat}{o:Ou}(h:ZR t g n δ=b3 o):∀k,ZR t g (n+k) δ=b3 o
 |0=>h
 |k+1=>R7 (QG h k)
def DX{t:VB}{n m:Nat}{o o':Ou}(h:ZR t g n δ=b3 o)(h':ZR t g m δ=b3 o'):o=o':=by have b:=QG h m;have a:=QG h' n;rw[Qf]at a;rw[b]at a;exact Cq a
open Classical in
noncomputable def T2(t:VB)(g:VS):VS:=λδ=>if h:∃o n,ZR t g n δ=b3 o then b3 (Classical.choose h)else b4
def NX{t:VB}{n:Nat}{o:Ou}(h:ZR t g n δ=b3 o):T2 t g δ=b3 o:=by have a:∃o n,ZR t g n δ=b3 o:=⟨o,n,h⟩;unfold T2;rw[dif_pos a];obtain⟨m,b⟩:=Mr a;rw[DX b h]
def DN{t:VB}{o:Ou}(h:T2 t g δ=b3 o):∃n,ZR t g n δ=b3 o:=by
 unfold T2 at h;split at h
 ·rename_i a
  cases h;exact Mr a
 ·cases h
def LS{body:List Up}{t:VB}(l:Ri (Uf X.prog X.w) X.A X.env X.xe)(hc:PT X c (TB K ml pc t))(s:V6 X body (U7 K ml g)):PS X (.While c body [] pos) (U7 K ml (T2 t g)):=(k7 l hc s).imp λD σ H h=>by
 obtain⟨B,O,δ,o,S,q,k⟩:=h;obtain⟨n,p⟩:=DN q;refine⟨λm σ H=>∃O δ,ZX K ml B O H σ δ/\ZR t g m δ=b3 o,⟨n,O,δ,S,p⟩,?_⟩;rintro m σ H ⟨O,δ,S,b⟩;cases m with
 |zero=>cases b
 |succ m=>
  dsimp only[ZR]at b;obtain⟨⟨i,δ1⟩,h1,b⟩:=Ac.mp b;refine⟨B,O,δ,i,δ1,S,h1,λH1 j=>?_⟩;cases i with
  |false=>
   have b:b3 (Ou.nx δ1)=b3 o:=b;cases b;exact NN (k σ H1 O j.sta)
  |true=>
   have b:(g δ1).bind (again (ZR t g m))=b3 o:=b;obtain⟨z,h2,b⟩:=Ac.mp b;refine NO ⟨λa H'=>∃O δ,ZX K ml B O H' a δ/\ZR t g m δ=b3 o,λa H' w=>⟨m,Nat.lt_succ_self _,w⟩,B,O,δ1,z,j.sta,h2,?_⟩;cases z with
   |nx δ2=>exact λa H' f e=>⟨f,δ2,e,b⟩
   |ct δ2=>exact λa H' f e=>⟨f,δ2,e,b⟩
   |bk δ2=>cases b;exact λa H' f e=>k a H' f e
   |rt d δ2=>cases b;exact λv a H' f e r=>k v a H' f e r
def Walk(K:Aj)(J:It)(a:List (V×cF))(ds:List cF):Prop:=∀(N:Ud->Prop) (H:Hp),(∀p∈a,aD K N H N p.1 p.2)->
 (∀(i:Nat) (d:cF),ds[i]?=b3 d->J.go i H/\∀x H',J.yld i H x H'->Z6 H H'/\aD K N H' N x d)/\J.stop ds.length H
abbrev VI:=Ev->Option (List cF×Ev)
inductive TIVi(K:Aj)(ml:List Nat)(pu:Bool)(f:VI)(σ:St)(H:Hp)(R:It->Hp->Prop):Prop
 |mk (B:_) (O:_) (δ:_) (ds:_) (δ':_) (h0:ZX K ml B O H σ δ) (h1:f δ=b3 (ds,δ')) (h2:∀J kps H',ZX K ml {B with kp:=kps++B.kp} O H' σ δ'->Fr (OA O) H H'->(pu=b8->Z6 H H')->Walk K J kps ds->R J H'):TIVi K ml pu f σ H R
def TIV(K:Aj)(ml:List Nat)(pu:Bool)(f:VI):TI:=λσ H R=>TIVi K ml pu f σ H R
def PI.imp{tg:Uj}{t u:TI}(h:PI X tg e t)(k:∀σ H R,u σ H R->t σ H R):PI X tg e u:=λaa s σ H R I w=>h aa s σ H R I (k σ H R w)
def PI.or{tg:Uj}{t u:TI}(h:PI X tg e t)(h':PI X tg e u):PI X tg e (λσ H R=>t σ H R∨u σ H R):=λaa s σ H R I z=>by
 rcases z with z|z
 ·exact h aa s σ H R I z
 ·exact h' aa s σ H R I z
def W7(f:VF):VI:=λδ=>(f δ).bind λp=>(WC p.1).map λds=>(ds,p.2)
def kF{a:Ud}{ds:List cF}:Walk K (Itl K a) [(.ref a,.lst ds)] ds:=by
 intro N H h;have r:=h _ (Ar.mpr rfl);have b:∀xs,WW K H a xs->bD K N H xs ds->(∀(i:Nat) (d:cF),ds[i]?=b3 d->(Itl K a).go i H/\∀x H',(Itl K a).yld i H x H'->Z6 H H'/\aD K N H' N x d)/\(Itl K a).stop ds.length H:=λxs sq r=>by
  refine⟨λi d e=>?_,xs,sq,by rw[r.length];exact Am _⟩;obtain⟨x,c,f⟩:=r.get e;refine⟨⟨xs,x,sq,c⟩,λy H' g=>?_⟩;obtain⟨k,j⟩:=g;subst k;have:=j xs sq
  rw[c]at this;cases this;exact⟨Z6.refl _,f⟩
 cases r.onL with
 |lst q n r=>exact b _ (WW.of q) r
 |fzl q r=>exact b _ q.sq r
def gV{a:Ud}{ds:List cF}:Walk K (Itt K a) [(.ref a,.tup ds)] ds:=by
 intro N H h;have r:=h _ (Ar.mpr rfl);cases r.onT with
 |tup sq r=>
  refine⟨λi d e=>?_,_,sq,by rw[r.length];exact Am _⟩;obtain⟨x,b,c⟩:=r.get e;refine⟨⟨_,x,sq,b⟩,λy H' f=>?_⟩;obtain⟨j,g⟩:=f;subst j;have:=g _ sq
  rw[b]at this;cases this;exact⟨Z6.refl _,c⟩
def YI{tg:Uj}(i:X.K=K)(h:PE X e (TV K ml pu b8 b8 f)):PI X tg e (TIV K ml pu (W7 f)):=((Xe (K:=K) i h).or (Xf (K:=K) i h)).imp λσ H R c=>by
 obtain⟨B,O,δ,ds,δ',S,q,k⟩:=c;unfold W7 at q;obtain⟨⟨x,δ1⟩,h1,q⟩:=Ac.mp q;cases x with
 |lst g=>
  cases q;refine .inl ⟨B,O,δ,_,δ1,S,h1,λv H1 b=>?_⟩;obtain⟨a,xs,rfl,sq,r⟩:=b.rep.seq rfl;refine⟨a,rfl,?_,k _ [(.ref a,.lst ds)] H1 (b.sta.keepV λp d=>by rw[Ar.mp d];exact b.rep) b.frm b.pur kF⟩;have r:=b.rep;cases r.onL with
  |lst q _ _=>exact⟨_,WW.of q⟩
  |fzl q _=>exact⟨_,q.sq⟩
 |tup g=>
  cases q;refine .inr ⟨B,O,δ,_,δ1,S,h1,λv H1 b=>?_⟩;obtain⟨a,xs,rfl,sq,r⟩:=b.rep.seq rfl;refine⟨a,rfl,?_,k _ [(.ref a,.tup ds)] H1 (b.sta.keepV λp d=>by rw[Ar.mp d];exact b.rep) b.frm b.pur gV⟩;have r:=b.rep;cases r.onT with
  |tup q _=>exact⟨_,q⟩
 |_=>cases q
def YW(lo:Int)(n:Nat):List cF:=(Az n).map λk:Nat=>.int (lo+k)
noncomputable def iR1(f:VF):VI:=λδ=>(f δ).bind λp=>match p.1 with
 |.int j=>if -4611686018427387904<=j/\j<4611686018427387904 then b3 (YW 0 j.toNat,p.2)else b4
 |_=>b4
noncomputable def iR2(f g:VF):VI:=λδ=>(f δ).bind λp=>(g p.2).bind λq=>match p.1,q.1 with
 |.int i,.int j=>if(-4611686018427387904<=i/\i<4611686018427387904)/\ -4611686018427387904<=j/\j<4611686018427387904 then b3 (YW i (j-i).toNat,q.2)else b4
 |_,_=>b4
def gO{lo:Int}{n i:Nat}{d:cF}(h:(YW lo n)[i]?=b3 d):i<n/\d=.int (lo+i):=by
 unfold YW at h;rw[Di]at h;obtain⟨k,h1,h⟩:=As.mp h;cases h;have:=Ag.mp h1
 obtain⟨hl,e⟩:=this;rw[Ip]at hl;rw[List.getElem_range]at e;subst e;exact⟨hl,rfl⟩
def FZ{lo:Int}{n:Nat}:Walk K (Itr lo n) [] (YW lo n):=by intro N H _;refine⟨λi d e=>?_,by simp[Itr,YW]⟩;obtain⟨hl,rfl⟩:=gO e;refine⟨hl,λx H' a=>?_⟩;obtain⟨rfl,rfl⟩:=a;exact⟨Z6.refl _,.int _⟩
def W9{tg:Uj}{p':Pos}(i:Gl X "range")(g:X.mg "range"=b4)(h:PE X a (TV K ml pa ta ia fa))(hs:Uh [a] X.env=[(ba,eval a X.env)]:=by rfl)(d:SE X a []:=by rfl):
  PI X tg (.Call (.Name "range" p') [a] [] pos) (TIV K ml pa (iR1 fa)):=(nE i g (aW h ZB d) hs).imp λσ H R e=>by
 obtain⟨B,O,δ,ds,δ',S,q,k⟩:=e;unfold iR1 at q;obtain⟨⟨x,δ1⟩,h1,q⟩:=Ac.mp q;cases x with
 |int j=>
  have q:(if -4611686018427387904<=j/\j<4611686018427387904 then b3 (YW 0 j.toNat,δ1)else b4)=b3 (ds,δ'):=q;split at q
  ·rename_i f
   cases q;have b:(2:Int) ^ 62=4611686018427387904:=by decide
   refine⟨B,O,δ,_,_,S,h1,λv H1 c=>⟨j,?_,by rw[b];exact f.1,by rw[b];exact f.2,k _ [] H1 (c.sta.keepV λ_ z=>nomatch z) c.frm c.pur FZ⟩⟩;rw[c.rep.onI]
  ·cases q
 |_=>cases q
def JU{tg:Uj}{p':Pos}(s:Gl X "range")(r:X.mg "range"=b4)(h:PE X a (TV K ml pa ta ia fa))(h':PE X b (TV K ml pb tb ib fb))(hs:Uh [a,b] X.env=[(ba,eval a X.env),(ba,eval b X.env)]:=by rfl)(f:Uh [b] X.env=[(ba,eval b X.env)]:=by rfl)(t:SE X a [b]:=by rfl)(l:SE X b []:=by rfl):
  PI X tg (.Call (.Name "range" p') [a,b] [] pos) (TIV K ml (pa&&pb) (iR2 fa fb)):=(kq s r (aW h (aW h' ZB l) t) hs f).imp λσ H R g=>by
 obtain⟨B,O,δ,ds,δ',S,q,k⟩:=g;unfold iR2 at q;obtain⟨⟨x,δ1⟩,h1,q⟩:=Ac.mp q;cases h2:fb δ1 with
 |none=>simp[h2]at q
 |some p2=>
  obtain⟨y,δ2⟩:=p2;simp only[An,h2]at q;cases x with
  |int i=>
   cases y with
   |int j=>
    have q:(if(-4611686018427387904<=i/\i<4611686018427387904)/\ -4611686018427387904<=j/\j<4611686018427387904 then b3 (YW i (j-i).toNat,δ2)else b4)=b3 (ds,δ'):=q;split at q
    ·rename_i c
     cases q;have e:(2:Int) ^ 62=4611686018427387904:=by decide
     refine⟨B,O,δ,_,_,S,h1,λv H1 d=>⟨B,O,δ1,_,_,d.sta,h2,λu H2 R2=>⟨i,j,?_,by rw[e];exact⟨c.1.1,c.1.2,c.2.1,c.2.2⟩,k _ [] H2 (R2.sta.keepV λ_ z=>nomatch z) (d.frm.trans R2.frm) (λz=>by obtain⟨n,m⟩:=(Af _ _).mp z;exact(d.pur n).trans (R2.pur m)) FZ⟩⟩⟩
     have p:=d.rep;have o:=R2.rep;cases p.onI;cases o.onI;rfl
    ·cases q
   |_=>cases q
  |_=>cases q
noncomputable def WI(gg:VG)(s:VS):List cF->VS
 |[]=>λδ=>b3 (.nx δ)
 |d::r=>λδ=>(gg d δ).bind λδ1=>(s δ1).bind (again (WI gg s r))
def U5(fi:VI)(gg:VG)(s:VS):VS:=λδ=>(fi δ).bind λp=>WI gg s p.1 p.2
def XO{tg iter:Uj}{body:List Up}{fi:VI}{gg:VG}(s:Ri (Uf X.prog X.w) X.A X.env X.xe)(hc:X.calm=b8)(hi:PI X tg iter (TIV K ml pu fi))(I:PG X tg (TGV K ml gg))(L:V6 X body (U7 K ml g))
  (hs:∀x,Uo iter X.env x=pure x:=by intro _;rfl):PS X (.For tg iter body [] pos) (U7 K ml (U5 fi gg g)):=(fX s hc hi I L hs).imp λD σ H n=>by
 obtain⟨B,O,δ,o,S,q,k⟩:=n;unfold U5 at q;obtain⟨⟨ds,δ1⟩,h1,q⟩:=Ac.mp q;have q:WI gg g ds δ1=b3 o:=q;refine⟨B,O,δ,ds,δ1,S,h1,λJ l H1 P _ _ y=>?_⟩;refine⟨λi m σ H=>m=ds.length-i/\i<=ds.length/\∃O δ,ZX K ml {B with kp:=l++B.kp} O H σ δ/\WI gg g (ds.drop i) δ=b3 o,⟨ds.length,rfl,Dm _,O,δ1,P,q⟩,?_⟩;rintro i m σ H ⟨rfl,hi,O,δ,S,b⟩;have w:=y (Nn B O) H λp s=>S.kep p (Bm _ s);by_cases f:i<ds.length
 ·obtain ⟨go,u⟩ := w.1 i ds[i] (by simp [f])
  rw[Ep f]at b;refine .inr ⟨go,λa H'=>∃O δ,ZX K ml {B with kp:=l++B.kp} O H' a δ/\WI gg g (ds.drop (i+1)) δ=b3 o,λa H' C=>⟨ds.length-(i+1),by lia,rfl,f,C⟩,λx H' G=>?_⟩;obtain⟨E,F⟩:=u x H' G;have b:((gg ds[i] δ).bind λδ1=>(g δ1).bind (again (WI gg g (ds.drop (i+1)))))=b3 o:=b;obtain⟨δ2,h2,b⟩:=Ac.mp b;have b:(g δ2).bind (again (WI gg g (ds.drop (i+1))))=b3 o:=b;refine⟨_,O,δ,ds[i],δ2,S.same E,F,h2,λt Q N _=>?_⟩;obtain⟨z,M,b⟩:=Ac.mp b;refine⟨_,Q,δ2,z,N,M,?_⟩;cases z with
  |nx c=>exact λa H' j h=>⟨j,c,h,b⟩
  |ct c=>exact λa H' j h=>⟨j,c,h,b⟩
  |bk c=>cases b;exact λa H' j h=>k a H' j h.unkeep
  |rt d c=>cases b;exact λv a H' j h r=>k v a H' j h.unkeep r
 ·have e : i = ds.length := by lia
  subst e;rw[Hj]at b;cases b;exact .inl ⟨w.2,k σ H O S.unkeep⟩
end
section
variable{X:Cx}{K:Aj}{ml:List Nat}{e a b c:Uj}{es:List Uj}{pa ta ia pb tb ib pc tc ic pu bt bi ps bs:Bool}{fa fb fc f:VF}{B B':Bs}{O:Nat->Option Ud}{H H1 H':Hp}{σ:St}{δ δ':Ev}{v:V}{d:cF}{p:Ud}{pos:Pos}{st:Up}{rest:List Up}{g g':VS}
def ZX.call{P:Ud->Prop}(S:ZX K ml B O H σ δ)(hl:δ'.length=δ.length)(h:∀i:Nat,(δ'[i]?=δ[i]? /\∀a,O i=b3 a->¬P a)∨∃a d',O i=b3 a/\δ'[i]?=b3 (Sl.ow d')/\N5 K (Nn B O) H' a d')
  (f:Fr P H H') (j:∀a,P a->OA O a):ZX K ml B O H' σ δ' where
 len:=by rw[hl,S.len]
 va:=λi d e=>by
  rcases h i with⟨g,_⟩|⟨a,d',_,g,_⟩
  ·rw[g]at e
   obtain⟨v,c,r⟩:=S.va i d e;exact⟨v,c,r.fr f (λa z=>.inr (j a z)) λa z=>.inr (j a z)⟩
  ·rw[g]at e
   cases e
 ow:=λi d e=>by
  rcases h i with⟨g,n⟩|⟨a,d',c,g,w⟩
  ·rw[g]at e
   obtain⟨a,c,k,w⟩:=S.ow i d e;exact⟨a,c,k,w.fr f (λa z=>.inr (j a z)) (n a c)⟩
  ·rw[g]at e
   cases e;obtain⟨l,q0⟩:=S.dom i a c;obtain⟨t,k,s,_⟩:=S.ow i l q0;rw[c]at k;cases k;exact⟨a,c,s,w⟩
 dom:=λi a e=>by
  rcases h i with⟨g,n⟩|⟨a,d',c,g,w⟩
  ·obtain⟨l,q0⟩:=S.dom i a e
   exact⟨l,g.trans q0⟩
  ·exact⟨d',g⟩
 inj:=S.inj
 old:=S.old
 zin:=λa h'=>by
  obtain⟨o,q⟩:=S.zin a h';exact⟨o,f a o q λz=>by obtain⟨i,e⟩:=j a z;exact absurd h' (S.old i a e).1⟩
 frm:=λb o q n=>by
  have h1:=S.frm b o q n;refine f b o h1 λz=>?_;obtain⟨i,e⟩:=j b z;rcases(S.old i b e).2 with w|w
  ·exact n w
  ·rw[q]at w;cases w
 par:=S.par
 pin:=λa h'=>by
  obtain⟨o,q⟩:=S.pin a h';by_cases z:P a
  ·obtain⟨i,e⟩:=j a z
   rcases h i with⟨_,n⟩|⟨t,d',c,g,w⟩
   ·exact absurd z (n a e)
   ·rw[e]at c
    cases c;obtain⟨o,q,_⟩:=w.soft;exact⟨o,q⟩
  ·exact⟨o,f a o q λy=>absurd y z⟩
 kep:=λp m=>(S.kep p m).fr f (λa z=>.inr (j a z)) λa z=>.inr (j a z)
abbrev aJ:=List cF->Option (cF×List cF)
def OD(ml:List Nat)(vs:List V):Ud->Prop:=λa=>∃i∈ml,vs[i]?=b3 (.ref a)
def Zp(Z:Ud->Prop)(ml:List Nat)(vs:List V):Ud->Prop:=λa=>Z a∨OD ml vs a
structure Vl(K:Aj)(ml:List Nat)(Z:Ud->Prop)(H:Hp)(vs:List V)(ds:List cF):Prop where
 len:vs.length=ds.length
 mem:∀i∈ml,i<ds.length
 va:∀(i:Nat) (d:cF),i∉ml->ds[i]?=b3 d->∃v,vs[i]?=b3 v/\aD K (Zp Z ml vs) H (Zp Z ml vs) v d
 ow:∀(i:Nat) (d:cF),i∈ml->ds[i]?=b3 d->∃a,vs[i]?=b3 (.ref a)/\N5 K (Zp Z ml vs) H a d/\¬Z a
 inj:∀(i j:Nat) (a:Ud),i∈ml->j∈ml->vs[i]?=b3 (.ref a)->vs[j]?=b3 (.ref a)->i=j
 zin:∀a,Z a->∃o,H a=b3 o
inductive spVi(K:Aj)(ml:List Nat)(n:Nat)(F:aJ)(vs:List V)(H:Hp)(Q:VK):Prop
 |mk (Z:Ud->Prop) (ds:List cF) (r:cF) (os:List cF) (h0:ds.length=n) (h1:Vl K ml Z H vs ds) (h2:F ds=b3 (r,os)) (h3:∀v H',Fr (OD ml vs) H H'->(∀(k i:Nat) (a:Ud) (o:cF),ml[k]?=b3 i->vs[i]?=b3 (.ref a)->os[k]?=b3 o->N5 K (Zp Z ml vs) H' a o)->aD K (Zp Z ml vs) H' (Zp Z ml vs) v r->Q v H'):spVi K ml n F vs H Q
def spV(K:Aj)(ml:List Nat)(n:Nat)(F:aJ):Sp:=λvs H Q _=>spVi K ml n F vs H Q
def aU(ml:List Nat)(n:Nat)(ds:List cF):Ev:=ds.mapIdx (λi d=>if i∈ml then Sl.ow d else Sl.va d)++Ax (n-ds.length) Sl.no
noncomputable def R0(ml:List Nat)(δ:Ev):Option (List cF):=ml.mapM λ(i:Nat)=>match(δ[i]? :Option Sl)with
 |some (Sl.ow d)=>b3 d
 |_=>b4
def Z3(n:Nat)(ml:List Nat)(g:VS):aJ:=λds=>(g (aU ml n ds)).bind λo=>match o with
 |.rt d δ=>(R0 ml δ).map λos=>(d,os)
 |.nx δ=>(R0 ml δ).map λos=>(.non,os)
 |_=>b4
theorem FD:∀{ml:List Nat}{δ:Ev}{os:List cF},R0 ml δ=b3 os->∀(k i:Nat) (o:cF),ml[k]?=b3 i->os[k]?=b3 o->δ[i]?=b3 (.ow o)
 |[],_,_,h,k,i,o,a,b=>by simp at a
 | j :: ml,δ,os,h,k,i,o,a,b => by
  unfold R0 at h;rw[Sg]at h;split at h
  ·rename_i d hd
   cases h2:(ml.mapM λ(i:Nat)=>match(δ[i]? :Option Sl)with
    |some (Sl.ow d)=>b3 d
    |_=>b4:Option (List cF))with
   |none=>rw[h2]at h;cases h
   |some c=>
    rw[h2]at h;cases h;cases k with
    |zero=>
     cases a;cases b;exact hd
    |succ k=>exact FD (ml:=ml) h2 k i o (by simpa using a) (by simpa using b)
  ·cases h
def JO{N:List Ug}{Z:Ud->Prop}{vs:List V}{ds:List cF}(A:Vl K ml Z H vs ds)(B:ds.length<=N.length):∃g:Nat->Option Ud,(∀i a,g i=b3 a↔i∈ml/\vs[i]?=b3 (.ref a))/\ZX K ml ⟨Z,OD ml vs,H,g,[]⟩ g H (start N vs) (aU ml N.length ds):=by
 classical
 let g:Nat->Option Ud:=λi=>if i∈ml then(match vs[i]? with
  |some (.ref a)=>b3 a
  |_=>b4)else b4
 have c:∀i a,g i=b3 a↔i∈ml/\vs[i]?=b3 (.ref a):=λi a=>by
  show(if i∈ml then(match vs[i]? with
   |some (.ref a)=>b3 a
   |_=>b4)else b4)=b3 a↔_
  by_cases hi:i∈ml
  ·rw[if_pos hi]
   constructor
   ·intro h
    split at h
    ·rename_i b x
     cases h;exact⟨hi,x⟩
    ·cases h
   ·rintro ⟨_,h⟩
    rw[h]
  ·rw[if_neg hi]
   exact⟨(λh=>nomatch h),λh=>absurd h.1 hi⟩
 have m:∀a,Nn ⟨Z,OD ml vs,H,g,[]⟩ g a->Zp Z ml vs a:=λa h=>by
  rcases h with h|⟨i,h⟩
  ·exact .inl h
  ·exact .inr ⟨i,(c i a).mp h⟩
 have t:∀(i:Nat) (s:Sl),(aU ml N.length ds)[i]?=b3 s->(∃d,ds[i]?=b3 d/\s=if i∈ml then .ow d else .va d)∨s=.no:=λi s h=>by
  unfold aU at h;by_cases hi:i<ds.length
  ·rw [Ak (by simpa using hi),Nb]at h
   cases q:ds[i]? with
   |none=>rw[q]at h;cases h
   |some d=>rw[q]at h;cases h;exact .inl ⟨d,rfl,rfl⟩
  ·rw [Bi (by simpa using hi),Cs]at h
   split at h
   ·cases h;exact .inr rfl
   ·cases h
 have k:∀(i:Nat) (v:V),vs[i]?=b3 v->(start N vs)[i]?=b3 (b3 v):=λi v h=>by unfold start;have hi:i<vs.length:=(Ag.mp h).1;rw[Ak (by simpa using hi),Di,h];rfl
 refine⟨g,c,?_,λi d q=>?_,λi d q=>?_,λi a q=>?_,λi j a q1 q2=>?_,λi a q=>?_,A.zin,Fr.refl _ _,⟨λi a q=>((c i a).mp q).1,λi _=>rfl⟩,λa q=>?_,λp u=>nomatch u⟩
 ·unfold start aU
  have:=A.len
  simp;lia
 ·rcases t i _ q with⟨e,h1,h2⟩|h
  ·by_cases hi:i∈ml
   ·rw[if_pos hi]at h2;cases h2
   ·rw[if_neg hi]at h2
    cases h2;obtain⟨v,f,r⟩:=A.va i d hi h1;exact⟨v,k i v f,r.mono m m⟩
  ·cases h
 ·rcases t i _ q with⟨e,h1,h2⟩|h
  ·by_cases hi:i∈ml
   ·rw[if_pos hi]at h2
    cases h2;obtain⟨a,f,w,_⟩:=A.ow i d hi h1;exact⟨a,(c i a).mpr ⟨hi,f⟩,k i _ f,w.mono m⟩
   ·rw[if_neg hi]at h2;cases h2
  ·cases h
 ·obtain⟨hi,f⟩:=(c i a).mp q
  have hl:=A.mem i hi;refine⟨ds[i],?_⟩;unfold aU;rw[Ak (by simpa using hl),Nb];simp[hl,hi]
 ·exact A.inj i j a ((c i a).mp q1).1 ((c j a).mp q2).1 ((c i a).mp q1).2 ((c j a).mp q2).2
 ·obtain⟨hi,f⟩:=(c i a).mp q
  refine⟨λz=>?_,.inl ⟨i,hi,f⟩⟩;obtain⟨y,l,_,n⟩:=A.ow i (ds[i]'(A.mem i hi)) hi (by simp[A.mem i hi]);rw[f]at l;cases l;exact n z
 ·obtain⟨i,hi,f⟩:=q
  obtain⟨y,l,w,n⟩:=A.ow i (ds[i]'(A.mem i hi)) hi (by simp[A.mem i hi]);rw[f]at l;cases l;obtain⟨o,q,_⟩:=w.soft;exact⟨o,q⟩
def Vg{N ps:List Ug}{vs:List V}{Q:VK}{E:XK}(u:ps.length<=N.length)(h:spV K ml ps.length (Z3 N.length ml g) vs H Q E):U7 K ml g {nx:=λ_ H'=>Q .non H',rt:=Q} (start N vs) H:=by
 obtain⟨Z,ds,r,os,D,AV,c,k⟩:=h;obtain⟨q,n,J⟩:=JO (N:=N) AV (by rw[D];exact u);unfold Z3 at c;obtain⟨o,h1,c⟩:=Ac.mp c;refine⟨_,q,_,o,J,h1,?_⟩;have s:∀(δ':Ev) (v:V) (f:St) (H':Hp) (p:Nat->Option Ud),R0 ml δ'=b3 os->ZX K ml ⟨Z,OD ml vs,H,q,[]⟩ p H' f δ'->aD K (rz ⟨Z,OD ml vs,H,q,[]⟩) H' (rz ⟨Z,OD ml vs,H,q,[]⟩) v r->Q v H':=λδ' v f H' p C l m=>by
  have hz:∀a,Zp Z ml vs a->rz ⟨Z,OD ml vs,H,q,[]⟩ a:=λa h=>by
   rcases h with h|⟨i,hi,e⟩
   ·exact .inl h
   ·exact .inr ⟨i,(n i a).mpr ⟨hi,e⟩⟩
  refine k v H' l.frm (λB i a o A I G=>?_) (m.mono hz hz);have hd:=FD C B i o A G;obtain⟨L,z,_,w⟩:=l.ow i o hd;have hi:i∈ml:=Ee A;have:=(l.par.2 i hi).trans ((n i a).mpr ⟨hi,I⟩)
  rw[this]at z;cases z;refine w.mono λb x=>?_;rcases x with x|⟨j,y,F⟩
  ·exact .inl x
  ·exact .inr ⟨j,(l.par.2 j y).trans ((n j b).mpr ⟨y,F⟩)⟩
 cases o with
 |rt d δ'=>
  have c:(R0 ml δ').map (λos=>(d,os))=b3 (r,os):=c;cases h2:R0 ml δ' with
  |none=>rw[h2]at c;cases c
  |some t=>
   rw[h2]at c;cases c;exact λv f H' p l m=>s δ' v f H' p h2 l m
 |nx δ'=>
  have c:(R0 ml δ').map (λos=>(cF.non,os))=b3 (r,os):=c;cases h2:R0 ml δ' with
  |none=>rw[h2]at c;cases c
  |some t=>
   rw[h2]at c;cases c;exact λf H' p l=>s δ' .non f H' p h2 l .non
 |bk δ'=>cases c
 |ct δ'=>cases c
def LX.okV{P:Be}{w:Ul}{mg:Ug->Option Uc}{base:Um}{x qual:Ug}{st:Up}{f:Ud}{fd:Cr}{N ps:List Ug}{k:Nat}(F:LX K x qual st f fd)(S:ZI N ps (bX st))(b:ps.length<=N.length)(e:∀(a:Uc) (A:Bx) (outer:List Env) (s:Ae) (H:Hp) (E:XK),X1 k (A.deeper (envOfC qual (bX st) s.heap.objs.size f a))->V6 (RK CX0 P w K mg base N qual (bX st) f a A outer s H E).nox (aC st) (U7 K ml g)):U4 P w K mg base CX0 (k+1) f fd ps (spV K ml ps.length (Z3 N.length ml g)):=by refine F.ok S (λvs H Q E h=>?_) (λa A outer s H vs Q E c h=>⟨_,e a A outer s H E c,Vg b h⟩);obtain⟨Z,ds,r,os,d,AV,_⟩:=h;rw[AV.len,d]
inductive AV where
 |d (d:cF)|o (j:Nat)
inductive T7(K:Aj)(N:Ud->Prop)(H:Hp)(σ:St):List V->List AV->Prop
 |nil:T7 K N H σ [] []
 |d {v:V}{vs:List V}{d:cF}{as:List AV}:aD K N H N v d->T7 K N H σ vs as->T7 K N H σ (v::vs) (.d d::as)
 |o {v:V}{vs:List V}{j:Nat}{as:List AV}:σ[j]?=b3 (b3 v)->T7 K N H σ vs as->T7 K N H σ (v::vs) (.o j::as)
abbrev QI:=Ev->Option (List AV×Ev)
structure ResG(K:Aj)(ml:List Nat)(B:Bs)(O:Nat->Option Ud)(H:Hp)(σ:St)(pu:Bool)(H':Hp)(δ':Ev)(vs:List V)(as:List AV):Prop where
 sta:ZX K ml B O H' σ δ'
 frm:Fr (OA O) H H'
 pur:pu=b8->Z6 H H'
 rep:T7 K (Nn B O) H' σ vs as
inductive TAGi(K:Aj)(ml:List Nat)(pu:Bool)(f:QI)(σ:St)(H:Hp)(Q:List V->Hp->Prop):Prop
 |mk (B:_) (O:_) (δ:_) (as:_) (δ':_) (h0:ZX K ml B O H σ δ) (h1:f δ=b3 (as,δ')) (h2:∀vs H',ResG K ml B O H σ pu H' δ' vs as->Q vs H'):TAGi K ml pu f σ H Q
def TAG(K:Aj)(ml:List Nat)(pu:Bool)(f:QI):TA:=λσ H Q=>TAGi K ml pu f σ H Q
def bO:QI:=λδ=>b3 ([],δ)
noncomputable def aE(f:VF)(fs:QI):QI:=λδ=>(f δ).bind λp=>(fs p.2).map λq=>(.d p.1::q.1,q.2)
noncomputable def slot(δ:Ev)(j:Nat):Option cF:=match δ[j]? with
 |some (.va d)=>b3 d
 |some (.ow d)=>b3 d
 |_=>b4
def aO(j:Nat)(fs:QI):QI:=λδ=>(slot δ j).bind λ_=>(fs δ).map λq=>(.o j::q.1,q.2)
def b6:PA X [] (TAG K ml b8 bO):=ZB.imp λσ H Q a=>by obtain⟨B,O,δ,d,δ',S,q,k⟩:=a;cases q;exact k [] H ⟨S,Fr.refl _ _,λ_=>Z6.refl _,.nil⟩
def b9{fs:QI}(h:PE X a (TV K ml pa b8 b8 fa))(g:PA X es (TAG K ml ps fs))(hs:SE X a es:=by rfl):PA X (a::es) (TAG K ml (pa&&ps) (aE fa fs)):=(aW h g hs).imp λσ H Q c=>by obtain⟨B,O,δ,as,δ2,S,q,k⟩:=c;unfold aE at q;obtain⟨⟨x,δ1⟩,h1,q⟩:=Ac.mp q;have q:((fs δ1).map λq=>(AV.d x::q.1,q.2))=b3 (as,δ2):=q;obtain⟨p2,h2,q⟩:=As.mp q;cases q;refine⟨B,O,δ,x,δ1,S,h1,λi H1 b=>⟨B,O,δ1,_,_,b.sta,h2,λvs H2 R2=>k _ H2 ⟨R2.sta,b.frm.trans R2.frm,λz=>?_,.d (b.rep.fr R2.frm (λa z=>.inr z) λa z=>.inr z) R2.rep⟩⟩⟩;obtain⟨f,e⟩:=(Af _ _).mp z;exact(b.pur f).trans (R2.pur e)
def JM{j:Nat}{d:cF}(h:slot δ j=b3 d):δ[j]?=b3 (.va d)∨δ[j]?=b3 (.ow d):=by
 unfold slot at h;split at h
 ·cases h;exact .inl (by assumption)
 ·cases h;exact .inr (by assumption)
 ·cases h
def ZX.slot(S:ZX K ml B O H σ δ){j:Nat}{d:cF}(h:slot δ j=b3 d):∃v,σ[j]?=b3 (b3 v):=by
 rcases JM h with h|h
 ·obtain⟨v,e,_⟩:=S.va j d h
  exact⟨v,e⟩
 ·obtain⟨a,_,e,_⟩:=S.ow j d h
  exact⟨_,e⟩
def aV{fs:QI}{j:Nat}(f:PE X a (NZ j))(c:PA X es (TAG K ml ps fs))(hs:SE X a es:=by rfl):PA X (a::es) (TAG K ml ps (aO j fs)):=(aW f c hs).imp λσ H Q b=>by obtain⟨B,O,δ,as,δ2,S,q,k⟩:=b;unfold aO at q;obtain⟨d,h1,q⟩:=Ac.mp q;have q:((fs δ).map λq=>(AV.o j::q.1,q.2))=b3 (as,δ2):=q;obtain⟨p2,h2,q⟩:=As.mp q;cases q;obtain⟨v,e⟩:=S.slot h1;exact⟨v,e,B,O,δ,_,_,S,h2,λvs H2 R2=>k _ H2 ⟨R2.sta,R2.frm,R2.pur,.o e R2.rep⟩⟩
theorem T7.length:∀{N:Ud->Prop}{vs:List V}{as:List AV},T7 K N H σ vs as->vs.length=as.length
 |_,_,_,.nil=>rfl
 |_,_,_,.d _ t=>congrArg (· +1) (T7.length t)
 |_,_,_,.o _ t=>congrArg (· +1) (T7.length t)
theorem T7.getD:∀{N:Ud->Prop}{vs:List V}{as:List AV}{i:Nat}{d:cF},T7 K N H σ vs as->as[i]?=b3 (.d d)->∃v,vs[i]?=b3 v/\aD K N H N v d
 |_,_,_,_,_,.nil,e=>by simp at e
 |_,_,_,0,_,.d h _,e=>by simp at e;subst e;exact⟨_,rfl,h⟩
 |_,_,_,0,_,.o h _,e=>by simp at e
 |_,_,_,i+1,_,.d _ t,e=>by obtain⟨u,h1,h2⟩:=T7.getD (i:=i) t (by simpa using e);exact⟨u,by simpa using h1,h2⟩
 |_,_,_,i+1,_,.o _ t,e=>by obtain⟨u,h1,h2⟩:=T7.getD (i:=i) t (by simpa using e);exact⟨u,by simpa using h1,h2⟩
theorem T7.getO:∀{N:Ud->Prop}{vs:List V}{as:List AV}{i j:Nat},T7 K N H σ vs as->as[i]?=b3 (.o j)->∃v,vs[i]?=b3 v/\σ[j]?=b3 (b3 v)
 |_,_,_,_,_,.nil,e=>by simp at e
 |_,_,_,0,_,.d h _,e=>by simp at e
 |_,_,_,0,_,.o h _,e=>by simp at e;subst e;exact⟨_,rfl,h⟩
 |_,_,_,i+1,_,.d _ t,e=>by obtain⟨u,h1,h2⟩:=T7.getO (i:=i) t (by simpa using e);exact⟨u,by simpa using h1,h2⟩
 |_,_,_,i+1,_,.o _ t,e=>by obtain⟨u,h1,h2⟩:=T7.getO (i:=i) t (by simpa using e);exact⟨u,by simpa using h1,h2⟩
def argD(δ:Ev):AV->Option cF
 |.d d=>b3 d
 |.o j=>slot δ j
noncomputable def UY(δ:Ev):List AV->Option (List cF)
 |[]=>b3 []
 |a::as=>(argD δ a).bind λd=>(UY δ as).map λds=>d::ds
theorem HU:∀{as:List AV}{ds:List cF},UY δ as=b3 ds->as.length=ds.length/\∀(i:Nat) (d:cF),ds[i]?=b3 d->∃a,as[i]?=b3 a/\argD δ a=b3 d
 |[],ds,h=>by cases h;exact⟨rfl,λi d e=>by simp at e⟩
 | a :: as,ds,h => by
  unfold UY at h;obtain⟨d,h1,h⟩:=Ac.mp h;cases h2:UY δ as with
  |none=>simp[h2]at h
  |some k=>
   simp only[An,h2]at h;cases h;obtain⟨l,g⟩:=HU h2;refine⟨by simp[l],λi e c=>?_⟩;cases i with
   |zero=>cases c;exact⟨a,rfl,h1⟩
   |succ i=>
    obtain⟨b,j,f⟩:=g i e (by simpa using c);exact⟨b,by simpa using j,f⟩
noncomputable def SI:List AV->List Nat
 |[]=>[]
 |.d _::as=>SI as
 |.o j::as=>j::SI as
theorem NP:∀{as:List AV}{i j:Nat},as[i]?=b3 (.o j)->j∈SI as
 |[],_,_,e=>by simp at e
 |.d _::as,0,j,e=>by simp at e
 |.o k::as,0,j,e=>by simp at e;subst e;exact Bb
 |.d _::as,i+1,j,e=>NP (as:=as) (i:=i) (by simpa using e)
 |.o k::as,i+1,j,e=>Aq _ (NP (as:=as) (i:=i) (by simpa using e))
theorem AL:∀{as:List AV}{j:Nat},j∈SI as->∃i:Nat,as[i]?=b3 (AV.o j)
 |[],_,h=>nomatch h
 |.d _::as,j,h=>by obtain⟨i,e⟩:=AL (as:=as) h;exact⟨i+1,by simpa using e⟩
 | .o k :: as,j,h => by
  rcases Ai.mp h with e|e
  ·exact⟨0,by rw[e];rfl⟩
  ·obtain⟨i,e⟩:=AL (as:=as) e
   exact⟨i+1,by simpa using e⟩
theorem GX:∀{as:List AV}{i k j:Nat},(SI as).Nodup->as[i]?=b3 (.o j)->as[k]?=b3 (.o j)->i=k
 |[],_,_,_,_,e,_=>by simp at e
 |.d _::as,0,_,j,_,e,_=>by simp at e
 |.d _::as,_+1,0,j,_,_,e=>by simp at e
 |.d _::as,i+1,k+1,j,n,b,a=>congrArg (· +1) (GX (as:=as) n (by simpa using b) (by simpa using a))
 |.o x::as,0,0,j,_,_,_=>rfl
 |.o x::as,0,k+1,j,n,b,a=>by
  simp at b;subst b;have h:as[k]?=b3 (.o x):=by simpa using a
  exact absurd (NP h) (De.mp n).1
 |.o x::as,i+1,0,j,n,b,a=>by
  simp at a;subst a;have h:as[i]?=b3 (.o x):=by simpa using b
  exact absurd (NP h) (De.mp n).1
 |.o x::as,i+1,k+1,j,n,b,a=>congrArg (· +1) (GX (as:=as) (De.mp n).2 (by simpa using b) (by simpa using a))
noncomputable def AT(δ:Ev)(as:List AV)(i:Nat):Bool:=match as[i]? with
 |some (.o j)=>match δ[j]? with
  |some (.ow _)=>b8
  |_=>ba
 |_=>ba
noncomputable def VA(mF:List Nat):List AV->Nat->Bool
 |[],_=>b8
 |.d _::as,i=>VA mF as (i+1)
 |.o _::as,i=>decide (i∈mF)&&VA mF as (i+1)
theorem QY{mF:List Nat}:∀{as:List AV}{k i j:Nat},VA mF as k=b8->as[i]?=b3 (.o j)->k+i∈mF
 |[],_,_,_,_,e=>by simp at e
 |.d _::as,k,0,j,h,e=>by simp at e
 |.o _::as,k,0,j,h,e=>by simp only[VA,Af,decide_eq_true_eq]at h;exact h.1
 |.d _::as,k,i+1,j,h,e=>by
  have:=QY (as:=as) (k:=k+1) (i:=i) (j:=j) h (by simpa using e)
  rwa[show k+(i+1)=k+1+i by lia]
 |.o _::as,k,i+1,j,h,e=>by
  simp only[VA,Af]at h;have:=QY (as:=as) (k:=k+1) (i:=i) (j:=j) h.2 (by simpa using e)
  rwa[show k+(i+1)=k+1+i by lia]
def RT:cF->Bool
 |.lst ds=>RP ds
 |.dct _ ds=>RP ds
 |_=>ba
def N5.kids{N N':Ud->Prop}{a:Ud}(w:N5 K N H a d)(h:RT d=b8):N5 K N' H a d:=by
 cases w with
 |lst q r=>exact .lst q (r.hard h)
 |dct q r=>exact .dct q (r.hard h)
noncomputable def UH(as:List AV):List Nat->List cF->Ev->Ev
 |i::is,o::os,δ=>match as[i]? with
  |some (.o j)=>UH as is os (δ.set j (.ow o))
  |_=>UH as is os δ
 |_,_,δ=>δ
theorem O8{as:List AV}:∀{is:List Nat}{os:List cF}{δ:Ev},(UH as is os δ).length=δ.length
 |[],_,_=>rfl
 |_::_,[],_=>rfl
 |i::is,o::os,δ=>by
  unfold UH;split
  ·rw[O8,Cg]
  ·rw[O8]
theorem LC{as:List AV}:∀{is:List Nat}{os:List cF}{δ:Ev}(j:Nat),is.length=os.length->j<δ.length->(∃(k i:Nat) (o:cF),is[k]?=b3 i/\os[k]?=b3 o/\as[i]?=b3 (AV.o j)/\(UH as is os δ)[j]?=b3 (Sl.ow o))∨((∀i∈is,as[i]? ≠b3 (AV.o j))/\(UH as is os δ)[j]?=δ[j]?)
 |[],[],δ,j,_,_=>.inr ⟨(λi h=>nomatch h),rfl⟩
 | i :: is,o :: os,δ,j,hl,d => by
  unfold UH;split
  ·rename_i g l
   rcases LC (is:=is) (os:=os) (δ:=δ.set g (.ow o)) j (by simpa using hl) (by rw[Cg];exact d)with⟨k,a,o',h1,h2,f,e⟩|⟨h1,h2⟩
   ·exact .inl ⟨k+1,a,o',by simpa using h1,by simpa using h2,f,e⟩
   ·by_cases b:j=g
    ·subst b
     rw[Dk d]at h2;exact .inl ⟨0,i,o,rfl,rfl,l,h2⟩
    ·rw[Bz (Ck b)]at h2
     refine .inr ⟨λa c=>?_,h2⟩;rcases Ai.mp c with z|z
     ·rw[z,l]
      intro w;cases w;exact b rfl
     ·exact h1 a z
  ·rename_i m
   rcases LC (is:=is) (os:=os) (δ:=δ) j (by simpa using hl) d with⟨k,a,o',h1,h2,f,e⟩|⟨h1,h2⟩
   ·exact .inl ⟨k+1,a,o',by simpa using h1,by simpa using h2,f,e⟩
   ·refine .inr ⟨λa c => ?_,h2⟩
    rcases Ai.mp c with z|z
    ·rw[z]
     exact λw=>m j w
    ·exact h1 a z
def S9(mF:List Nat)(as:List AV)(δ:Ev):Bool:=mF.all (AT δ as)&&decide (SI as).Nodup
def UN(mF:List Nat)(as:List AV)(r:cF)(os:List cF):Bool:=(VA mF as 0 || r.hard)&&(VA mF as 0 || os.all RT)&&decide (mF.length=os.length)
def bW(n:Nat)(mF:List Nat)(F:aJ)(fs:QI):VF:=λδ=>(fs δ).bind λp=>(UY p.2 p.1).bind λds=>if ds.length=n/\S9 mF p.1 p.2=b8 then(F ds).bind λq=>if UN mF p.1 q.1 q.2=b8 then b3 (q.1,UH p.1 mF q.2 p.2)else b4 else b4
def HL{n:Nat}{mF:List Nat}{F:aJ}{fs:QI}{Q:VK}(h:TV K ml (ps && mF.isEmpty) b8 b8 (bW n mF F fs) σ H Q):BR (spV K mF n F) [] E0 (TAG K ml ps fs) σ H Q:=by
 obtain⟨B,O,δ,d,δ2,S,q,k⟩:=h;unfold bW at q;obtain⟨⟨as,δ1⟩,h1,q⟩:=Ac.mp q;have q:((UY δ1 as).bind λds=>if ds.length=n/\S9 mF as δ1=b8 then(F ds).bind λq=>if UN mF as q.1 q.2=b8 then b3 (q.1,UH as mF q.2 δ1)else b4 else b4)=b3 (d,δ2):=q;obtain⟨ds,h2,q⟩:=Ac.mp q;have q:(if ds.length=n/\S9 mF as δ1=b8 then(F ds).bind λq=>if UN mF as q.1 q.2=b8 then b3 (q.1,UH as mF q.2 δ1)else b4 else b4)=b3 (d,δ2):=q;split at q
 ·rename_i hc
  obtain⟨⟨r,os⟩,h3,q⟩:=Ac.mp q;have q:(if UN mF as r os=b8 then b3 (r,UH as mF os δ1)else b4)=b3 (d,δ2):=q;split at q
  ·rename_i T
   cases q;obtain⟨hn,hc⟩:=hc;simp only[S9,Af,decide_eq_true_eq,Eh]at hc;simp only[UN,Af,decide_eq_true_eq]at T;obtain⟨Y,hnd⟩:=hc;obtain⟨⟨jb,jj⟩,am⟩:=T;refine⟨B,O,δ,as,δ1,S,h1,λvs H1 R=>?_⟩;show spV K mF n F (vs++[]) H1 Q E0;rw[Ds];obtain⟨U,V⟩:=HU h2;have G:∀i∈mF,∃j a x,as[i]?=b3 (.o j)/\δ1[j]?=b3 (.ow x)/\O j=b3 a/\vs[i]?=b3 (.ref a)/\N5 K (Nn B O) H1 a x:=λi hi=>by
    have:=Y i hi
    unfold AT at this;split at this
    ·rename_i j ej
     split at this
     ·rename_i x ex
      obtain⟨a,c,g,w⟩:=R.sta.ow j x ex;obtain⟨v,l,t⟩:=R.rep.getO ej;rw[g]at t;cases t;exact⟨j,a,x,ej,ex,c,l,w⟩
     ·cases this
    ·cases this
   have hP:∀a,OD mF vs a->∃i j,i∈mF/\as[i]?=b3 (.o j)/\O j=b3 a:=λa q0=>by obtain⟨i,hi,e⟩:=q0;obtain⟨j,a',x,c,_,g,l,_⟩:=G i hi;rw[e]at l;cases l;exact⟨i,j,hi,c,g⟩
   have L:∀a,OD mF vs a->OA O a:=λa h=>by obtain⟨i,j,_,_,e⟩:=hP a h;exact⟨j,e⟩
   have s:∀a,Zp (λa=>Nn B O a/\∀j∈SI as,O j≠b3 a) mF vs a->Nn B O a:=λa h=>by
    rcases h with h|h
    ·exact h.1
    ·exact .inr (L a h)
   refine⟨λa=>Nn B O a/\∀j∈SI as,O j≠b3 a,ds,_,os,hn,⟨by rw[<-U,R.rep.length],λi hi=>?_,λi x hi e=>?_,λi x hi e=>?_,λi j a hi W c g=>?_,λa h=>R.sta.nin h.1⟩,h3,λv H2 f2 w2 r2=>?_⟩
   ·obtain⟨j,a,x,c,_⟩:=G i hi
    rw[<-U];exact(Ag.mp c).1
   ·obtain⟨a,c,g⟩:=V i x e
    cases a with
    |d y=>
     cases g;obtain⟨v,l,r⟩:=R.rep.getD c;exact⟨v,l,r.mono s s⟩
    |o j=>
     obtain⟨v,l,t⟩:=R.rep.getO c;refine⟨v,l,?_⟩;rcases JM g with C|C
     ·obtain⟨v',A,r⟩:=R.sta.va j x C
      rw[t]at A;cases A;exact r.mono s s
     ·obtain⟨a,J,A,w⟩:=R.sta.ow j x C
      rw[t]at A;cases A;refine(w.mono s).rep λz=>?_;rcases z with z|z
      ·exact z.2 j (NP c) J
      ·obtain⟨P,m,f,I,M⟩:=hP a z
       have:j=m:=R.sta.inj j m a J M
       subst this;have:=GX hnd c I
       subst this;exact hi f
   ·obtain⟨a,c,g⟩:=V i x e
    obtain⟨j,b,y,l,t,C,A,w⟩:=G i hi;rw[l]at c;cases c;have J:slot δ1 j=b3 y:=by unfold slot;rw[t]
    have g:slot δ1 j=b3 x:=g;rw[J]at g;cases g;exact⟨b,A,w.mono s,λz=>z.2 j (NP l) C⟩
   ·obtain⟨j1,b1,_,l,_,t,C,_⟩:=G i hi
    obtain⟨j2,b2,_,A,_,J,I,_⟩:=G j W;rw[c]at C;cases C;rw[g]at I;cases I;have:j1=j2:=R.sta.inj j1 j2 a t J
    subst this;exact GX hnd l A
   ·have S2:ZX K ml B O H2 σ (UH as mF os δ1):=by
     refine R.sta.call O8 (λj=>?_) f2 L;by_cases W:j<δ1.length
     ·rcases LC (as:=as) (is:=mF) (os:=os) (δ:=δ1) j am W with⟨kk,i,o,c,g,l,t⟩|⟨c,g⟩
      ·obtain⟨m,a,x,C,_,A,J,_⟩:=G i (Ee c)
       rw[l]at C;cases C;have w:=w2 kk i a o c J g;refine .inr ⟨a,o,A,t,?_⟩;rcases(Ic _ _).mp jj with z|z
       ·refine w.mono λb T => ?_
        by_cases u:∃m∈SI as,O m=b3 b
        ·obtain⟨m,p,I⟩:=u
         obtain⟨P,M⟩:=AL p;have f:=QY z M;rw[Iw]at f;obtain⟨X,a'',_,E,_,D,N,_⟩:=G P f;rw[M]at E;cases E;rw[I]at D;cases D;exact .inr ⟨P,f,N⟩
        ·exact .inl ⟨T,λm p e=>u ⟨m,p,e⟩⟩
       ·exact w.kids (Eh.mp z o (Ee g))
      ·refine .inl ⟨g,λa ea Z => ?_⟩
       obtain⟨i,m,hi,l,t⟩:=hP a Z;have:j=m:=R.sta.inj j m a ea t
       subst this;exact c i hi l
     ·refine .inl ⟨?_,λa ea => ?_⟩
      ·rw[Ct (by rw[O8];lia),Ct (by lia)]
      ·obtain⟨x,ex⟩:=R.sta.dom j a ea
       exact absurd (Ag.mp ex).1 W
    refine k v H2 ⟨S2,R.frm.trans (f2.mono L),λz=>?_,?_⟩
    ·obtain⟨z1,z2⟩:=(Af _ _).mp z
     refine(R.pur z1).trans λb o e=>f2 b o e λw=>?_;obtain⟨i,hi,_⟩:=w;rw[Qm.mp z2]at hi;cases hi
    ·rcases(Ic _ _).mp jb with z|z
     ·have hN : ∀ a,Nn B O a -> Zp (λa => Nn B O a /\ ∀ j ∈ SI as,O j ≠ b3 a) mF vs a := λb T => by
       by_cases u:∃m∈SI as,O m=b3 b
       ·obtain⟨m,p,I⟩:=u
        obtain⟨P,M⟩:=AL p;have f:=QY z M;rw[Iw]at f;obtain⟨X,a'',_,E,_,D,N,_⟩:=G P f;rw[M]at E;cases E;rw[I]at D;cases D;exact .inr ⟨P,f,N⟩
       ·exact .inl ⟨T,λm p e=>u ⟨m,p,e⟩⟩
      exact r2.mono hN hN
     ·exact r2.hard z
  ·cases q
 ·cases q
def ln{x:Ug}{c j n:Nat}{d:List Ug}{mF:List Nat}{F:aJ}{o:Ud}{p':Pos}{fs:QI}(m:X.K=K)(D:Def X.prog X.w K X.mg X.base x c d (spV K mF n F) o)(f:X1 j X.A)(g:c<=j)(i:Gl X x)(l:PA X (e::es) (TAG K ml ps fs))(b:ND x:=by decide)(k:SE X e es:=by rfl)(a:(Ei pos (Uh es X.env)).any (·.1)=ba:=by rfl):PE X (.Call (.Name x p') (e::es) [] pos) (TV K ml (ps&&mF.isEmpty) b8 b8 (bW n mF F fs)):=by subst m;exact(FF D f g i l b k a).imp λ_ _ _ h=>HL h
end
section
variable{X:Cx}{K:Aj}{ml:List Nat}{e a b c:Uj}{es:List Uj}{pi pt pe pu bt bi ps bs:Bool}{f:VF}{B B':Bs}{O:Nat->Option Ud}{H H0 H1 H':Hp}{σ:St}{δ δ':Ev}{v:V}{d:cF}{p:Ud}{pos:Pos}{ix:List Nat}{nl:Nat}
def Z1(ix:List Nat)(δ:Ev):Ev:=ix.map λi=>(δ[i]?).getD .no
def JA(nl:Nat):Ev:=Ax nl Sl.no
noncomputable def YO(n nl:Nat)(gg:VG)(tb:VB)(fe:VF):List cF->List cF->Ev->Option (List cF×Ev)
 |[],acc,δ=>b3 (acc,δ)
 |d::r,acc,δ=>(gg d (δ++JA nl)).bind λδ1=>(tb δ1).bind λp=>if p.1=b8 then(fe p.2).bind λq=>if acc.length<16777216 then YO n nl gg tb fe r (acc++[q.1]) (q.2.take n)else b4 else YO n nl gg tb fe r acc (p.2.take n)
noncomputable def X6:List Nat->Ev->Ev->Ev
 |i::is,s::ss,δ=>match s with
  |.ow d=>X6 is ss (δ.set i (.ow d))
  |_=>X6 is ss δ
 |_,_,δ=>δ
def ZD(ix:List Nat)(nl:Nat)(fi:VI)(gg:VG)(tb:VB)(fe:VF):VF:=λδ=>(fi δ).bind λp=>(YO ix.length nl gg tb fe p.1 [] (Z1 ix p.2)).map λq=>(.lst q.1,X6 ix q.2 p.2)
def V7:VB:=λδ=>b3 (b8,δ)
theorem T9:∀{ix:List Nat}{ss δ:Ev},(X6 ix ss δ).length=δ.length
 |[],_,_=>rfl
 |_::_,[],_=>rfl
 |i::is,s::ss,δ=>by
  cases s<;>simp only[X6]<;>rw[T9]<;>try rw[Cg]
theorem T8:∀{ix:List Nat}{ss δ:Ev}(i:Nat),i<δ.length->ix.length=ss.length->(∃(j:Nat) (d:cF),ix[j]?=b3 i/\ss[j]?=b3 (Sl.ow d)/\(X6 ix ss δ)[i]?=b3 (Sl.ow d))∨((∀(j:Nat) (d:cF),ix[j]?=b3 i->ss[j]? ≠b3 (Sl.ow d))/\(X6 ix ss δ)[i]?=δ[i]?)
 |[],ss,δ,i,hi,hl=>.inr ⟨(λj d h=>by simp at h),rfl⟩
 |k::is,[],δ,i,hi,hl=>by cases hl
 | k :: is,s :: ss,δ,i,hi,hl => by
  have a:is.length=ss.length:=by simpa using hl
  cases s with
  |ow d=>
   simp only[X6];rcases T8 (ix:=is) (ss:=ss) (δ:=δ.set k (.ow d)) i (by rw[Cg];exact hi) a with⟨j,d',h1,h2,b⟩|⟨h1,h2⟩
   ·exact .inl ⟨j+1,d',by simpa using h1,by simpa using h2,b⟩
   ·by_cases c:i=k
    ·subst c
     rw[Dk hi]at h2;exact .inl ⟨0,d,rfl,rfl,h2⟩
    ·rw[Bz (Ck c)]at h2
     refine .inr ⟨λj d' e=>?_,h2⟩;cases j with
     |zero=>cases e;exact absurd rfl c
     |succ j=>simpa using h1 j d' (by simpa using e)
  |va d=>
   simp only[X6];rcases T8 (ix:=is) (ss:=ss) (δ:=δ) i hi a with⟨j,d',h1,h2,b⟩|⟨h1,h2⟩
   ·exact .inl ⟨j+1,d',by simpa using h1,by simpa using h2,b⟩
   ·refine .inr ⟨λj d' e => ?_,h2⟩
    cases j with
    |zero=>simp
    |succ j=>simpa using h1 j d' (by simpa using e)
  |no=>
   simp only[X6];rcases T8 (ix:=is) (ss:=ss) (δ:=δ) i hi a with⟨j,d',h1,h2,b⟩|⟨h1,h2⟩
   ·exact .inl ⟨j+1,d',by simpa using h1,by simpa using h2,b⟩
   ·refine .inr ⟨λj d' e => ?_,h2⟩
    cases j with
    |zero=>simp
    |succ j=>simpa using h1 j d' (by simpa using e)
def Oc(ix:List Nat)(O:Nat->Option Ud):Nat->Option Ud:=λj=>(ix[j]?).bind O
def Bc(ix:List Nat)(B:Bs)(O:Nat->Option Ud)(H0:Hp)(D:Ud)(kp:List (V×cF)):Bs:=
 ⟨λa=>(B.Z a∨a=D)∨∃i,O i=b3 a/\i∉ix,OA (Oc ix O),H0,Oc ix O,kp⟩
def IW{D:Ud}{kp:List (V×cF)}:∀a,Nn (Bc ix B O H0 D kp) (Oc ix O) a->Nn B O a∨a=D:=λa h=>by
 rcases h with((h|h)|⟨i,h,_⟩)|⟨j,h⟩
 ·exact .inl (.inl h)
 ·exact .inr h
 ·exact .inl (.inr ⟨i,h⟩)
 ·unfold Oc at h
  cases q:ix[j]? with
  |none=>rw[q]at h;cases h
  |some i=>rw[q]at h;exact .inl (.inr ⟨i,h⟩)
def NT{D:Ud}{kp:List (V×cF)}:∀a,Nn (B.add D) O a->Nn (Bc ix B O H0 D kp) (Oc ix O) a:=λa h=>by
 rcases h with h|⟨i,h⟩
 ·exact .inl (.inl h)
 ·by_cases hi:i∈ix
  ·obtain⟨j,b⟩:=Ja.mp hi
   exact .inr ⟨j,by unfold Oc;rw[b];exact h⟩
  ·exact .inl (.inr ⟨i,h,hi⟩)
def ZX.withKp{kp:List (V×cF)}(S:ZX K ml B O H σ δ)(h:∀p∈kp,aD K (Nn B O) H (Nn B O) p.1 p.2):ZX K ml {B with kp:=kp} O H σ δ:=
 ⟨S.len,S.va,S.ow,S.dom,S.inj,S.old,S.zin,S.frm,S.par,S.pin,h⟩
def ZX.writeZ{D:Ud}{o:HO}{acc:List V}(S:ZX K ml B O H σ δ)(k:B.Z D)(hl:H D=b3 (.lst acc))(m:B.H0 D=b4):ZX K ml B O (upd H D o) σ δ:=by
 have j:Fr (λb=>b=D) H (upd H D o):=λb u q n=>by
  by_cases c:b=D
  ·subst c
   rw[hl]at q;cases q;exact absurd (n rfl) λz=>z
  ·rw[bA c]
   exact q
 have g:∀b,b=D->Nn B O b:=λb z=>.inl (z▸k);have f:∀b,(∃u,H b=b3 u)->∃u,upd H D o b=b3 u:=λb q0=>by
  obtain⟨u,q⟩:=q0;by_cases c:b=D
  ·exact⟨o,by rw[c];exact bK⟩
  ·exact⟨u,by rw[bA c];exact q⟩
 refine⟨S.len,λi d q=>?_,λi d q=>?_,S.dom,S.inj,S.old,λb h=>f b (S.zin b h),λb u q n=>?_,S.par,λb h=>f b (S.pin b h),λp l=>(S.kep p l).fr j g g⟩
 ·obtain⟨v,e,r⟩:=S.va i d q
  exact⟨v,e,r.fr j g g⟩
 ·obtain⟨a,e,s,w⟩:=S.ow i d q
  exact⟨a,e,s,w.fr j g λz=>(S.old i a e).1 (z▸k)⟩
 ·have c : b ≠ D := λz => by rw [z,m]at q;cases q
  rw[bA c];exact S.frm b u q n
def IB{j:Nat}{s:Sl}(h:(Z1 ix δ++JA nl)[j]?=b3 s):(∃i,ix[j]?=b3 i/\s=(δ[i]?).getD .no)∨s=.no:=by
 unfold Z1 JA at h;by_cases a:j<ix.length
 ·rw [Ak (by simpa using a),Di]at h
  cases q:ix[j]? with
  |none=>rw[q]at h;cases h
  |some i=>rw[q]at h;cases h;exact .inl ⟨i,rfl,rfl⟩
 ·rw [Bi (by simpa using a),Cs]at h
  split at h
  ·cases h;exact .inr rfl
  ·cases h
def EF{i j:Nat}{v:V}(hi:ix[j]?=b3 i)(h:σ[i]?=b3 (b3 v)):(ZN ix σ++Ax nl b4)[j]?=b3 (b3 v):=by have a:j<ix.length:=(Ag.mp hi).1;unfold ZN;rw[Ak (by simpa using a),Di,hi];show b3 ((σ[i]?).join)=_;rw[h];rfl
def ZX.inner{D:Ud}(S:ZX K ml B O H0 σ δ)(b:H0 D=b4)(hnd:ix.Nodup){l:List (V×cF)}(t:∀p∈l,aD K (Nn B O) H0 (Nn B O) p.1 p.2):
  ZX K (Az ix.length) (Bc ix B O H0 D l) (Oc ix O) (upd H0 D (.lst [])) (ZN ix σ++Ax nl b4) (Z1 ix δ++JA nl) where
 len:=by simp[ZN,Z1,JA]
 va := λj d e => by
  rcases IB e with⟨i,hi,q⟩|q
  ·have q:δ[i]? =b3 (.va d):=by
    cases w:δ[i]? with
    |none=>rw[w]at q;cases q
    |some s=>rw[w]at q;rw[show s=.va d from q.symm]
   obtain⟨v,c,r⟩:=S.va i d q;exact⟨v,EF hi c,(r.away b _ _ IW IW).same (bZ b)⟩
  ·cases q
 ow := λj d e => by
  rcases IB e with⟨i,hi,q⟩|q
  ·have q:δ[i]? =b3 (.ow d):=by
    cases w:δ[i]? with
    |none=>rw[w]at q;cases q
    |some s=>rw[w]at q;rw[show s=.ow d from q.symm]
   obtain⟨a,c,f,w⟩:=S.ow i d q;refine⟨a,by unfold Oc;rw[hi];exact c,EF hi f,?_⟩;cases w with
   |lst u r=>exact .lst (bZ b _ _ u) ((r.away b _ _ IW).same (bZ b))
   |dct u r=>exact .dct (bZ b _ _ u) ((r.away b _ _ IW).same (bZ b))
  ·cases q
 dom:=λj a e=>by unfold Oc at e;obtain⟨i,hi,e⟩:=Ac.mp e;obtain⟨d,q⟩:=S.dom i a e;refine⟨d,?_⟩;have y:j<ix.length:=(Ag.mp hi).1;unfold Z1;rw[Ak (by simpa using y),Di,hi];show b3 ((δ[i]?).getD .no)=_;rw[q];rfl
 inj:=λj k a c f=>by
  unfold Oc at c f;cases hi:ix[j]? with
  |none=>rw[hi]at c;cases c
  |some i=>
   cases t:ix[k]? with
   |none=>rw[t]at f;cases f
   |some m=>
    rw[hi]at c;rw[t]at f;have:i=m:=S.inj i m a c f
    subst this;obtain⟨C,q1⟩:=Ag.mp hi;obtain⟨A,q2⟩:=Ag.mp t;exact(Qj hnd).mp (q1.trans q2.symm)
 old:=λj a e=>by
  have g:=e;unfold Oc at g;cases hi:ix[j]? with
  |none=>rw[hi]at g;cases g
  |some i=>
   rw[hi]at g;refine⟨λz=>?_,.inl ⟨j,e⟩⟩;rcases z with(z|z)|⟨m,z,n⟩
   ·exact(S.old i a g).1 z
   ·obtain⟨o,q⟩:=S.nin (.inr ⟨i,g⟩)
    rw[z,b]at q;cases q
   ·have:i=m:=S.inj i m a g z
    subst this;exact n (Ee hi)
 zin:=λa h=>by
  rcases h with(h|h)|⟨i,h,_⟩
  ·obtain⟨o,q⟩:=S.zin a h
   exact⟨o,bZ b _ _ q⟩
  ·exact⟨_,by rw[h];exact bK⟩
  ·obtain⟨o,q⟩:=S.nin (.inr ⟨i,h⟩)
   exact⟨o,bZ b _ _ q⟩
 frm:=(bZ b).fr
 par:=⟨λj a e=>by
  have e:(ix[j]?).bind O=b3 a:=e;cases hi:ix[j]? with
  |none=>rw[hi]at e;cases e
  |some i=>exact Cv.mpr (Ag.mp hi).1,λj _=>rfl⟩
 pin:=λa q0=>by obtain⟨j,e⟩:=q0;unfold Oc at e;obtain⟨i,hi,e⟩:=Ac.mp e;obtain⟨o,q⟩:=S.nin (.inr ⟨i,e⟩);exact⟨o,bZ b _ _ q⟩
 kep:=λp x=>((t p x).away b _ _ IW IW).same (bZ b)
def ZX.turn{l:Nat->Option Ud}{f:St}{n:Nat}{m:St}(S:ZX K (Az n) B l H f δ)(A:∀j,n<=j->B.mu j=b4)(u:m.length=n)(o:f.take n=m)(C:n<=δ.length):ZX K (Az n) B B.mu H (m++Ax nl b4) (δ.take n++JA nl):=by
 have y:∀j,j<n->l j=B.mu j:=λj b=>S.par.2 j (Cv.mpr b);have c:∀j a,B.mu j=b3 a->l j=b3 a:=λj a e=>by rw[y j (Cv.mp (S.par.1 j a e))];exact e
 have g:∀a,Nn B B.mu a->Nn B l a:=λa h=>by
  rcases h with h|⟨j,h⟩
  ·exact .inl h
  ·exact .inr ⟨j,c j a h⟩
 have x:∀(j:Nat) (s:Sl),(δ.take n++JA nl)[j]?=b3 s->(j<n/\δ[j]?=b3 s)∨s=.no:=λj s h=>by
  have hl:(δ.take n).length=n:=by rw[Cz];lia
  by_cases b:j<n
  ·rw [Ak (by rw [hl];exact b),Cj b]at h
   exact .inl ⟨b,h⟩
  ·unfold JA at h
   rw[Bi (by rw[hl];lia),Cs]at h;split at h
   ·cases h;exact .inr rfl
   ·cases h
 have hs:∀(j:Nat) (v:V),j<n->f[j]?=b3 (b3 v)->(m++Ax nl b4)[j]?=b3 (b3 v):=λj v b e=>by rw[Ak (by rw[u];exact b),<-o,Cj b];exact e
 refine⟨?_,λj d e=>?_,λj d e=>?_,λj a e=>?_,λj k a i t=>S.inj j k a (c j a i) (c k a t),λj a e=>S.old j a (c j a e),S.zin,S.frm,⟨S.par.1,λj _=>rfl⟩,S.pin,λp z=>(S.kep p z).mono g g⟩
 ·simp[u,JA,Cz]
  lia
 ·rcases x j _ e with⟨b,e⟩|e
  ·obtain⟨v,i,r⟩:=S.va j d e
   exact⟨v,hs j v b i,r.mono g g⟩
  ·cases e
 ·rcases x j _ e with⟨b,e⟩|e
  ·obtain⟨a,i,t,w⟩:=S.ow j d e
   exact⟨a,(y j b)▸i,hs j _ b t,w.mono g⟩
  ·cases e
 ·have b:=Cv.mp (S.par.1 j a e)
  obtain⟨d,q⟩:=S.dom j a (c j a e);refine⟨d,?_⟩;rw[Ak (by rw[Cz];lia),Cj b];exact q
def WH(ix:List Nat)(σ:St):(ZN ix σ).length=ix.length:=by simp[ZN]
def JQ{a:St}(hl:ix.length<=a.length)(h:∀i∈Az ix.length,a[i]?=(ZN ix σ++Ax nl b4)[i]?):a.take ix.length=ZN ix σ:=by
 refine Kz λj=>?_;by_cases b:j<ix.length
 ·rw[Cj b,h j (Cv.mpr b),Ak (by rw[WH];exact b)]
 ·rw[Ct (by rw[Cz];lia),Ct (by rw[WH];lia)]
def AD{a:St}(m3:∀i∈Az ix.length,a[i]?=(ZN ix σ++Ax nl b4)[i]?):ix.length<=a.length:=by
 by_cases hz:ix.length=0
 ·lia
 ·have b : ix.length-1 < ix.length := by lia
  have:=m3 (ix.length-1) (Cv.mpr b)
  have hs:(ZN ix σ++Ax nl b4)[ix.length-1]? ≠b4:=by rw[Ak (by rw[WH];exact b)];simp[ZN,b]
  rw[<-this]at hs;have c:ix.length-1<a.length:=Nat.lt_of_not_le λz=>hs (List.getElem?_eq_none_iff.mpr z);lia
def nZ(K:Aj)(J:It)(a:List (V×cF))(ds:List cF)(H0:Hp)(b:Bool):Prop:=∀(N:Ud->Prop) (H:Hp),(∀p∈a,aD K N H N p.1 p.2)->(b=b8->Z6 H0 H)->
 (∀(i:Nat) (d:cF),ds[i]?=b3 d->J.go i H/\∀x H',J.yld i H x H'->Z6 H H'/\aD K N H' N x d)/\J.stop ds.length H
inductive TIVq(K:Aj)(ml:List Nat)(pu b:Bool)(f:VI)(σ:St)(H:Hp)(R:It->Hp->Prop):Prop
 |mk (B:_) (O:_) (δ:_) (ds:_) (δ':_) (h0:ZX K ml B O H σ δ) (h1:f δ=b3 (ds,δ')) (h2:∀J kps H',ZX K ml {B with kp:=kps++B.kp} O H' σ δ'->Fr (OA O) H H'->(pu=b8->Z6 H H')->nZ K J kps ds H' b->R J H'):TIVq K ml pu b f σ H R
def FW{fi:VI}{gg:VG}{tb:VB}{fe:VF}(hnd:ix.Nodup){Q:VK}(h:TN K ml (pi&&pt&&pe) (ZD ix nl fi gg tb fe) σ H Q):FU ix nl (TIVq K ml pi (pt&&pe) fi) (TGV K (Az ix.length) gg) (TB K (Az ix.length) pt tb) (TV K (Az ix.length) pe b8 b8 fe) σ H Q:=by
 obtain⟨B,O,δ,d,δ2,S,q,k⟩:=h;unfold ZD at q;obtain⟨⟨ds,δ1⟩,h1,q⟩:=Ac.mp q;have q:((YO ix.length nl gg tb fe ds [] (Z1 ix δ1)).map λq=>(cF.lst q.1,X6 ix q.2 δ1))=b3 (d,δ2):=q;obtain⟨⟨res,l⟩,h2,q⟩:=As.mp q;cases q;refine⟨B,O,δ,ds,δ1,S,h1,λJ f H0 y f0 p0 wk D u=>?_⟩;have hDO:∀j,Oc ix O j≠b3 D:=λj e=>by unfold Oc at e;obtain⟨i,hi,e⟩:=Ac.mp e;obtain⟨o,q⟩:=y.nin (.inr ⟨i,e⟩);rw[u]at q;cases q
 have f6:∀kp j,ix.length<=j->(Bc ix B O H0 D kp).mu j=b4:=λkp j R=>by show(ix[j]?).bind O=b4;rw[Ct R];rfl
 refine⟨λi m acc H1=>m=ds.length-i/\i<=ds.length/\∃(g:List cF) (c:Ev),c.length=ix.length/\acc.length=g.length∧
   ZX K (Az ix.length) (Bc ix B O H0 D (f++acc.zip g)) (Oc ix O) H1 (ZN ix σ++Ax nl b4) (c++JA nl)/\H1 D=b3 (.lst acc)/\((pt&&pe)=b8->Z6 H0 H1)∧
   YO ix.length nl gg tb fe (ds.drop i) g c=b3 (res,l),
  ⟨ds.length,rfl,Dm _,[],Z1 ix δ1,by simp[Z1],rfl,by rw[Pn,Ds];exact y.unkeep.inner u hnd λp t=>y.kep p (Bm _ t),bK,λ_=>bZ u,h2⟩,?_⟩
 rintro i m acc H1 ⟨rfl,hi,g,c,P,X,M,G,d7,hc⟩;have w:=wk (Nn (Bc ix B O H0 D (f++acc.zip g)) (Oc ix O)) H1 (λp t=>M.kep p (Bm _ t)) d7;by_cases F:i<ds.length
 ·obtain ⟨go,yl⟩ := w.1 i ds[i] (by simp [F])
  rw[Ep F]at hc;simp only[YO]at hc;obtain⟨N,g1,hc⟩:=Ac.mp hc;obtain⟨⟨kk,s⟩,g2,hc⟩:=Ac.mp hc;refine .inr ⟨go,λal H'=>∃(g:List cF) (c:Ev),c.length=ix.length/\al.length=g.length∧
   ZX K (Az ix.length) (Bc ix B O H0 D (f++al.zip g)) (Oc ix O) H' (ZN ix σ++Ax nl b4) (c++JA nl)/\H' D=b3 (.lst al)/\((pt&&pe)=b8->Z6 H0 H')∧
   YO ix.length nl gg tb fe (ds.drop (i+1)) g c=b3 (res,l),λal H' w'=>⟨ds.length-(i+1),by lia,rfl,F,w'⟩,λx H2 hy=>?_⟩
  obtain⟨Y,rx⟩:=yl x H2 hy;refine⟨_,_,_,ds[i],N,M.same Y,rx,g1,λσ3 O3 S3 m3=>?_⟩;have E:=AD m3;have r:=JQ E m3;refine⟨r,_,_,N,kk,s,S3,g2,λH4 I=>?_⟩;have V:H4 D=b3 (.lst acc):=I.frm _ _ (Y _ _ G) λz=>by
   obtain⟨j,e⟩:=z;have:=(I.sta.old j D e).1
   exact absurd (.inl (.inr rfl)) this
  have ln4:ix.length<=s.length:=by rw[<-I.sta.len];exact E
  cases kk with
  |false=>
   rw[if_neg Dq]at hc;refine NN ⟨g,s.take ix.length,by rw[Cz];lia,X,I.sta.turn (f6 _) (WH ix σ) r ln4,V,λz=>?_,hc⟩;exact((d7 z).trans Y).trans (I.pur ((Af _ _).mp z).1)
  |true=>
   rw[if_pos rfl]at hc;obtain⟨⟨W,C⟩,g3,hc⟩:=Ac.mp hc;split at hc
   ·rename_i hz
    refine NO ⟨_,_,s,W,C,I.sta,g3,λv H5 A=>?_⟩;have U:H5 D=b3 (.lst acc):=A.frm _ _ V λz=>by
     obtain⟨j,e⟩:=z;have:=(A.sta.old j D e).1
     exact absurd (.inl (.inr rfl)) this
    have ln5:ix.length<=C.length:=by rw[<-A.sta.len];exact E
    have S6:=A.sta.turn (nl:=nl) (f6 _) (WH ix σ) r ln5;have hv:aD K (Nn (Bc ix B O H0 D (f++acc.zip g)) (Oc ix O)) H5 (Nn (Bc ix B O H0 D (f++acc.zip g)) (Oc ix O)) v W:=by
     have hN:∀a,Nn (Bc ix B O H0 D (f++acc.zip g)) (Oc ix O) a->av (Bc ix B O H0 D (f++acc.zip g)) O3 b8 a:=λa h=>by
      rcases h with h|⟨j,h⟩
      ·exact .inl h
      ·refine .inr ⟨j,?_⟩
       have R:j∈Az ix.length:=A.sta.par.1 j a h;rw[A.sta.par.2 j R];exact h
     exact A.rep.mono hN hN
    have S7:=S6.withKp (kp:=f++(acc++[v]).zip (g++[W])) λp t=>by
     rw[Rp X,<-El]at t;rcases Bq.mp t with z|z
     ·exact S6.kep p z
     ·rw[Ar.mp (show p∈[(v,W)] from z)]
      exact hv
    refine⟨U,by rw[X,Cc];exact hz,g++[W],C.take ix.length,by rw[Cz];lia,by simp[X],?_,bK,λz=>?_,hc⟩
    ·exact S7.writeZ (.inl (.inr rfl)) U u
    ·intro b o e
     have Z:b≠D:=λz=>by rw[z,u]at e;cases e
     rw[bA Z];obtain⟨z1,z2⟩:=(Af _ _).mp z;exact(((d7 z).trans Y).trans ((I.pur z1).trans (A.pur z2))) b o e
   ·cases hc
 ·have e : i = ds.length := by lia
  subst e;rw[Hj]at hc;cases hc;refine .inl ⟨w.2,k D H1 ?_⟩;have fP:Fr (OA (Oc ix O)) H0 H1:=M.frm;have T:∀a,OA (Oc ix O) a->OA O a:=λa q0=>by
   obtain⟨j,e⟩:=q0;unfold Oc at e;cases hi:ix[j]? with
   |none=>rw[hi]at e;cases e
   |some i=>rw[hi]at e;exact⟨i,e⟩
  have SL:=y.unkeep.laid (o:=.lst acc) u;have fL:Fr (OA (Oc ix O)) (upd H0 D (.lst acc)) H1:=λb o e n=>by
   by_cases Z:b=D
   ·subst Z
    rw[bK]at e;cases e;exact G
   ·rw[bA Z]at e
    exact fP b o e n
  refine⟨SL.call (T9) (λi=>?_) fL T,f0.trans (fP.mono T),λz=>?_,.lst G (T1 X λp t=>(M.kep p (Aw _ t)).mono NT NT),y.unkeep.new u,y.fresh u⟩
  ·by_cases f7:i<δ1.length
   ·rcases T8 (ix:=ix) (ss:=l) (δ:=δ1) i f7 P.symm with⟨j,x,e1,e2,e3⟩|⟨e1,e2⟩
    ·have e4:(l++JA nl)[j]? =b3 (.ow x):=by rw[Ak (Ag.mp e2).1];exact e2
     obtain⟨a,e5,_,w⟩:=M.ow j x e4;refine .inr ⟨a,x,?_,e3,w.mono NT⟩;unfold Oc at e5;rw[e1]at e5;exact e5
    ·refine .inl ⟨e2,λa ea ⟨j,L⟩ => ?_⟩
     obtain⟨x,ex⟩:=M.dom j a L;unfold Oc at L;cases hi:ix[j]? with
     |none=>rw[hi]at L;cases L
     |some i'=>
      rw[hi]at L;have:i=i':=y.inj i i' a ea L
      subst this;have R:j<l.length:=by rw[P];exact(Ag.mp hi).1
      rw[Ak R]at ex;exact e1 j x hi ex
   ·refine .inl ⟨?_,λa ea => ?_⟩
    ·rw[Ct (by rw[T9];lia),Ct (by lia)]
    ·obtain⟨x,ex⟩:=y.dom i a ea
     exact absurd (Ag.mp ex).1 f7
  ·simp only[Af]at z
   exact(p0 z.1.1).trans (d7 (by simp[z.1.2,z.2]))
def BW{fi:VI}{gg:VG}{tb:VB}{fe:VF}(hnd:ix.Nodup){Q:VK}(h:TN K ml (pi&&pt&&pe) (ZD ix nl fi gg tb fe) σ H Q):FU ix nl (TIV K ml pi fi) (TGV K (Az ix.length) gg) (TB K (Az ix.length) pt tb) (TV K (Az ix.length) pe b8 b8 fe) σ H Q:=
 let ⟨B,O,δ,ds,δ',S,e,k⟩:=FW hnd h
 ⟨B,O,δ,ds,δ',S,e,λJ a H' b f p w=>k J a H' b f p λN H1 z _=>w N H1 z⟩
def jZ{Q:Bool->Hp->Prop}(h:TB K ml b8 V7 σ H Q):tYes σ H Q:=by obtain⟨B,O,δ,k,δ',S,q,w⟩:=h;cases q;exact w H (ResB.refl S)
def N3{Y:Cx}{t:VB}(h:PT Y c (TB K ml pt t)):PTs Y [c] (TB K ml pt t):=nU h
def X8{Y:Cx}:PTs Y [] (TB K ml b8 V7):=λaa s σ H Q I hw=>mw aa s σ H Q I (jZ hw)
def Ve{Q:VK}{o:Bool}(h:TX K ml (if o then xO f else xV f) σ H Q):TN K ml pu f σ H Q:=by
 obtain⟨B,O,δ,s,δ',S,q,k⟩:=h;have e:∃d,f δ=b3 (d,δ')/\s=if o then .ow d else .va d:=by
  cases o with
  |true=>
   have q:(f δ).map (λp=>(Sl.ow p.1,p.2))=b3 (s,δ'):=q;cases h1:f δ with
   |none=>rw[h1]at q;cases q
   |some p=>rw[h1]at q;cases q;exact⟨p.1,rfl,rfl⟩
  |false=>
   have q:(f δ).map (λp=>(Sl.va p.1,p.2))=b3 (s,δ'):=q;cases h1:f δ with
   |none=>rw[h1]at q;cases q
   |some p=>rw[h1]at q;cases q;exact⟨p.1,rfl,rfl⟩
 obtain⟨d,h1,hs⟩:=e;refine⟨B,O,δ,d,δ',S,h1,λp H' R=>?_⟩;cases o with
 |true=>
  cases hs;have w:=R.own;cases w with
  |lst q1 r=>exact k _ H' _ (R.sta.keepV (T4 r)) (.ol q1 r.length R.nz R.h0) R.frm
  |dct q1 r=>exact k _ H' _ (R.sta.keepV (T4 r)) (.od q1 (by simpa using r.length) R.nz R.h0) R.frm
 |false=>
  cases hs;exact k _ H' _ (R.sta.unadd.keepV (ps:=[(.ref p,d)]) λz hz=>by rw[Ar.mp hz];exact(R.own.mono QC).rep R.nz) .va R.frm
def DS{i:Nat}{x:VX}{te:TE}(a:∀σ H Q,TX K ml x σ H Q->te σ H Q)(c:i∉ml){D:KA}(h:U7 K ml (ZZ i x) D σ H):tAsg te (EO i) D σ H:=by
 obtain⟨B,O,δ,o,S,q,k⟩:=h;unfold ZZ at q;obtain⟨⟨s,δ1⟩,h1,q⟩:=Ac.mp q;have q:(if i<δ1.length then b3 (Ou.nx (δ1.set i s))else b4)=b3 o:=q;split at q
 ·rename_i hl
  cases q;refine a _ _ _ ⟨B,O,δ,s,δ1,S,h1,λv H' B' d h' f=>?_⟩;obtain⟨e,b⟩:=h'.bind d c hl;exact k _ _ _ b
 ·cases q
end
abbrev ZC(P:Be)(w:Ul)(K:Aj)(mg:Ug->Option Uc)(base:Um)(x:Ug)(k:Nat)(ps:List Ug)(mF:List Nat)(F:aJ)(f:Ud):Prop:=Def P w K mg base x k ps (spV K mF ps.length F) f
section
variable{X:Cx}{K:Aj}{ml:List Nat}{e a b c:Uj}{es:List Uj}{pa ta ia pb tb ib pc tc ic pu bt bi ps bs:Bool}{fa fb fc f:VF}{B B':Bs}{O:Nat->Option Ud}{H H0 H1 H':Hp}{σ:St}{δ δ':Ev}{v:V}{d:cF}{p:Ud}{pos:Pos}
def aM{x:Ug}(a:Gl X x)(h:∃u v,X.mg x=b3 u/\aG v u/\∀N H M,aD K N H M v d)(hd:ND x:=by decide):PE X (.Name x pos) (TV K ml b8 b8 b8 (fC d)):=by obtain⟨u,v,h1,h2,b⟩:=h;exact ve_c (dW a h1 h2 hd) b
def Xp(K:Aj):R2:=λx y H Q=>∃a b xs ys,x=.ref a/\y=.ref b/\U6 K H a xs/\U6 K H b ys/\xs.length+ys.length<=sizeLine∧
 (xs=[]->Q (.ref b) H)/\(xs≠[]->ys=[]->Q (.ref a) H)/\(xs≠[]->ys≠[]->∀p,H p=b4->Q (.ref p) (upd H p (.tup (xs++ys))))
def gL:V5 X (Fq .Add) (Xp X.K):=by
 intro aa s σ H x y v u Q I p m h;obtain⟨a,b,xs,ys,rfl,rfl,A,t,hz,q0,q1,q2⟩:=h;cases p;cases m;obtain⟨its,g,p1,_⟩:=I.tuple A;obtain⟨C,f,p2,_⟩:=I.tuple t;by_cases i:xs=[]
 ·subst i
  have B:its=[]:=g.nil_iff.mpr rfl;subst B;obtain⟨⟨cls,dd,data,sl⟩,l,hc,n,hd⟩:=id p1;obtain⟨⟨E,k,data2,j⟩,c,e,r,d⟩:=id p2;simp only at hc hd e d;subst hc hd e d;exact Mm ⟨_,l,rfl⟩ ⟨_,c,rfl⟩ Lx Of Ih Hz (Hm _ _)
   (tuple_addW0 a b _ C.toArray n r dd k sl j (by simp)) ⟨l,c,⟨.ref b,H,I,rfl,q0 rfl⟩⟩
 ·refine HT.zHG p1 p2 (λz => i (g.nil_iff.mp z)) (λz => ⟨.ref a,H,I,rfl,q1 i (f.nil_iff.mp z)⟩) (λz => ?_) (by rw [<- g.length,<- f.length];exact hz)
  refine⟨.ref s.heap.objs.size,_,I.laid (t':=s.toks) (o:=.tup (xs++ys)) (λb D q=>Ad _ q) (Am _) ?_,rfl,q2 i (λw=>z (f.nil_iff.mpr w)) _ (I.hok.fresh (Am _))⟩;exact⟨by rw[By];exact hz,_,g.append f,Js _ _⟩
def Yc(K:Aj):R2:=λx y H Q=>∃l b xs zs,x=.ref l/\y=.ref b/\WW K H l xs/\WW K H b zs/\xs.length+zs.length<=sizeLine/\∀p,H p=b4->Q (.ref p) (upd H p (.lst (xs++zs)))
def nv:V5 X (Fq .Add) (Yc X.K):=by
 intro aa s σ H x y v u Q I o m h;obtain⟨l,b,xs,zs,rfl,rfl,t,w,hz,q⟩:=h;cases o;cases m;obtain⟨its,r,p1,_⟩:=I.list t;obtain⟨i,j,p2,_⟩:=I.list w;obtain⟨⟨cls,dd,data,sl⟩,n,k,hc,_,hd⟩:=id p1;obtain⟨⟨A,g,data2,e⟩,p,a,d,_,c⟩:=id p2;simp only at hc hd d c;subst hc hd d c;have z:its.toArray++i.toArray=(its++i).toArray:=by simp
 have hl:=r.length;have f:=j.length;refine Mm ⟨_,k,rfl⟩ ⟨_,a,rfl⟩ noFill_list_add seq_list_add PySem.F.slot_list_add PySem.F.entry_list_add (PySem.F.args_list_add_2 _ _) (list_addW l b its.toArray i.toArray n p dd g sl e (by rw[Ao,Ao,<-hl,<-f];exact hz)) ⟨k,a,?_⟩;rw[z];exact⟨.ref _,_,I.lnew (t':=s.toks) (r.append j) (by rw[By];lia),rfl,q _ I.fresh⟩
def Wj(K:Aj):R2:=λx y H Q=>((DH (λi j=>.int (i+j)) x y H Q∨Xp K x y H Q)∨Yc K x y H Q)∨∃i j,x=.str i/\y=.str j/\i.length+j.length<=sizeLine/\Q (.str (i++j)) H
def XT(h:X.K=K:=by rfl):V5 X (Fq .Add) (Wj K):=by subst h;exact((zK2.or gL).or nv).or C6
noncomputable def Y4:cF->cF->Option cF
 |.int i,.int j=>b3 (.int (i+j))
 |.tup ds,.tup es=>if ds.length+es.length<=16777216 then b3 (.tup (ds++es))else b4
 |.lst ds,.lst es=>if ds.length+es.length<=16777216 then b3 (.lst (ds++es))else b4
 |.str x,.str y=>if x.length+y.length<=16777216 then b3 (.str (x++y))else b4
 |_,_=>b4
def aD.tupE{N M:Ud->Prop}{ds:List cF}(h:aD K N H M v (.tup ds)):∃a xs,v=.ref a/\U6 K H a xs/\bD K N H xs ds:=by
 cases h.onT with
 |tup q r=>exact⟨_,_,rfl,q,r⟩
def aD.lstE{N M:Ud->Prop}{ds:List cF}(h:aD K N H M v (.lst ds)):∃a xs,v=.ref a/\WW K H a xs/\bD K N H xs ds:=by
 cases h.onL with
 |lst q n r=>exact⟨_,_,rfl,WW.of q,r⟩
 |fzl q r=>exact⟨_,_,rfl,q.sq,r⟩
def Y0:OpC K (Wj K) Y4:=by
 intro H N M M' x y d e c Q n m h k;cases d with
 |int i=>
  cases e with
  |int j=>
   cases h;cases n.onI;cases m.onI;exact .inl (.inl (.inl ⟨_,_,rfl,rfl,k _ _ (Z6.refl _) λ_ _=>.int _⟩))
  |_=>cases h
 |str i=>
  cases e with
  |str j=>
   simp only[Y4]at h;split at h
   ·cases h
    cases n.onS;cases m.onS;exact .inr ⟨_,_,rfl,rfl,by rw[Cc];assumption,k _ _ (Z6.refl _) λ_ _=>.str _⟩
   ·cases h
  |_=>cases h
 |tup ds=>
  cases e with
  |tup es=>
   simp only[Y4]at h;split at h
   ·rename_i hz
    cases h;obtain⟨a,xs,rfl,q1,g⟩:=n.tupE;obtain⟨b,ys,rfl,q2,f⟩:=m.tupE;refine .inl (.inl (.inr ⟨a,b,xs,ys,rfl,rfl,q1,q2,by rw[g.length,f.length,Cc];exact hz,λz=>?_,λt s=>?_,λt s p l=>?_⟩))
    ·subst z
     have:ds=[]:=Gg.mp g.length.symm
     subst this;exact k _ _ (Z6.refl _) λM r=>.tup q2 f
    ·subst s
     have:es=[]:=Gg.mp f.length.symm
     subst this;rw[Ds]at k;exact k _ _ (Z6.refl _) λM r=>.tup q1 g
    ·exact k _ _ (bZ l) λM r=>.tup (U6.of bK) ((g.append f).same (bZ l))
   ·cases h
  |_=>cases h
 |lst ds=>
  cases e with
  |lst es=>
   simp only[Y4]at h;split at h
   ·rename_i hz
    cases h;obtain⟨a,xs,rfl,q1,g⟩:=n.lstE;obtain⟨b,ys,rfl,q2,f⟩:=m.lstE;exact .inl (.inr ⟨a,b,xs,ys,rfl,rfl,q1,q2,by rw[g.length,f.length,Cc];exact hz,λp l=>k _ _ (bZ l) λM r=>.lst bK (λz=>by obtain⟨o,q⟩:=r _ z;rw[l]at q;cases q) ((g.append f).same (bZ l))⟩)
   ·cases h
  |_=>cases h
 |_=>cases h
def Wa:Aj->R2:=λ_=>rI CMul λi j=>.int (i*j)
def NQ(h:X.K=K:=by rfl):V5 X (Fq .Mult) (Wa K):=dD
abbrev TU:=oMul
def Q0:OpC K (Wa K) TU:=by intro H N M M' x y d e c Q b a h k;exact nF H N N M M' x y d e c Q b a h λv f=>k v H (Z6.refl _) λM _=>f _ _ _
noncomputable def V2:cF->Option Z8
 |.int i=>b3 (.inl i)
 |.str x=>b3 (.inr x)
 |_=>b4
def aD.key{N M:Ud->Prop}{k:Z8}(h:aD K N H M v d)(e:V2 d=b3 k):v=kV k:=by
 cases h<;>first
  |(cases e;rfl)
  |cases e
noncomputable def Z2(ks:List Z8)(ds:List cF)(k:Z8):Option cF:=match ks,ds with
 |k'::ks,d::ds=>if k'=k then b3 d else Z2 ks ds k
 |_,_=>b4
theorem OV{N:Ud->Prop}{k:Z8}:∀{kvs:List (Z8×V)}{ds:List cF},bD K N H (kvs.map Dg) ds->(∃v d,QU kvs k=b3 v/\Z2 (kvs.map Ch) ds k=b3 d/\aD K N H N v d)∨(QU kvs k=b4/\Z2 (kvs.map Ch) ds k=b4)
 |[],_,.nil=>.inr ⟨rfl,rfl⟩
 | (k',v) :: kvs,_,.cons h t => by
  by_cases a:k'=k
  ·refine .inl ⟨v,_,PF (p:=(k',v)) a,?_,h⟩
   simp[Z2,a]
  ·rcases OV (k:=k) t with⟨b,d',h1,h2,c⟩|⟨h1,h2⟩
   ·exact .inl ⟨b,d',(R6 (p:=(k',v)) a).trans h1,by simpa[Z2,a]using h2,c⟩
   ·exact .inr ⟨(R6 (p:=(k',v)) a).trans h1,by simpa[Z2,a]using h2⟩
def eV(f:X.A.units+1<cLine):IxR X (λx y H Q=>∃a v,x=.ref a/\M9 H a y (b3 v)/\Q v H):=by intro value b aa s σ H x y v u Q I e d h hs;obtain⟨a,w,rfl,g,q⟩:=h;cases e;exact Su (EI I g) PySem.F.slot_dict_getitem.lookup (kY f I g d λj k i c=>⟨w,H,i,c,q⟩) hs
def rIxA(K:Aj):R2:=λx y H Q=>(rIx K x y H Q∨∃a v,x=.ref a/\M9 H a y (b3 v)/\Q v H)∨∃a k D v,x=.ref a/\y=.str k/\KTab K a D/\Fw k D=b3 v/\Q v H
def kIxA(a:X.A.units+1<cLine)(h:X.K=K:=by rfl):IxR X (rIxA K):=by subst h;exact(zKM.or (eV a)).or iC
def bN:cF->cF->Option cF
 |.tup ds,.int i=>RG ds i
 |.lst ds,.int i=>RG ds i
 |.dct ks ds,e=>(V2 e).bind (Z2 ks ds)
 |.str z,.int i=>if z.length<=16777216 then(RG z.cps.toList i).map λc=>.str ⟨#[c]⟩else b4
 |_,_=>b4
theorem NH{N:Ud->Prop}{k:Ug}:∀{D:List (Ug×V)}{ds:List cF},bD K N H (D.map Dg) ds->(∃v d,Fw k D=b3 v/\Z2 (D.map λp=>.inr p.1) ds (.inr k)=b3 d/\aD K N H N v d)∨(Fw k D=b4/\Z2 (D.map λp=>.inr p.1) ds (.inr k)=b4)
 |[],_,.nil=>.inr ⟨rfl,rfl⟩
 | (k',v) :: D,_,.cons h t => by
  by_cases a:k'=k
  ·subst a
   exact .inl ⟨v,_,by simp[Fw],by simp[Z2],h⟩
  ·have b : ¬ k = k' := λz => a z.symm
   rcases NH (k:=k) t with⟨c,d',h1,h2,e⟩|⟨h1,h2⟩
   ·exact .inl ⟨c,d',by simpa[Fw,a,b]using h1,by simpa[Z2,a]using h2,e⟩
   ·exact .inr ⟨by simpa[Fw,a,b]using h1,by simpa[Z2,a]using h2⟩
theorem E1{i:Int}:∀{D:List (Ug×V)}{ds:List cF},Z2 (D.map λp=>.inr p.1) ds (.inl i)=b4
 |[],_=>by simp[Z2]
 |_::_,[]=>by simp[Z2]
 |p::D,d::ds=>by simpa[Z2]using E1 (D:=D) (ds:=ds)
def ly:OpI K (rIxA K) bN:=by
 intro H N N' M M' x y d e c Q j g h k;have seq:∀ds i,WC d=b3 ds->e=.int i->RG ds i=b3 c->rIxA K x y H Q:=λds i h1 h2 b=>by
  subst h2;cases g.onI;obtain⟨a,xs,rfl,sq,r⟩:=j.seq h1;obtain⟨v,o,m⟩:=iG r b;rcases sq with sq|sq
  ·exact .inl (.inl (.inl ⟨a,xs,i,v,rfl,rfl,sq,o,k v m⟩))
  ·exact .inl (.inl (.inr (.inl ⟨a,xs,i,v,rfl,rfl,sq,o,k v m⟩)))
 cases d with
 |tup ds=>
  cases e with
  |int i=>exact seq ds i rfl rfl h
  |_=>cases h
 |lst ds=>
  cases e with
  |int i=>exact seq ds i rfl rfl h
  |_=>cases h
 |str z=>
  cases e with
  |int i=>
   simp only[bN]at h;split at h
   ·obtain⟨ch,hc,h⟩:=As.mp h
    cases h;cases j.onS;cases g.onI;exact .inl (.inl (.inr (.inr ⟨z,i,ch,rfl,rfl,by rw[Cc];assumption,hc,k _ (.str _)⟩)))
   ·cases h
  |_=>cases h
 |dct ks ds=>
  simp only[bN]at h;obtain⟨f,p,h⟩:=Ac.mp h;have h:Z2 ks ds f=b3 c:=h;have s:=g.key p;subst s;cases j.onD with
  |dct q n r l=>
   subst l;rcases OV (k:=f) r with⟨v,d',h1,h2,b⟩|⟨h1,h2⟩
   ·rw[h]at h2
    cases h2;exact .inl (.inr ⟨_,v,rfl,h1▸M9.k q,k v b⟩)
   ·rw[h]at h2;cases h2
  |ktb T r l=>
   subst l;cases f with
   |inl i=>rw[E1]at h;cases h
   |inr x=>
    rcases NH (k:=x) r with⟨v,d',h1,h2,b⟩|⟨h1,h2⟩
    ·rw[h]at h2
     cases h2;exact .inr ⟨_,x,_,v,rfl,rfl,T,h1,k v b⟩
    ·rw[h]at h2;cases h2
 |_=>cases h
noncomputable def WB(δ:Ev)(i:Nat):Option (List Z8×List cF):=match δ[i]? with
 |some (.ow (.dct ks ds))=>b3 (ks,ds)
 |_=>b4
def Q5{i:Nat}{ks:List Z8}{ds:List cF}(h:WB δ i=b3 (ks,ds)):δ[i]?=b3 (.ow (.dct ks ds)):=by
 unfold WB at h;split at h
 ·cases h;assumption
 ·cases h
def GO(i:Nat)(fk fx:VF):VF:=λδ=>(WB δ i).bind λ_=>(fk δ).bind λp=>(fx p.2).bind λq=>(V2 p.1).bind λk=>(WB q.2 i).map λz=>((Z2 z.1 z.2 k).getD q.1,q.2)
def mm{i:Nat}{fk fx:VF}{aq ai:Pos}(N:X.A.units+1<cLine)(h:PE X a (NZ i))(P:PE X b (TV K ml pa ta ia fk))(M:PE X c (TV K ml pb b8 b8 fx))(m:M2 X a "get" aq b c ai):
  PE X (.Call (.Attribute a "get" aq) [b,c] [] ai) (TV K ml (pa&&pb) b8 b8 (GO i fk fx)):=(Zv N h P M m).imp λσ H Q g=>by
 obtain⟨B,O,δ,d,F,S,q,k⟩:=g;unfold GO at q;cases p:WB δ i with
 |none=>rw[p]at q;cases q
 |some L=>
  obtain⟨f,x⟩:=L;rw[p]at q;cases h1:fk δ with
  |none=>simp[h1]at q
  |some p1=>
   obtain⟨y,δ1⟩:=p1;simp only[An,h1]at q;cases h2:fx δ1 with
   |none=>simp[h2]at q
   |some p2=>
    obtain⟨z,δ2⟩:=p2;simp only[An,h2]at q;cases n:V2 y with
    |none=>simp[n]at q
    |some D=>
     simp only[An,n]at q;cases j:WB δ2 i with
     |none=>simp[j]at q
     |some G=>
      obtain⟨ks,ds⟩:=G;simp only[j]at q;cases q;obtain⟨l,W,U,w⟩:=S.ow i _ (Q5 p);refine⟨.ref l,U,l,rfl,?_,B,O,δ,y,δ1,S,h1,λZ H1 e=>⟨B,O,δ1,z,_,e.sta,h2,λY H2 R2=>?_⟩⟩
      ·generalize hw:cF.dct f x=dd at w
       cases w with
       |lst _ _=>cases hw
       |dct q _=>exact .inl ⟨_,.inl q⟩
      ·have T:=e.rep.key n
       subst T;obtain⟨l',E,_,C⟩:=R2.sta.ow i _ (Q5 j);rw[W]at E;cases E;have u:∀o,aD K (Nn B O) H2 (Nn B O) (o:V) ((Z2 ks ds D).getD z)->Q o H2:=λo h=>k o H2 ⟨R2.sta,e.frm.trans R2.frm,λz=>by obtain⟨J,I⟩:=(Af _ _).mp z;exact(e.pur J).trans (R2.pur I),h⟩
       generalize hw:cF.dct ks ds=dd at C;cases C with
       |lst _ _=>cases hw
       |dct q r=>
        cases hw;refine⟨_,M9.k q,u _ ?_⟩;rcases OV (k:=D) r with⟨v,d',t,s,R⟩|⟨t,s⟩
        ·rw[t,s];exact R
        ·rw[t,s];exact R2.rep
noncomputable def W3:List Z8->List cF->Z8->cF->List Z8×List cF
 |k'::ks,d::ds,k,v=>if k'=k then(k'::ks,v::ds)else let r:=W3 ks ds k v;(k'::r.1,d::r.2)
 |_,_,k,v=>([k],[v])
def FN(i:Nat)(fk a:VF):VS:=λδ=>(a δ).bind λp=>(WB p.2 i).bind λ_=>(fk p.2).bind λq=>(V2 q.1).bind λk=>(WB q.2 i).bind λz=>if z.1.length<16777216/\z.1.Nodup then b3 (.nx (q.2.set i (.ow (let r:=W3 z.1 z.2 k p.1;.dct r.1 r.2))))else b4
theorem JG{N:Ud->Prop}{k:Z8}{v:V}(h:aD K N H N v d):∀{kvs:List (Z8×V)}{ds:List cF},(kvs.map Ch).Nodup->bD K N H (kvs.map Dg) ds->(WS kvs k v).map Ch=(W3 (kvs.map Ch) ds k d).1/\bD K N H ((WS kvs k v).map Dg) (W3 (kvs.map Ch) ds k d).2
 |[],_,_,.nil=>⟨rfl,.cons h .nil⟩
 | (k',u) :: kvs,_,b,.cons g t => by
  obtain⟨f,c⟩:=De.mp b;by_cases a:k'=k
  ·subst a
   have e:WS ((k',u)::kvs) k' v=(k',v)::kvs:=by
    unfold WS;rw[if_pos (by simp)];simp only[Bg,if_true];congr 1;refine(Jv λp i=>?_).trans (List.map_id _);have:p.1≠k':=λz=>f (Cd.mpr ⟨p,i,z⟩)
    simp[this]
   rw[e];exact⟨by simp[W3],by simpa[W3]using bD.cons h t⟩
  ·obtain⟨h1,h2⟩:=JG (k:=k) h c t
   have e:WS ((k',u)::kvs) k v=(k',u)::WS kvs k v:=by
    unfold WS;simp only[Ji,a,decide_false,Sw];split
    ·simp[a]
    ·rfl
   rw[e];exact⟨by simpa[W3,a]using h1,by simpa[W3,a]using bD.cons g h2⟩
def HD{N:Ud->Prop}{l:Ud}{o:HO}{xs:List V}{ds:List cF}{kvs:List (Z8×V)}(d:H l=b3 (.dK kvs))(e:N l)(h:bD K N H xs ds):bD K N (upd H l o) xs ds:=
 h.fr (P:=λb=>b=l) (λb u q n=>by
  by_cases c:b=l
  ·subst c
   rw[d]at q;cases q;exact absurd (n rfl) λz=>z
  ·rw[bA c]
   exact q) λa z=>z▸e
def BY{i:Nat}{fk u:VF}{bu:Pos}(I:X.A.units+1<cLine)(J:PE X a (NZ i))(L:PE X b (TV K ml pa ta ia fk))(G:PE X c (TV K ml pb b8 b8 u))(hs:Ur c (b3 (.Subscript a b bu)) pos.line X.env=pure ba):
  PS X (.Assign [.Subscript a b bu] c pos) (U7 K ml (FN i fk u)):=(jK I J L G hs).imp λD σ H f=>by
 obtain⟨B,O,δ,o,S,q,k⟩:=f;unfold FN at q;obtain⟨⟨z,δ1⟩,h1,q⟩:=Ac.mp q;have q:((WB δ1 i).bind λ_=>(fk δ1).bind λq=>(V2 q.1).bind λk=>(WB q.2 i).bind λd=>if d.1.length<16777216/\d.1.Nodup then b3 (Ou.nx (q.2.set i (.ow (let r:=W3 d.1 d.2 k z;.dct r.1 r.2))))else b4)=b3 o:=q;cases j:WB δ1 i with
 |none=>rw[j]at q;cases q
 |some C=>
 obtain⟨F,R⟩:=C;rw[j]at q;cases h2:fk δ1 with
 |none=>simp[h2]at q
 |some p2=>
  obtain⟨y,δ2⟩:=p2;simp only[An,h2]at q;cases h:V2 y with
  |none=>simp[h]at q
  |some e=>
   simp only[An,h]at q;cases g:WB δ2 i with
   |none=>simp[g]at q
   |some x=>
    obtain⟨ks,ds⟩:=x;simp only[g,An]at q;split at q
    ·rename_i hz
     cases q;refine⟨B,O,δ,z,δ1,S,h1,λs H1 n=>?_⟩;obtain⟨l,m,Q,_⟩:=n.sta.ow i _ (Q5 j);refine⟨.ref l,Q,B,O,δ1,y,δ2,n.sta,h2,λT H2 R2=>?_⟩;have P:=R2.rep.key h;subst P;obtain⟨U,v,_,p⟩:=R2.sta.ow i _ (Q5 g);rw[m]at v;cases v;generalize hw:cF.dct ks ds=dd at p;cases p with
     |lst _ _=>cases hw
     |dct t r=>
      cases hw;have E:=n.rep.fr R2.frm (λa z=>.inr z) λa z=>.inr z;obtain⟨N,M⟩:=JG (k:=e) E hz.2 r;refine⟨l,_,rfl,DPut.k t (by rw[Cc];simpa using hz.1),k σ _ O (R2.sta.wrote m (λz=>z) ?_)⟩;have w:N5 K (Nn B O) (upd H2 l (.dK (WS _ e s))) l (.dct ((WS _ e s).map Ch) _):=.dct bK (HD t (.inr ⟨i,m⟩) M);rw[N]at w;exact w
    ·cases q
end
section
variable{X:Cx}{K:Aj}{ml:List Nat}{e a b c:Uj}{es:List Uj}{pa ta ia pb tb ib pc tc ic pu bt bi ps bs:Bool}{fa fb fc f:VF}{B B':Bs}{O:Nat->Option Ud}{H H0 H1 H':Hp}{σ:St}{δ δ':Ev}{v:V}{d:cF}{p:Ud}{pos:Pos}
def lJ(i j k:Nat)(ta:TA):TS:=λD σ H=>ta σ H λvs H1=>∃v w u,vs=[v,w,u]/\D.nx (((σ.set i (b3 v)).set j (b3 w)).set k (b3 u)) H1
def Zi{i j k:Nat}{x y z:Ug}{a b c:Uj}{ta:TA}{t r n pt:Pos}{kt k2 pt2}(hc:X.calm=b8)(J:X.N.Nodup)(hi:X.N[i]?=b3 x)(U:X.N[j]?=b3 y)(T:X.N[k]?=b3 z)(G:i≠j)(F:i≠k)(E:j≠k)(L:X.env.scope.names.lookup x=b3 .local)(K:X.env.scope.names.lookup y=b3 .local)(hz:X.env.scope.names.lookup z=b3 .local)(V:PA X [a,b,c] ta)(hw:Fp [.Tuple [.Name x t,.Name y r,.Name z n] kt pt] (.Tuple [a,b,c] k2 pt2) X.env=pure (b3 [x,y,z]))(hs:Fo [.Tuple [.Name x t,.Name y r,.Name z n] kt pt] (.Tuple [a,b,c] k2 pt2) pos.line X.env=pure ba:=by rfl):PS X (.Assign [.Tuple [.Name x t,.Name y r,.Name z n] kt pt] (.Tuple [a,b,c] k2 pt2) pos) (lJ i j k ta):=by
 intro aa s σ H D I h;rw[exec_Assign_arm];refine Aa (Dn ?_);rw[hs];refine Aa (Ah ?_);rw[if_neg (by decide)];refine Aa (Tuple_ (YC (V _ aa s σ H _ I h) λO s1 ⟨vs,H1,I1,R,q1⟩=>?_));obtain⟨v,w,u,W,q1⟩:=q1;subst W;obtain⟨g,f,d,rfl,P,l,Q⟩:∃g f d,O=[g,f,d]/\aG v g/\aG w f/\aG u d:=by
  cases R with
  |cons p q=>
   cases q with
   |cons p' S=>
    cases S with
    |cons B m=>
     cases m;exact⟨_,_,_,rfl,p,p',B⟩
 refine Dh ?_ (by show 3<=sizeLine;decide);have I2:bM X aa σ H1 {s1 with heap:=s1.heap.push {cls:=.type "tuple",data:=.seq [g,f,d].toArray}}:=I1.kept (t':=s1.toks) λb o e=>Ad _ e;rw[hw];refine Aa (Ah ?_);show Ue (Uf X.prog X.w) X.A (do rule "assign.swapped-stores";let items<-Jr (.ref s1.heap.objs.size) 3 b4;Uv [λv=>Iu X.env z v,λv=>Iu X.env y v,λv=>Iu X.env x v] items.reverse;pure Flow.next) _ _ _;refine Aa (Gy (Aa (Pf (items:= #[g,f,d]) (I.ok.hd hc) (Js s1.heap _) λh' C=>?_)));have I3:=I2.kept (h':=h') (t':=s1.toks) λb o e=>C b o (Bf (Al e)) e;show Ue _ _ (Uv [λv=>Iu X.env z v,λv=>Iu X.env y v,λv=>Iu X.env x v] [d,f,g]>>=λ_=>pure Flow.next) _ _ _;refine Aa (Ea (Iv (XU I3 J T (.inl hz) Q (λs2 Z=>?_) (.inr hz))));refine Ea (Iv (XU Z J U (.inl K) l (λs3 Y=>?_) (.inr K)));refine Ea (Iv (XU Y J hi (.inl L) P (λs4 M=>Ij (Ah ?_)) (.inr L)));rw[Eb _ _ (Ck G),Eb _ _ (Ck F),Eb _ _ (Ck E)]at M;exact⟨_,H1,M,q1⟩
noncomputable def M5(i j k:Nat)(x y z:VX):VS:=λδ=>(x δ).bind λp=>(y p.2).bind λq=>(z q.2).bind λr=>if i<r.2.length/\j<r.2.length/\k<r.2.length then b3 (.nx (((r.2.set k r.1).set j q.1).set i p.1))else b4
def JK{i j k:Nat}{x y z:VX}{o:Ou}(h:M5 i j k x y z δ=b3 o):∃s1 δ1 d δ2 c a,x δ=b3 (s1,δ1)/\y δ1=b3 (d,δ2)/\z δ2=b3 (c,a)/\(i<a.length/\j<a.length/\k<a.length)/\o=.nx (((a.set k c).set j d).set i s1):=by
 unfold M5 at h;cases h1:x δ with
 |none=>rw[h1]at h;cases h
 |some p=>
  rw[h1]at h;cases h2:y p.2 with
  |none=>simp[h2]at h
  |some q=>
   simp only[An,h2]at h;cases b:z q.2 with
   |none=>simp[b]at h
   |some r=>
    simp only[An,b]at h;split at h
    ·cases h
     exact⟨p.1,p.2,q.1,q.2,r.1,r.2,rfl,h2,b,by assumption,rfl⟩
    ·cases h
def jY{i j k:Nat}{x y z:Ug}{fx C A:VX}{m l h pt:Pos}{kt k2 pt2}(hc:X.calm=b8)(Z:X.N.Nodup)(hi:X.N[i]?=b3 x)(U:X.N[j]?=b3 y)(T:X.N[k]?=b3 z)(f:i≠j)(e:i≠k)(d:j≠k)(R:X.env.scope.names.lookup x=b3 .local)(Q:X.env.scope.names.lookup y=b3 .local)(hz:X.env.scope.names.lookup z=b3 .local)(Y:PE X a (TX K ml fx))(W:PE X b (TX K ml C))(w:PE X c (TX K ml A))(hw:Fp [.Tuple [.Name x m,.Name y l,.Name z h] kt pt] (.Tuple [a,b,c] k2 pt2) X.env=pure (b3 [x,y,z]))(s:i∉ml:=by decide)(r:j∉ml:=by decide)(p:k∉ml:=by decide)(hs:Fo [.Tuple [.Name x m,.Name y l,.Name z h] kt pt] (.Tuple [a,b,c] k2 pt2) pos.line X.env=pure ba:=by rfl)(V:SE X a [b,c]:=by rfl)(u:SE X b [c]:=by rfl)(t:SE X c []:=by rfl):
  PS X (.Assign [.Tuple [.Name x m,.Name y l,.Name z h] kt pt] (.Tuple [a,b,c] k2 pt2) pos) (U7 K ml (M5 i j k fx C A)):=(Zi hc Z hi U T f e d R Q hz (aW Y (aW W (aW w ZB t) u) V) hw hs).imp λD σ H n=>by
 obtain⟨B,O,δ,o,S,q,k⟩:=n;obtain⟨s1,δ1,P,δ2,M,g,h1,h2,h3,hl,rfl⟩:=JK q;refine⟨B,O,δ,s1,δ1,S,h1,λv H1 B1 S1 I f1=>⟨B1,O,δ1,P,δ2,S1,h2,λL H2 B2 S2 G f2=>⟨B2,O,δ2,M,g,S2,h3,λJ H3 B3 S3 F f3=>⟨v,L,J,rfl,?_⟩⟩⟩⟩;obtain⟨O4,S4⟩:=F.bind S3 p hl.2.2;obtain⟨O5,S5⟩:=(G.fr f3).bind S4 r (by rw[Cg];exact hl.2.1);obtain⟨O6,E⟩:=((I.fr f2).fr f3).bind S5 s (by rw[Cg,Cg];exact hl.1);rw[Eb _ _ (Ck f),Eb _ _ (Ck e),Eb _ _ (Ck d)]at E;exact k _ _ _ E
def B0{i j k:Nat}{x y z:Ug}{fx R Q:VX}{f e d pt:Pos}{kt k2 pt2}(hK:X.K=K)(hc:X.calm=b8)(E:X.N.Nodup)(hi:X.N[i]?=b3 x)(hj:X.N[j]?=b3 y)(hk:X.N[k]?=b3 z)(u:i≠j)(t:i≠k)(s:j≠k)(hx:B9 X.env.scope x)(hy:B9 X.env.scope y)(hz:B9 X.env.scope z)(ha:PE X a (TX K ml fx))(hb:PE X b (TX K ml R))(C:PE X c (TX K ml Q))(r:i∉ml:=by decide)(n:j∉ml:=by decide)(m:k∉ml:=by decide)(hs:Fo [.Tuple [.Name x f,.Name y e,.Name z d] kt pt] (.Tuple [a,b,c] k2 pt2) pos.line X.env=pure ba:=by rfl)(hw:Fp [.Tuple [.Name x f,.Name y e,.Name z d] kt pt] (.Tuple [a,b,c] k2 pt2) X.env=pure b4:=by rfl)(hn:(Uk [.Name x f,.Name y e,.Name z d] X.env).length=3:=by rfl)(h:(Uk [.Name x f,.Name y e,.Name z d] X.env).findIdx? (·.1)=b4:=by rfl)(g1:(Uk [.Name x f,.Name y e,.Name z d] X.env).map (·.2)=Fk (.Name x f) X.env::(Uk [.Name y e,.Name z d] X.env).map (·.2):=by rfl)(g2:(Uk [.Name y e,.Name z d] X.env).map (·.2)=Fk (.Name y e) X.env::(Uk [.Name z d] X.env).map (·.2):=by rfl)(g3:(Uk [.Name z d] X.env).map (·.2)=Fk (.Name z d) X.env::(Uk [] X.env).map (·.2):=by rfl)(I:LO X x:=by first|exact .inl rfl|exact .inr rfl|assumption)(G:LO X y:=by first|exact .inl rfl|exact .inr rfl|assumption)(F:LO X z:=by first|exact .inl rfl|exact .inr rfl|assumption)(h1:(Uk [.Tuple [.Name x f,.Name y e,.Name z d] kt pt] X.env).map (·.2)=[Fk (.Tuple [.Name x f,.Name y e,.Name z d] kt pt) X.env]:=by rfl)(he:SE X a [b,c]:=by rfl)(A:SE X b [c]:=by rfl)(w:SE X c []:=by rfl):PS X (.Assign [.Tuple [.Name x f,.Name y e,.Name z d] kt pt] (.Tuple [a,b,c] k2 pt2) pos) (U7 K ml (M5 i j k fx R Q)):=
 (HA (C8 (aW ha (aW hb (aW C ZB w) A) he)) (Vr (K:=K) hK hc (UG (Q6 E hi hx I) (UG (Q6 E hj hy G) (UG (Q6 E hk hz F) G9 g3) g2) g1) hn h) hs hw h1).imp λD σ H l=>by obtain⟨B,O,δ,o,S,q,k⟩:=l;obtain⟨s1,δ1,s2,δ2,Z,g,h1,h2,h3,hl,rfl⟩:=JK q;refine⟨B,O,δ,s1,δ1,S,h1,λv H1 B1 S1 Y f1=>⟨B1,O,δ1,s2,δ2,S1,h2,λM H2 B2 S2 W f2=>⟨B2,O,δ2,Z,g,S2,h3,λL U B3 S3 V f3=>⟨(by show 3<=sizeLine;decide),λp P=>⟨p,_,rfl,U6.of bK,rfl,v,_,rfl,M,_,rfl,L,_,rfl,rfl,?_⟩⟩⟩⟩⟩;have J:Fr (OA O) U (upd U p (.tup [v,M,L])):=(bZ P).fr;obtain⟨O4,S4⟩:=(V.fr J).bind (S3.same (bZ P)) m hl.2.2;obtain⟨O5,S5⟩:=((W.fr f3).fr J).bind S4 n (by rw[Cg];exact hl.2.1);obtain⟨O6,T⟩:=(((Y.fr f2).fr f3).fr J).bind S5 r (by rw[Cg,Cg];exact hl.1);rw[Eb _ _ (Ck u),Eb _ _ (Ck t),Eb _ _ (Ck s)]at T;exact k _ _ _ T
def eX{i j:Nat}{x y:Ug}{fx r:VX}{d c pt:Pos}{kt k2 pt2}(T:X.K=K)(hc:X.calm=b8)(z:X.N.Nodup)(hi:X.N[i]?=b3 x)(M:X.N[j]?=b3 y)(l:i≠j)(J:B9 X.env.scope x)(I:B9 X.env.scope y)(R:PE X a (TX K ml fx))(Q:PE X b (TX K ml r))(h:i∉ml:=by decide)(g:j∉ml:=by decide)(hs:Fo [.Tuple [.Name x d,.Name y c] kt pt] (.Tuple [a,b] k2 pt2) pos.line X.env=pure ba:=by rfl)(hw:Fp [.Tuple [.Name x d,.Name y c] kt pt] (.Tuple [a,b] k2 pt2) X.env=pure b4:=by rfl)(L:(Uk [.Name x d,.Name y c] X.env).length=2:=by rfl)(e:(Uk [.Name x d,.Name y c] X.env).findIdx? (·.1)=b4:=by rfl)(V:(Uk [.Name x d,.Name y c] X.env).map (·.2)=Fk (.Name x d) X.env::(Uk [.Name y c] X.env).map (·.2):=by rfl)(U:(Uk [.Name y c] X.env).map (·.2)=Fk (.Name y c) X.env::(Uk [] X.env).map (·.2):=by rfl)(t:LO X x:=by first|exact .inl rfl|exact .inr rfl|assumption)(n:LO X y:=by first|exact .inl rfl|exact .inr rfl|assumption)(h1:(Uk [.Tuple [.Name x d,.Name y c] kt pt] X.env).map (·.2)=[Fk (.Tuple [.Name x d,.Name y c] kt pt) X.env]:=by rfl)(P:SE X a [b]:=by rfl)(m:SE X b []:=by rfl):PS X (.Assign [.Tuple [.Name x d,.Name y c] kt pt] (.Tuple [a,b] k2 pt2) pos) (U7 K ml (U2 i j fx r)):=
 (HA (C8 (aW R (aW Q ZB m) P)) (Vr (K := K) T hc (UG (Q6 z hi J t) (UG (Q6 z M I n) G9 U) V) L e) hs hw h1).imp λD σ H f => by
  obtain⟨B,O,δ,o,S,q,k⟩:=f;unfold U2 at q;obtain⟨⟨s,δ1⟩,h1,q⟩:=Ac.mp q;cases h2:r δ1 with
  |none=>simp[h2]at q
  |some p2=>
   obtain⟨G,δ2⟩:=p2;simp only[An,h2]at q;split at q
   ·rename_i hl
    cases q;refine⟨B,O,δ,s,δ1,S,h1,λv H1 B1 Z F f1=>⟨B1,O,δ1,G,δ2,Z,h2,λu H2 B2 Y E f2=>⟨(by show 2<=sizeLine;decide),λp w=>⟨p,_,rfl,U6.of bK,rfl,v,_,rfl,u,_,rfl,rfl,?_⟩⟩⟩⟩;have A:Fr (OA O) H2 (upd H2 p (.tup [v,u])):=(bZ w).fr;obtain⟨O3,W⟩:=(E.fr A).bind (Y.same (bZ w)) g hl.2;obtain⟨O4,C⟩:=((F.fr f2).fr A).bind W h (by rw[Cg];exact hl.1);rw[Eb _ _ (Ck l)]at C;exact k _ _ _ C
   ·cases q
def rIsB(neg:Bool):R2:=λx y H Q=>∃k,y=.bl k/\Q (.bl (if neg then !decide (x=.bl k)else decide (x=.bl k))) H
def kz:V5 X (Dd .Is) (rIsB ba):=by
 intro aa s σ H x y v u Q I a b h;obtain⟨k,rfl,q⟩:=h;cases b;have e:(v==Gi k)=decide (x=V.bl k):=by
  cases x<;>first
   |(cases a;first|rfl|(rename_i z;cases z<;>cases k<;>rfl))
   |(obtain⟨t,rfl⟩:=a;rfl)
 exact wpAny_is_plain (by cases x<;>first|(cases a;cases k<;>rfl)|(obtain⟨t,rfl⟩:=a;cases k<;>rfl)) (by rw[e];exact⟨.bl _,H,I,rfl,q⟩)
def iX:V5 X (Dd .IsNot) (rIsB b8):=by
 intro aa s σ H x y v u Q I a b h;obtain⟨k,rfl,q⟩:=h;cases b;have e:(v==Gi k)=decide (x=V.bl k):=by
  cases x<;>first
   |(cases a;first|rfl|(rename_i z;cases z<;>cases k<;>rfl))
   |(obtain⟨t,rfl⟩:=a;rfl)
 exact wpAny_isNot_plain (by cases x<;>first|(cases a;cases k<;>rfl)|(obtain⟨t,rfl⟩:=a;cases k<;>rfl)) (by rw[e];exact⟨.bl _,H,I,rfl,q⟩)
noncomputable def isBl(k:Bool):cF->Bool
 |.bl x=>x==k
 |_=>ba
def oIsB:cF->cF->Option cF
 |d,.bl k=>b3 (.bl (isBl k d))
 |_,_=>b4
def FA:cF->cF->Option cF
 |d,.bl k=>b3 (.bl (!isBl k d))
 |_,_=>b4
def BK{N M:Ud->Prop}{k:Bool}(h:aD K N H M v d):decide (v=V.bl k)=isBl k d:=by
 cases h<;>simp[isBl];rename_i b;cases b<;>cases k<;>rfl
def Zj:N4 K (rIsB ba) oIsB:=by
  intro H N N' M M' x y d e c Q b a h k;cases a<;>first
    | (cases h
       refine⟨_,rfl,?_⟩;simp only[Eu,if_false];rw[BK b];exact k _ λ_ _ _=>.bl _)
    |(simp[oIsB]at h)
def mB:N4 K (rIsB b8) FA:=by
  intro H N N' M M' x y d e c Q b a h k;cases a<;>first
    | (cases h
       refine⟨_,rfl,?_⟩;simp only[if_true];rw[BK b];exact k _ λ_ _ _=>.bl _)
    |(simp[FA]at h)
end
section
variable{prog:Be}{w:Ul}{A:Bx}{E:Uc->Ae->Prop}{s:Ae}
def QP{it t:Ud}{i:Nat}{items:Array Uc}{x:Uc}{Q:Uc->Ae->Prop}(a:s.heap.IsTupleIter it t i)(e:s.heap.IsTuple t items)(d:items[i]?=b3 x)(f:∀h',h'.IsTupleIter it t (i+1)->Fa it s.heap h'->Q x {s with heap:=h'}):Ue (Uf prog w) A (Cb (.ref it)) Q E s:=by obtain⟨l,c,j,b⟩:=id a;obtain⟨k,g,_,m,h⟩:=e;unfold Cb;refine Aa (Dt (name:=Bj "__next__") a.typeIs Fm (Eg Fm a.typeIs Jw ?_ (Jj _)));show Ue _ _ (field (Bo it) 0>>=_) _ _ s;refine Aa (Ed c b (x:=.ref t) rfl ?_);show Ue _ _ (if(Bo t== .none)=b8 then _ else _) _ _ s;rw[if_neg (show¬(Bo t==Value.none)=b8 from Dq)];show Ue _ _ (field (Bo it) 1>>=_) _ _ s;refine Aa (Ed c b (x:=.int i 0) rfl ?_);show Ue _ _ (seqItems? (Bo t)>>=_) _ _ s;refine Aa (Fc g h ?_);simp only[d,Il];refine Aa (wpAny_setField c b (by simp) (Ah ⟨x,rfl,Ah (f _ ⟨_,Jb _ c (Obj.isFreed_of_fields (Oi b _)),(Obj.cls_mapFields ..).trans j,?_⟩ (Nr ..))⟩));rw[Oi b];simp[rawInt]
def OW{it t:Ud}{i:Nat}{items:Array Uc}{Q:Uc->Ae->Prop}(f:A.handled=b4)(b:s.heap.IsTupleIter it t i)(h:s.heap.IsTuple t items)(g:items[i]?=b4)(j:∀h' e,Ju it s.heap h'->(∃o,h'.get? e=b3 o/\o.cls=.type "StopIteration")->E (.ref e) {s with heap:=h'}):Ue (Uf prog w) A (Cb (.ref it)) Q E s:=by
 obtain⟨p,c,r,d⟩:=id b;obtain⟨n,k,_,q,l⟩:=h;unfold Cb;refine Aa (Dt (name:=Bj "__next__") b.typeIs Fm (Eg Fm b.typeIs Jw ?_ (Jj _)));show Ue _ _ (field (Bo it) 0>>=_) _ _ s;refine Aa (Ed c d (x:=.ref t) rfl ?_);show Ue _ _ (if(Bo t== .none)=b8 then _ else _) _ _ s;rw[if_neg (show¬(Bo t==Value.none)=b8 from Dq)];show Ue _ _ (field (Bo it) 1>>=_) _ _ s;refine Aa (Ed c d (x:=.int i 0) rfl ?_);show Ue _ _ (seqItems? (Bo t)>>=_) _ _ s;refine Aa (Fc k l ?_);simp only[g,Il];refine Aa (Gy (Aa (wpAny_setField c d (by simp) ?_)));show Ue _ _ (newExc (Kv "StopIteration") []>>=_) _ _ _;refine Aa ?_;unfold newExc newTuple;refine Aa (Dh ?_ (by size_fits));refine Aa (m:=firstArgMember _ _) (wpAny_of_eq (a:=Value.none) (by first|rfl|(unfold firstArgMember;rfl)) (Dh ?_ (by size_fits)));unfold raiseNew;refine Aa (wpAny_handled ?_);first|rw[f]|rw[show A.in1.handled=b4 from f]
 refine Aa (Ah (wpAny_throw (j _ _ (((Nr ..).extBut.push _).push _) ⟨_,Ba _ rfl,rfl⟩)))
end
def lY{prog:Be}{w:Ul}{A:Bx}(g:A.handled=b4)(it t:Ud)(d:t≠it)(items:Array Uc):
  Draws prog w A it [it,t] items.size (λi v=>items[i]?=b3 v) (λi h=>h.IsTupleIter it t i/\h.IsTuple t items) where
 live:=λ_ _ st=>let ⟨o,c,_⟩:=st.1;⟨o,c⟩
 frame:=λ_ _ _ st f=>⟨st.1.at λo e=>f it (by simp) o e,by obtain⟨o,c,r⟩:=st.2;exact⟨o,f t (by simp) o c,r⟩⟩
 item:=λi s Q E hi st j=>QP st.1 st.2 (x:=items[i]) (by simp[hi]) λh' a b=>j _ h' s.toks (by simp[hi]) ⟨a,st.2.extBut b.extBut d⟩ b
 done:=λs Q E st k=>OW g st.1 st.2 (by simp) k
section
variable{X:Cx}{aa:List (Ud×Uq)}{σ:St}{H:Hp}{s:Ae}{h':Um}
def bM.turnedL{t':Nat}{fp:List Ud}(I:bM X aa σ H s)(k:∀b o,b∉fp->s.heap.get? b=b3 o->h'.get? b=b3 o)(there:∀b∈fp,∃o,h'.get? b=b3 o)(d:∀b∈fp,NB X aa H b):bM X aa σ H {s with heap:=h',toks:=t'}:=by
 have a:∀b u,H b=b3 u->b∉fp:=λb u e z=>by rw[(d b z).1]at e;cases e
 have i:X.env.locals∉fp:=λz=>(d _ z).2.1 rfl;refine I.step (g':=s.gens) (d':=s.drawn) (ch:=fp) (λb h=>?_) (λb o _ _ hc e _=>k b o hc e) (λb o _ _ hc e _=>⟨o.slots,k b o hc e⟩) (λ_ _ _ _ n=>n)
  (λb o hc e=>⟨o,k b o hc e⟩) (λ_ _ e=>e) (λ_ _ _ e=>e) (λb ps e=>⟨#[],by rw[e];simp⟩) (λm g=>?_) (λb u e=>?_) I.bare
 ·obtain⟨_,f1,f2,f3,l,j⟩:=d b h
  exact⟨f3,f1,l,j⟩
 ·obtain⟨o,es,p,f,r⟩:=g
  exact⟨o,es,p,k _ o i f,r⟩
 ·refine (I.hok b u e).stay (λc v hc q => k c v ?_ q) (λ_ q => q) λ_ _ q => q
  rcases hc with z|z
  ·rw[z];exact a b u e
  ·exact a c _ z
end
section
variable{X:Cx}{aa:List (Ud×Uq)}{σ:St}{H:Hp}{s:Ae}{h':Um}
def bM.turnedL'{t':Nat}{fp:List Ud}(I:bM X aa σ H s)(k:∀b o,b∉fp->s.heap.get? b=b3 o->h'.get? b=b3 o)(d:∀b∈fp,NB X aa H b):bM X aa σ H {s with heap:=h',toks:=t'}:=by
 have a:∀b u,H b=b3 u->b∉fp:=λb u e z=>by rw[(d b z).1]at e;cases e
 have i:X.env.locals∉fp:=λz=>(d _ z).2.1 rfl;refine I.step (g':=s.gens) (d':=s.drawn) (ch:=fp) (λb h=>?_) (λb o _ _ hc e _=>k b o hc e) (λb o _ _ hc e _=>⟨o.slots,k b o hc e⟩) (λ_ _ _ _ n=>n)
  (λb o hc e=>⟨o,k b o hc e⟩) (λ_ _ e=>e) (λ_ _ _ e=>e) (λb ps e=>⟨#[],by rw[e];simp⟩) (λm g=>?_) (λb u e=>?_) I.bare
 ·obtain⟨_,f1,f2,f3,l,j⟩:=d b h
  exact⟨f3,f1,l,j⟩
 ·obtain⟨o,es,p,f,r⟩:=g
  exact⟨o,es,p,k _ o i f,r⟩
 ·refine (I.hok b u e).stay (λc v hc q => k c v ?_ q) (λ_ q => q) λ_ _ q => q
  rcases hc with z|z
  ·rw[z];exact a b u e
  ·exact a c _ z
end
def HS(K:Aj)(tup:Bool)(H:Hp)(a:Ud)(xs:List V):Prop:=if tup=b8 then U6 K H a xs else WW K H a xs
def OB(tup:Bool)(h:Um)(a:Ud)(items:Array Uc):Prop:=if tup=b8 then h.IsTuple a items else h.IsList a items
def SG(tup:Bool)(h:Um)(it a:Ud)(i:Nat):Prop:=if tup=b8 then h.IsTupleIter it a i else h.IsListIter it a i
def Xz{prog:Be}{w:Ul}{A:Bx}(b:A.handled=b4)(tup:Bool)(it t:Ud)(a:t≠it)(items:Array Uc):Draws prog w A it [it,t] items.size (λi v=>items[i]?=b3 v) (λi h=>SG tup h it t i/\OB tup h t items):=by
 cases tup with
 |true=>exact lY b it t a items
 |false=>exact Draws.list b it t a items
def OB.lt{tup:Bool}{h:Um}{a:Ud}{items:Array Uc}(s:OB tup h a items):a<h.objs.size:=by
 cases tup with
 |true=>obtain⟨o,e,_⟩:=s;exact Al e
 |false=>obtain⟨o,e,_⟩:=s;exact Al e
def bM.srcA{X:Cx}{aa:List (Ud×Uq)}{σ:St}{H:Hp}{s:Ae}{a:Ud}{xs:List V}{tup:Bool}(I:bM X aa σ H s)(h:HS X.K tup H a xs):∃its:List Uc,aK xs its/\OB tup s.heap a its.toArray/\xs.length<=sizeLine:=by
 cases tup with
 |true=>
  obtain⟨its,r,p,z⟩:=I.tuple h;exact⟨its,r,p,z⟩
 |false=>
  obtain⟨its,r,p,z⟩:=I.list h;exact⟨its,r,p.isList,z⟩
def bM.sq_inj{X:Cx}{aa:List (Ud×Uq)}{σ:St}{H:Hp}{s:Ae}{a:Ud}{xs ys:List V}{tup:Bool}(I:bM X aa σ H s)(h:HS X.K tup H a xs)(h':HS X.K tup H a ys):xs=ys:=by
 cases tup with
 |true=>exact I.tuple_inj h h'
 |false=>exact I.list_inj h h'
def SG.at{tup:Bool}{h h':Um}{it a:Ud}{i:Nat}(st:SG tup h it a i)(k:∀o,h.get? it=b3 o->h'.get? it=b3 o):SG tup h' it a i:=by
 cases tup with
 |true=>exact Heap.IsTupleIter.at st k
 |false=>exact Heap.IsListIter.at st k
def SG.obj{tup:Bool}{h:Um}{it a:Ud}{i:Nat}(st:SG tup h it a i):∃o,h.get? it=b3 o/\∀v,o.data≠ .cell v:=by
 cases tup with
 |true=>
  obtain⟨o,e,c,d⟩:=st;exact⟨o,e,λv z=>by rw[d]at z;cases z⟩
 |false=>
  obtain⟨o,e,c,d⟩:=st;exact⟨o,e,λv z=>by rw[d]at z;cases z⟩
def Ite(K:Aj)(tup:Bool)(a:Ud):It:=
 ⟨λi H=>∃xs x,HS K tup H a xs/\xs[i]?=b3 x,λi H v H'=>∃p x,(∀xs,HS K tup H a xs->xs[i]?=b3 x)/\H p=b4/\H'=upd H p (.tup [.int i,x])/\v=.ref p,λi H=>∃xs,HS K tup H a xs/\xs.length=i⟩
def nJ{P:Be}{w:Ul}{K:Aj}{es:List Uj}{k:Nat}{pos:Pos}(tup:Bool)(a e it:Ud)(g:e≠it)(Q:a≠e)(C:a≠it):
  D8 P w K (.Tuple es k pos) (Ite K tup a) [e,it] e (λi h=>(∃f,IsEnum h e it i f)/\SG tup h it a i) where
 mem:=by simp
 obj:=λi h st b c=>by
  obtain⟨⟨f,j⟩,hi⟩:=st;rcases Ai.mp c with z|z
  ·subst z
   exact⟨_,j,λv z=>by cases z⟩
  ·have:=Ar.mp z
   subst this;exact hi.obj
 keep:=λi h h' st G=>by obtain⟨⟨f,j⟩,hi⟩:=st;exact⟨⟨f,G e (by simp) _ j⟩,hi.at λo q=>G it (by simp) o q⟩
 item:=by
  intro X R hw S hc i aa s σ H E I t st O;subst R hw S;obtain⟨⟨f,j⟩,hi⟩:=st;obtain⟨xs,x,J,r⟩:=O;obtain⟨its,F,l,hz⟩:=I.srcA J;have M:i<its.toArray.size:=by
   have:=(Ag.mp r).1
   have:=F.length
   simp only[Ao];lia
  have N:X.A.in1.handled=b4:=I.ok.hd hc;refine wpAny_pyNext_enum_itemD (Xz N tup it a C its.toArray) j ⟨hi,l⟩ M g (by simp[g,Ck Q]) λu h1 tk m ho p Z hsz hk=>⟨_,rfl,?_⟩;refine wpAny_letOwnedTupleGo_enum (s:={s with heap:=h1,toks:=tk+1}) ho λh2 y d=>?_;have d:Fa e h1 h2:=d;obtain⟨n,L,W⟩:=F.get r;have m:its.toArray[i]?=b3 u:=m;rw[List.getElem?_toArray,L]at m;have m:=Cq m;subst m;have G:∀b o,b∉[e,it]->s.heap.get? b=b3 o->h2.get? b=b3 o:=λb o c q=>by have D:b≠e:=λz=>c (by simp[z]);have T:b≠it:=λz=>c (by simp[z]);exact(d.2 b D).trans (hk b o D T q)
  have dh:h2.get? s.heap.objs.size=b3 {cls:=.type "tuple",data:=.seq #[.int i tk,n]}:=(d.2 _ (Go (Al j))).trans Z;have bq:H s.heap.objs.size=b4:=I.hok.fresh (Am _);have U:∀b∈[e,it],b<s.heap.objs.size:=λb c=>by
   rcases Ai.mp c with z|z
   ·rw[z];exact Al j
   ·rw[Ar.mp z]
    obtain⟨o,q,_⟩:=hi.obj;exact Al q
  have I0:bM X aa σ (upd H s.heap.objs.size (.tup [.int i,x])) {s with heap:=s.heap.push {cls:=.type "tuple",data:=.seq #[.int i tk,n]},toks:=tk}:=
   I.laid (λb o q=>Ad _ q) (Am _) ⟨by show 2<=sizeLine;decide,[.int i tk,n],.cons ⟨tk,rfl⟩ (.cons W .nil),Js _ _⟩
  have I1:bM X aa σ (upd H s.heap.objs.size (.tup [.int i,x])) {s with heap:=h2,toks:=tk+1}:=by
   refine bM.turnedL (s:={s with heap:=s.heap.push {cls:=.type "tuple",data:=.seq #[.int i tk,n]},toks:=tk}) (h':=h2) (t':=tk+1) (fp:=[e,it]) I0 (λb o c q=>?_) (λb c=>?_) λb c=>⟨by rw[bA (Bf (U b c))];exact(t b c).1,(t b c).2⟩
   ·by_cases B:b=s.heap.objs.size
    ·subst B
     have q:(s.heap.push {cls:=.type "tuple",data:=.seq #[.int i tk,n]}).get? s.heap.objs.size=b3 o:=q;rw[Ba _ rfl]at q;cases q;exact dh
    ·exact G b o c ((Iq _ _ _ B).symm.trans q)
   ·rcases Ai.mp c with z|z
    ·rw[z];exact⟨_,y⟩
    ·rw[Ar.mp z]
     obtain⟨o,q,_⟩:=p.1.obj;exact⟨o,(d.2 it (Ck g)).trans q⟩
  refine⟨.ref s.heap.objs.size,upd H s.heap.objs.size (.tup [.int i,x]),?_,rfl,⟨_,x,λys Y=>by rw[I.sq_inj Y J];exact r,bq,rfl,rfl⟩,⟨⟨_,by simpa using y⟩,p.1.at λo q=>(d.2 it (Ck g)).trans q⟩,λb c=>?_⟩
  ·exact I1
  ·rw[bA (Bf (U b c))]
   exact(t b c).1
 done:=by
  intro X R hw S hc i aa s σ H E I t st O;subst R hw S;obtain⟨⟨f,j⟩,hi⟩:=st;obtain⟨xs,J,r⟩:=O;obtain⟨its,F,l,hz⟩:=I.srcA J;have N:X.A.in1.handled=b4:=I.ok.hd hc;have hn:its.toArray.size=i:=by rw[Ao,<-F.length];exact r
  refine wpAny_pyNext_enum_endD (Xz N tup it a C its.toArray) j ⟨by rw[hn];exact hi,l⟩ λh1 V=>⟨rfl,?_⟩;obtain⟨f0,f1,f2,f3,f4,f5⟩:=t it (by simp);exact I.turned (t':=s.toks) (λb o c q=>V b o c q) f0 f1 f3 f4 f5
 self:=λ_ i _ _ _ st h=>Po st.1.choose_spec h
def gT(a:Ud)(items:Array Uc)(n:Nat)(dd:Option Ud)(sl:Array (Option Uc)):Meets (Fe.«enumerate.__new__» ⟨[.type "enumerate",.ref a],[]⟩) (λ_ R s=>s.heap.get? a=b3 {cls:=.type "tuple",dict:=dd,data:=.seq items n,slots:=sl}∧R (.ok (.ret (.ref (s.heap.push {cls:=.type "tuple_iterator",data:=.fields #[.ref a,.int 0 0]}).objs.size))) {s with heap:=(s.heap.push {cls:=.type "tuple_iterator",data:=.fields #[.ref a,.int 0 0]}).push {cls:=.type "enumerate",data:=.fields #[.none,.bool ba,.ref s.heap.objs.size,rawInt 0,.none,.none]}}):=by
 refine .of_wp λprog w A R s h=>?_;obtain⟨f,g,d,tk,os⟩:=s;obtain⟨b,h⟩:=h;have hs:=sub_enumerate;have e:Heap.IsTuple (Rq ⟨f,g,d,tk,os⟩) a items:=⟨_,b,rfl,n,rfl⟩;wp_walk using Db b
 refine wpAny_stack_any λst=>Ah ?_;split
 ·rename_i c _ _ _ _ _
  cases (c==Kv "enumerate")<;>(wp_walk using Db b,Ht e;exact⟨_,rfl,h⟩)
 ·wp_walk using Db b,Ht e
  exact⟨_,rfl,h⟩
def CG{prog:Be}{w:Ul}{A:Bx}{E:Uc->Ae->Prop}{s:Ae}{a:Ud}{items:Array Uc}{tup:Bool}{Q:Uc->Ae->Prop}(hs:OB tup s.heap a items)(h:∀h',IsEnum h' (s.heap.objs.size+1) s.heap.objs.size 0 .none->SG tup h' s.heap.objs.size a 0->(∀b o,s.heap.get? b=b3 o->h'.get? b=b3 o)->Q (.ref (s.heap.objs.size+1)) {s with heap:=h'}):Ue (Uf prog w) A (call (.type "enumerate") [.ref a]) Q E s:=by
 cases tup with
 |false=>exact call_enumerate_list hs λh' i g _ a4=>h h' i g a4
 |true=>
  obtain⟨⟨f,dd,e,sl⟩,d,hc,n,hd⟩:=hs;replace hc:f=.type "tuple":=hc
  replace hd:e=.seq items n:=hd
  subst hc hd;have hz:(s.heap.push {cls:=.type "tuple_iterator",data:=.fields #[.ref a,.int 0 0]}).objs.size=s.heap.objs.size+1:=Cm ..;refine callType_new F.called_enumerate (by decide) (F.typeCall_enumerate_1 _) (F.newCall_enumerate_1 _) (λobj=>F.args_object_init_2 obj _) F.entry_enumerate_new (gT a items n dd sl) ⟨d,?_⟩;show _/\_;rw[hz];have c:=Ba (s.heap.push {cls:=.type "tuple_iterator",data:=.fields #[.ref a,.int 0 0]}) (o:={cls:=.type "enumerate",data:=.fields #[.none,.bool ba,.ref s.heap.objs.size,rawInt 0,.none,.none]}) rfl;rw[hz]at c;exact⟨⟨_,c,rfl⟩,h _ c ⟨_,Ad _ (Ba _ rfl),rfl,rfl⟩ λb o x=>Ad _ (Ad _ x)⟩
def GA:Bp "enumerate"=b3 (.type "enumerate"):=by decide+kernel
def ls:Bp "zip"=b3 (.type "zip"):=by decide+kernel
section
variable{X:Cx}{K:Aj}{ml:List Nat}{l:Uj}{pu:Bool}{f:VF}{p pos cz:Pos}{es:List Uj}{tk:Nat}{δ:Ev}
def iEnu(K:Aj)(tl:TE):TI:=λσ H R=>tl σ H λx H1=>∃a tup,x=.ref a/\(∃xs,HS K tup H1 a xs)/\R (Ite K tup a) H1
def o8{tl:TE}(r:Gl X "enumerate")(q:X.mg "enumerate"=b4)(hl:PE X l tl)(k:SE X l []:=by rfl):PI X (.Tuple es tk cz) (.Call (.Name "enumerate" p) [l] [] pos) (iEnu X.K tl):=by
 intro aa s σ H R I h;refine Et (P9 I r q GA ?_ (by decide) (by decide));refine Ec (YC (aW hl ZB k pos aa s σ H (λvs H1=>match vs with
  |[x]=>∃a tup,x=.ref a/\(∃xs,HS X.K tup H1 a xs)/\R (Ite X.K tup a) H1
  |_=>False) I h) λw s1 ⟨vs,H1,f,g,q1⟩=>?_) k (by rfl)
 match vs,g,q1 with
 |[x],g,q1=>
  obtain⟨a,tup,rfl,⟨xs,n⟩,t⟩:=q1;obtain⟨u,rfl,m⟩:=SQ g;cases m;obtain⟨its,y,c,_⟩:=f.srcA n;refine CG c λh' d i kp=>?_;have v:bM X aa σ H1 {s1 with heap:=h'}:=f.kept (t':=s1.toks) kp;have o:∀b,s1.heap.objs.size<=b->H1 b=b4:=λb j=>f.hok.fresh j;refine Po d ⟨s1.heap.objs.size+1,[s1.heap.objs.size+1,s1.heap.objs.size],_,Ite X.K tup a,H1,rfl,v,nJ tup a (s1.heap.objs.size+1) s1.heap.objs.size (Nat.succ_ne_self _) (λz=>?_) (λz=>?_),⟨⟨_,d⟩,i⟩,λb j=>?_,t⟩
  ·have:=c.lt
   rw[z]at this;exact absurd this (Nat.not_lt_of_le (Em _))
  ·have:=c.lt
   rw[z]at this;exact absurd this (Bu _)
  ·have e:s1.heap.objs.size<=b:=by
    rcases Ai.mp j with z|z
    ·rw[z];exact Em _
    ·rw[Ar.mp z];exact Am _
   exact f.fpOk e (o b e)
def nM(h:X.K=K){tl:TE}(b:Gl X "enumerate")(a:X.mg "enumerate"=b4)(hl:PE X l tl)(c:SE X l []:=by rfl):PI X (.Tuple es tk cz) (.Call (.Name "enumerate" p) [l] [] pos) (iEnu K tl):=by subst h;exact o8 b a hl c
noncomputable def XD:Nat->List cF->List cF
 |_,[]=>[]
 |i,d::ds=>.tup [.int i,d]::XD (i+1) ds
def RQ(f:VF):VI:=λδ=>(f δ).bind λp=>(WC p.1).map λds=>(XD 0 ds,p.2)
theorem KN:∀{ds:List cF}{n i:Nat}{d:cF},(XD n ds)[i]?=b3 d->∃x,ds[i]?=b3 x/\d=.tup [.int (n+i:Nat),x]
 |[],_,_,_,h=>by simp[XD]at h
 |x::ds,n,0,d,h=>by simp[XD]at h;exact⟨x,rfl,h.symm⟩
 |x::ds,n,i+1,d,h=>by
  have h:(XD (n+1) ds)[i]?=b3 d:=by simpa[XD]using h
  obtain⟨y,h1,h2⟩:=KN h;exact⟨y,by simpa using h1,by rw[h2,show n+1+i=n+(i+1) by lia]⟩
theorem KO:∀(ds:List cF) (n:Nat),(XD n ds).length=ds.length
 |[],_=>rfl
 |_::ds,n=>congrArg (· +1) (KO ds (n+1))
def JW{a:Ud}{tup:Bool}{ds:List cF}:Walk K (Ite K tup a) [(.ref a,if tup=b8 then .tup ds else .lst ds)] (XD 0 ds):=by
 intro N H h;have r:=h _ (Ar.mpr rfl);have b:∀xs,HS K tup H a xs->bD K N H xs ds->(∀(i:Nat) (d:cF),(XD 0 ds)[i]?=b3 d->(Ite K tup a).go i H/\∀x H',(Ite K tup a).yld i H x H'->Z6 H H'/\aD K N H' N x d)/\(Ite K tup a).stop (XD 0 ds).length H:=λxs sq r=>by
  refine⟨λi d e=>?_,xs,sq,by rw[r.length,KO]⟩;obtain⟨z,l,rfl⟩:=KN e;obtain⟨x,f,g⟩:=r.get l;refine⟨⟨xs,x,sq,f⟩,λy H' j=>?_⟩;obtain⟨p,m,k,c,rfl,rfl⟩:=j;have:=k xs sq
  rw[f]at this;cases this;refine⟨bZ c,.tup (U6.of bK) (.cons ?_ (.cons (g.same (bZ c)) .nil))⟩;rw[Iw];exact .int _
 cases tup with
 |true=>
  have r:aD K N H N (.ref a) (.tup ds):=r;cases r.onT with
  |tup sq r=>exact b _ sq r
 |false=>
  have r:aD K N H N (.ref a) (.lst ds):=r;cases r.onL with
  |lst q n r=>exact b _ (WW.of q) r
  |fzl q r=>exact b _ q.sq r
def RA(m:X.K=K)(i:Gl X "enumerate")(g:X.mg "enumerate"=b4)(h:PE X l (TV K ml pu b8 b8 f))(j:SE X l []:=by rfl):
  PI X (.Tuple es tk cz) (.Call (.Name "enumerate" p) [l] [] pos) (TIV K ml pu (RQ f)):=(nM (K:=K) m i g h j).imp λσ H R d=>by
 obtain⟨B,O,δ,ds,δ',S,q,k⟩:=d;unfold RQ at q;obtain⟨⟨x,δ1⟩,h1,q⟩:=Ac.mp q;refine⟨B,O,δ,x,δ1,S,h1,λv H1 b=>?_⟩;cases x with
 |lst c=>
  cases q;obtain⟨a,xs,rfl,sq,r⟩:=b.rep.lstE;exact⟨a,ba,rfl,⟨xs,sq⟩,k _ [(.ref a,.lst c)] H1 (b.sta.keepV λp e=>by rw[Ar.mp e];exact b.rep) b.frm b.pur (JW (tup:=ba))⟩
 |tup c=>
  cases q;obtain⟨a,xs,rfl,sq,r⟩:=b.rep.tupE;exact⟨a,b8,rfl,⟨xs,sq⟩,k _ [(.ref a,.tup c)] H1 (b.sta.keepV λp e=>by rw[Ar.mp e];exact b.rep) b.frm b.pur (JW (tup:=b8))⟩
 |_=>cases q
end
section
variable{prog:Be}{w:Ul}{A:Bx}{E:Uc->Ae->Prop}{s:Ae}
def SG.ext{tup:Bool}{h h':Um}{it a b:Ud}{i:Nat}(x:SG tup h it a i)(hs:Ju b h h')(c:it≠b):SG tup h' it a i:=x.at λo e=>hs _ _ c e
def OB.ext{tup:Bool}{h h':Um}{a b:Ud}{xs:Array Uc}(x:OB tup h a xs)(hs:Ju b h h')(c:a≠b):OB tup h' a xs:=by
 cases tup with
 |true=>obtain⟨o,e,r⟩:=x;exact⟨o,hs _ _ c e,r⟩
 |false=>obtain⟨o,e,r⟩:=x;exact⟨o,hs _ _ c e,r⟩
def QB{tup:Bool}{it a:Ud}{i:Nat}{xs:Array Uc}{x:Uc}{Q:Uc->Ae->Prop}(hi:SG tup s.heap it a i)(hs:OB tup s.heap a xs)(b:xs[i]?=b3 x)(c:∀h',SG tup h' it a (i+1)->Fa it s.heap h'->Q x {s with heap:=h'}):Ue (Uf prog w) A (Cb (.ref it)) Q E s:=by
 cases tup with
 |true=>exact QP hi hs b c
 |false=>exact wpAny_nextOf_list_item hi hs b c
def IV{tup:Bool}{it a:Ud}{i:Nat}{xs:Array Uc}{Q:Uc->Ae->Prop}(c:A.handled=b4)(hi:SG tup s.heap it a i)(hs:OB tup s.heap a xs)(b:xs[i]?=b4)(d:∀h' e,Ju it s.heap h'->(∃o,h'.get? e=b3 o/\o.cls=.type "StopIteration")->E (.ref e) {s with heap:=h'}):Ue (Uf prog w) A (Cb (.ref it)) Q E s:=by
 cases tup with
 |true=>exact OW c hi hs b d
 |false=>exact wpAny_nextOf_list_end c hi hs b d
structure ZSt(t1 t2:Bool)(h:Um)(z p q i1 i2 a b:Ud)(k:Nat)(f0:Uc):Prop where
 zip:IsZip h z p q f0
 its:IsPair h p (.ref i1) (.ref i2)
 res:∃u v,IsPair h q u v
 one:SG t1 h i1 a k
 two:SG t2 h i2 b k
def Zc{J I:Bool}{z p q h f a b:Ud}{k:Nat}{xs ys:Array Uc}{x y:Uc}{Q:Uc->Ae->Prop}(D:Mz z p q h f a b)(S:ZSt J I s.heap z p q h f a b k .none)(s1:OB J s.heap a xs)(s2:OB I s.heap b ys)(hx:xs[k]?=b3 x)(hy:ys[k]?=b3 y)(hQ:∀h',ZSt J I h' z p q h f a b (k+1) (rawInt s.heap.objs.size)->IsPair h' s.heap.objs.size x y->h'.objs.size=s.heap.objs.size+1->(∀c o,c≠z->c≠q->c≠h->c≠f->s.heap.get? c=b3 o->h'.get? c=b3 o)->Q (.ref s.heap.objs.size) {s with heap:=h'}):Ue (Uf prog w) A (Fe.«zip.__next__» ⟨[.ref z],[]⟩) (λP s'=>∃v,P=.done (.ret v)/\Q v s') E s:=by
 obtain⟨C,Z,⟨u,v,gr⟩,g1,g2⟩:=S;show Ue _ _ (field (Bo z) 2>>=_) _ _ _;refine Aa (Ed C rfl (x:=.bool ba) rfl ?_);show Ue _ _ (field (Bo z) 3>>=_) _ _ _;refine Aa (Ed C rfl (x:=.ref p) rfl (Aa (Fc Z rfl ?_)));show Ue _ _ (Dw (Bo z)>>=_) _ _ _;refine Aa ?_
 (unfold Dw)
 refine Aa (Ed C rfl (x:=.none) rfl (Ah ?_));simp only[if_true];refine Aa (Gy (Aa (Ed C rfl (x:=.ref q) rfl (Aa (Ft C (by simp) λha N j=>Aa ?_)))));have N:IsZip ha z p q .ellipsis:=N;simp only[Rr,Qn,Nk,Jt];refine Aa (Aa (Ln ?_));show Ue _ _ (Cb (Bo h)>>=_) _ _ _;refine Aa (QB (g1.ext j.extBut D.i1z) (s1.ext j.extBut D.l1z) hx λhb n1 m=>Ah ?_);have X:IsPair hb q u v:=m.extBut _ _ D.TOi1 (j.extBut _ _ D.TOz gr);refine Aa (Fc X rfl (Aa (Jf X λhc O l=>Aa (Rs (Ah ?_)))));have O:IsPair hc q x v:=O;refine Aa (Aa (Ln ?_));show Ue _ _ (Cb (Bo f)>>=_) _ _ _;refine Aa (QB (((g2.ext j.extBut D.i2z).ext m.extBut D.i12.symm).ext l.extBut D.TOi2.symm) (((s2.ext j.extBut D.l2z).ext m.extBut D.l2i1).ext l.extBut D.l2TO) hy λhd n2 G=>Ah ?_);have W:IsPair hd q x v:=G.extBut _ _ D.TOi2 O;refine Aa (Fc W rfl (Aa (Jf W λd K F=>Aa (Rs (Ah (Ah ?_))))));have K:IsPair d q x y:=K;refine Aa (Fc K rfl (Aa (wpAny_newTuple ?_)));have e:d.objs.size=s.heap.objs.size:=by rw[F.1,G.1,l.1,m.1,j.1]
 have V:IsZip d z p q .ellipsis:=F.extBut _ _ D.TOz.symm (G.extBut _ _ D.i2z.symm (l.extBut _ _ D.TOz.symm (m.extBut _ _ D.i1z.symm N)));have Y:∀c o,c≠z->c≠q->c≠h->c≠f->s.heap.get? c=b3 o->d.get? c=b3 o:=λc o i L T R g=>F.extBut _ _ L (G.extBut _ _ R (l.extBut _ _ L (m.extBut _ _ T (j.extBut _ _ i g))));have e1:SG J d h a (k+1):=((n1.ext l.extBut D.TOi1.symm).ext G.extBut D.i12).ext F.extBut D.TOi1.symm;have e2:SG I d f b (k+1):=n2.ext F.extBut D.TOi2.symm;have ie:IsPair d p (.ref h) (.ref f):=Y _ _ D.TIz D.TITO D.TIi1 D.TIi2 Z;have n:z<d.objs.size:=Al V;show Ue _ _ (Hh (Bo z) (.ref d.objs.size)>>=_) _ _ _;refine Aa ?_
 (unfold Hh)
 have zf:IsZip (d.push {cls:=.type "tuple",data:=.seq #[x,y]}) z p q .ellipsis:=Ad _ V;refine Aa (Ft zf (by simp) λhg M U=>?_);have M:IsZip hg z p q (rawInt d.objs.size):=M;refine Ft M (by simp) λB H bk=>?_;have H:IsZip B z p q (rawInt d.objs.size):=H;have r:∀c o,c≠z->d.get? c=b3 o->B.get? c=b3 o:=λc o i g=>bk.extBut _ _ i (U.extBut _ _ i (Ad _ g));have tk:IsPair B d.objs.size x y:=bk.extBut _ _ (Go n) (U.extBut _ _ (Go n) (Ba _ rfl));have t:B.objs.size=d.objs.size+1:=by rw[bk.1,U.1,Cm]
 rw[e]at H tk t;refine Ah ⟨_,rfl,?_⟩;show Q (.ref d.objs.size) _;rw[e];exact hQ B ⟨H,r _ _ D.TIz ie,⟨x,y,r _ _ D.TOz K⟩,e1.at λo g=>r _ o D.i1z g,e2.at λo g=>r _ o D.i2z g⟩ tk t λc o i L T R g=>r c o i (Y c o i L T R g)
def cR{K J:Bool}{z p q t r a b:Ud}{k:Nat}{xs ys:Array Uc}{Q:Fin->Ae->Prop}(M:A.handled=b4)(D:Mz z p q t r a b)(S:ZSt K J s.heap z p q t r a b k .none)(s1:OB K s.heap a xs)(T:OB J s.heap b ys)(f8:xs[k]?=b4∨ys[k]?=b4)(N:∀h' e,(∀c o,c≠z->c≠q->c≠t->c≠r->s.heap.get? c=b3 o->h'.get? c=b3 o)->(∃o,h'.get? e=b3 o/\o.cls=.type "StopIteration")->E (.ref e) {s with heap:=h'}):Ue (Uf prog w) A (Fe.«zip.__next__» ⟨[.ref z],[]⟩) Q E s:=by
 obtain⟨j,Y,⟨u,v,X⟩,O,Z⟩:=S;show Ue _ _ (field (Bo z) 2>>=_) _ _ _;refine Aa (Ed j rfl (x:=.bool ba) rfl ?_);show Ue _ _ (field (Bo z) 3>>=_) _ _ _;refine Aa (Ed j rfl (x:=.ref p) rfl (Aa (Fc Y rfl ?_)));show Ue _ _ (Dw (Bo z)>>=_) _ _ _;refine Aa ?_
 (unfold Dw)
 refine Aa (Ed j rfl (x:=.none) rfl (Ah ?_));simp only[if_true];refine Aa (Gy (Aa (Ed j rfl (x:=.ref q) rfl (Aa (Ft j (by simp) λW n d=>Aa ?_)))));have n:IsZip W z p q .ellipsis:=n;simp only[Rr,Qn,Nk,Jt];refine Aa (Aa (Ln ?_));show Ue _ _ (Cb (Bo t)>>=_) _ _ _;cases C:xs[k]? with
 |none=>
  refine Aa (IV M (O.ext d.extBut D.i1z) (s1.ext d.extBut D.l1z) C λF e f ⟨y,h,l⟩=>?_);have I:IsZip F z p q .ellipsis:=f _ _ D.i1z.symm n;have B:e≠z:=λw=>by subst w;rw[I]at h;cases h;simp at l
  exact Ft I (by simp) λhc _ i=>N hc e (λc o m _ G _ g=>i.extBut _ _ m (f _ _ G (d.extBut _ _ m g))) ⟨y,i.extBut _ _ B h,l⟩
 |some x=>
  have U:ys[k]?=b4:=f8.resolve_left λw=>by rw[C]at w;cases w
  refine Aa (QB (O.ext d.extBut D.i1z) (s1.ext d.extBut D.l1z) C λF n1 f=>Ah ?_);have L:IsPair F q u v:=f.extBut _ _ D.TOi1 (d.extBut _ _ D.TOz X);refine Aa (Fc L rfl (Aa (Jf L λhc rc i=>Aa (Rs (Ah (Aa (Aa (Ln ?_))))))));show Ue _ _ (Cb (Bo r)>>=_) _ _ _;refine Aa (IV M (((Z.ext d.extBut D.i2z).ext f.extBut D.i12.symm).ext i.extBut D.TOi2.symm) (((T.ext d.extBut D.l2z).ext f.extBut D.l2i1).ext i.extBut D.l2TO) U λhd e R ⟨y,h,l⟩=>?_);have H:IsZip hd z p q .ellipsis:=R _ _ D.i2z.symm (i.extBut _ _ D.TOz.symm (f.extBut _ _ D.i1z.symm n));have B:e≠z:=λw=>by subst w;rw[H]at h;cases h;simp at l
  exact Ft H (by simp) λV _ P=>N V e (λc o m c2 G c4 g=>P.extBut _ _ m (R _ _ c4 (i.extBut _ _ c2 (f.extBut _ _ G (d.extBut _ _ m g))))) ⟨y,P.extBut _ _ B h,l⟩
def CY{g f:Bool}{z p q e d a b:Ud}{k:Nat}{xs ys:Array Uc}{x y:Uc}{Q:Option Uc->Ae->Prop}(D:Mz z p q e d a b)(S:ZSt g f s.heap z p q e d a b k .none)(s1:OB g s.heap a xs)(h:OB f s.heap b ys)(j:xs[k]?=b3 x)(i:ys[k]?=b3 y)(l:∀h',ZSt g f h' z p q e d a b (k+1) (rawInt s.heap.objs.size)->IsPair h' s.heap.objs.size x y->h'.objs.size=s.heap.objs.size+1->(∀c o,c≠z->c≠q->c≠e->c≠d->s.heap.get? c=b3 o->h'.get? c=b3 o)->Q (b3 (.ref s.heap.objs.size)) {s with heap:=h'}):Ue (Uf prog w) A (pyNext (.ref z)) Q E s:=by
 have ty:s.TypeIs (.ref z) "zip":=⟨_,S.zip,rfl⟩
 (unfold pyNext)
 exact Aa (Lo (Dt (name:=Bj "__next__") ty Jx (Eg Jx ty Qo (Zc D S s1 h j i λh' r n m a4=>Ah (l h' r n m a4)) (Pp _))))
def oE{h g:Bool}{z p q f d a b:Ud}{k:Nat}{xs ys:Array Uc}{Q:Option Uc->Ae->Prop}(l:A.handled=b4)(D:Mz z p q f d a b)(S:ZSt h g s.heap z p q f d a b k .none)(s1:OB h s.heap a xs)(i:OB g s.heap b ys)(r:xs[k]?=b4∨ys[k]?=b4)(m:∀h',(∀c o,c≠z->c≠q->c≠f->c≠d->s.heap.get? c=b3 o->h'.get? c=b3 o)->Q b4 {s with heap:=h'}):Ue (Uf prog w) A (pyNext (.ref z)) Q E s:=by
 have ty:s.TypeIs (.ref z) "zip":=⟨_,S.zip,rfl⟩
 (unfold pyNext)
 refine Aa (Lo (Dt (name:=Bj "__next__") ty Jx (Eg Jx ty Qo (cR l D S s1 i r λh' e j ⟨o,n,t⟩=>?_) (Pp _))));exact Aa (wpAny_isInstance (T:= "StopIteration") (b:=b8) ⟨o,n,t⟩ isSubtype_stop (Ah (m _ j)))
end
def mx(tup:Bool):String:=if tup=b8 then "tuple_iterator" else "list_iterator"
noncomputable abbrev zO(tup:Bool)(a:Ud):Uq:={cls:=.type (mx tup),data:=.fields #[.ref a,.int 0 0]}
def Wq{prog:Be}{w:Ul}{A:Bx}{E:Uc->Ae->Prop}{s:Ae}{tup:Bool}{a:Ud}{xs:Array Uc}{Q:Uc->Ae->Prop}(h:OB tup s.heap a xs)(b:Q (.ref s.heap.objs.size) {s with heap:=s.heap.push (zO tup a)}):Ue (Uf prog w) A (Rj (.ref a)) Q E s:=by
 cases tup with
 |true=>exact Ht h b
 |false=>exact Gz h b
def OB.push{tup:Bool}{h:Um}{a:Ud}{xs:Array Uc}(x:OB tup h a xs)(o:Uq):OB tup (h.push o) a xs:=by
 cases tup with
 |true=>obtain⟨o,e,r⟩:=x;exact⟨o,Ad _ e,r⟩
 |false=>obtain⟨o,e,r⟩:=x;exact⟨o,Ad _ e,r⟩
def lM(c e:Bool)(a b:Ud)(xs ys:Array Uc):Meets (Fe.«zip.__new__» ⟨[.type "zip",.ref a,.ref b],[]⟩) (λ_ R s=>OB c s.heap a xs/\OB e s.heap b ys/\∀h1 h2 i f k,h1=s.heap.push (zO c a)->h2=h1.push (zO e b)->i=h2.push {cls:=.type "tuple",data:=.seq #[.ref s.heap.objs.size,.ref h1.objs.size]}->f=i.push {cls:=.type "tuple",data:=.seq #[.none,.none]}->k=f.push {cls:=.type "zip",data:=.fields #[.none,.bool ba,.bool ba,.ref h2.objs.size,.ref i.objs.size]}->R (.ok (.ret (.ref f.objs.size))) {s with heap:=k}):=by
 refine .of_wp λprog w A R s h=>?_;obtain⟨j,g,d,tk,os⟩:=s;obtain⟨m,l,h⟩:=h;have hs:=sub_zip;have k1:OB c (Rq ⟨j,g,d,tk,os⟩) a xs:=m;have k2:OB e (Rq ⟨j.push (zO c a),g,d,tk,os⟩) b ys:=OB.push l _;wp_walk using Wq k1,Wq k2
 exact⟨_,rfl,h _ _ _ _ _ rfl rfl rfl rfl rfl⟩
def iU{prog:Be}{w:Ul}{A:Bx}{E:Uc->Ae->Prop}{s:Ae}{f e:Bool}{a b:Ud}{xs ys:Array Uc}{Q:Uc->Ae->Prop}(K:OB f s.heap a xs)(J:OB e s.heap b ys)(h:∀h',ZSt f e h' (s.heap.objs.size+4) (s.heap.objs.size+2) (s.heap.objs.size+3) s.heap.objs.size (s.heap.objs.size+1) a b 0 .none->(∀c o,s.heap.get? c=b3 o->h'.get? c=b3 o)->Q (.ref (s.heap.objs.size+4)) {s with heap:=h'}):Ue (Uf prog w) A (call (.type "zip") [.ref a,.ref b]) Q E s:=by
 refine callType_new F.called_zip (by decide) (F.typeCall_zip_2 _ _) (F.newCall_zip_2 _ _) (λobj=>F.args_object_init_3 obj _ _) F.entry_zip_new (lM f e a b xs ys) ⟨K,J,?_⟩;rintro h1 h2 g n d u t r p H;have k:h1.objs.size=s.heap.objs.size+1:=by rw[u,Cm]
 have j:h2.objs.size=s.heap.objs.size+2:=by rw[t,Cm,k]
 have i:g.objs.size=s.heap.objs.size+3:=by rw[r,Cm,j]
 have v:n.objs.size=s.heap.objs.size+4:=by rw[p,Cm,i]
 have x:∀c o,n.get? c=b3 o->d.get? c=b3 o:=λc o q=>by rw[H];exact Ad _ q
 have y:∀c o,g.get? c=b3 o->d.get? c=b3 o:=λc o q=>x c o (by rw[p];exact Ad _ q);have z:∀c o,h2.get? c=b3 o->d.get? c=b3 o:=λc o q=>y c o (by rw[r];exact Ad _ q);have B:∀c o,h1.get? c=b3 o->d.get? c=b3 o:=λc o q=>z c o (by rw[t];exact Ad _ q);have I:∀c o,s.heap.get? c=b3 o->d.get? c=b3 o:=λc o q=>B c o (by rw[u];exact Ad _ q);have l:d.get? n.objs.size=b3 {cls:=.type "zip",data:=.fields #[.none,.bool ba,.bool ba,.ref h2.objs.size,.ref g.objs.size]}:=by rw[H];exact Ba _ rfl
 have C:d.get? g.objs.size=b3 {cls:=.type "tuple",data:=.seq #[.none,.none]}:=x _ _ (by rw[p];exact Ba _ rfl);have D:d.get? h2.objs.size=b3 {cls:=.type "tuple",data:=.seq #[.ref s.heap.objs.size,.ref h1.objs.size]}:=y _ _ (by rw[r];exact Ba _ rfl);have m:d.get? h1.objs.size=b3 (zO e b):=z _ _ (by rw[t];exact Ba _ rfl);have G:d.get? s.heap.objs.size=b3 (zO f a):=B _ _ (by rw[u];exact Ba _ rfl);show _/\_;rw[j,i,v]at l;rw[i]at C;rw[k,j]at D;rw[k]at m;rw[v];refine⟨⟨_,l,rfl⟩,h _ ⟨l,D,⟨_,_,C⟩,?_,?_⟩ I⟩
 ·cases f with
  |true=>exact⟨_,G,rfl,rfl⟩
  |false=>exact⟨_,G,rfl,rfl⟩
 ·cases e with
  |true=>exact⟨_,m,rfl,rfl⟩
  |false=>exact⟨_,m,rfl,rfl⟩
def oG(n a b:Nat)(d:a<n)(c:b<n):Mz (n+4) (n+2) (n+3) n (n+1) a b:=by
 have f:∀x y:Nat,x<y∨y<x->x≠y:=λx y h=>by lia
 exact⟨f _ _ (by lia),f _ _ (by lia),f _ _ (by lia),f _ _ (by lia),f _ _ (by lia),f _ _ (by lia),f _ _ (by lia),f _ _ (by lia),f _ _ (by lia),f _ _ (by lia),f _ _ (by lia),f _ _ (by lia),f _ _ (by lia),f _ _ (by lia),f _ _ (by lia),f _ _ (by lia),f _ _ (by lia),f _ _ (by lia)⟩
def Itz(K:Aj)(d c:Bool)(a b:Ud):It:=
  ⟨λi H=>∃xs ys x y,HS K d H a xs/\HS K c H b ys/\xs[i]?=b3 x/\ys[i]?=b3 y,λi H v H'=>∃p x y,(∀xs,HS K d H a xs->xs[i]?=b3 x)/\(∀ys,HS K c H b ys->ys[i]?=b3 y)/\H p=b4/\H'=upd H p (.tup [x,y])/\v=.ref p,λi H=>∃xs ys,HS K d H a xs/\HS K c H b ys/\(xs.length<=i∨ys.length<=i)⟩
def og{P:Be}{w:Ul}{K:Aj}{es:List Uj}{k:Nat}{pos:Pos}(F C:Bool)(z p q l j a b:Ud)(D:Mz z p q l j a b):
  D8 P w K (.Tuple es k pos) (Itz K F C a b) [z,p,q,l,j] z (λi h=>ZSt F C h z p q l j a b i .none) where
 mem:=by simp
 obj:=λi h st c hc=>by
  simp only[Ai,Ap,or_false]at hc;rcases hc with rfl|rfl|rfl|rfl|rfl
  ·exact⟨_,st.zip,λv e=>by cases e⟩
  ·exact⟨_,st.its,λv e=>by cases e⟩
  ·obtain⟨u,v,g⟩:=st.res
   exact⟨_,g,λv e=>by cases e⟩
  ·exact st.one.obj
  ·exact st.two.obj
 keep:=λi h h' st t=>by obtain⟨u,v,g⟩:=st.res;exact⟨t z (by simp) _ st.zip,t p (by simp) _ st.its,⟨u,v,t q (by simp) _ g⟩,st.one.at λo e=>t l (by simp) o e,st.two.at λo e=>t j (by simp) o e⟩
 item:=by
  intro X O hw Q hc i aa s σ H E I A st M;subst O hw Q;obtain⟨xs,ys,x,y,n,m,V,U⟩:=M;obtain⟨T,J,S,_⟩:=I.srcA n;obtain⟨vs,G,R,_⟩:=I.srcA m;obtain⟨u,hu,ru⟩:=J.get V;obtain⟨v,hv,rv⟩:=G.get U;refine CY D st S R (by simpa using hu) (by simpa using hv) λh1 f hp hsz L=>⟨_,rfl,?_⟩;refine wpAny_letOwnedTupleGo_zip (s:={s with heap:=h1}) f.zip λh2 W sb=>?_;have sb:Fa z h1 h2:=sb;have lt:∀c∈[z,p,q,l,j],c<s.heap.objs.size:=λc hc=>by
   simp only[Ai,Ap,or_false]at hc;rcases hc with rfl|rfl|rfl|rfl|rfl
   ·exact Al st.zip
   ·exact Al st.its
   ·obtain⟨u,v,g⟩:=st.res
    exact Al g
   ·obtain⟨o,e,_⟩:=st.one.obj
    exact Al e
   ·obtain⟨o,e,_⟩:=st.two.obj
    exact Al e
  have r:∀c o,c≠z->h1.get? c=b3 o->h2.get? c=b3 o:=λc o N e=>(sb.2 c N).trans e;have d:ZSt F C h2 z p q l j a b (i+1) .none:=by obtain⟨Z,Y,g⟩:=f.res;exact⟨W,r _ _ D.TIz f.its,⟨Z,Y,r _ _ D.TOz g⟩,f.one.at λo e=>r _ o D.i1z e,f.two.at λo e=>r _ o D.i2z e⟩
  have dh:h2.get? s.heap.objs.size=b3 {cls:=.type "tuple",data:=.seq #[u,v]}:=r _ _ (Go (lt z (by simp))) hp;have bq:H s.heap.objs.size=b4:=I.hok.fresh (Am _);have I0:bM X aa σ (upd H s.heap.objs.size (.tup [x,y])) {s with heap:=s.heap.push {cls:=.type "tuple",data:=.seq #[u,v]},toks:=s.toks}:=
   I.laid (λc o e=>Ad _ e) (Am _) ⟨by show 2<=sizeLine;decide,[u,v],.cons ru (.cons rv .nil),Js _ _⟩
  have I1:bM X aa σ (upd H s.heap.objs.size (.tup [x,y])) {s with heap:=h2,toks:=s.toks}:=by
   refine bM.turnedL (s:={s with heap:=s.heap.push {cls:=.type "tuple",data:=.seq #[u,v]},toks:=s.toks}) (h':=h2) (t':=s.toks) (fp:=[z,p,q,l,j]) I0 (λc o hc e=>?_) (λc hc=>?_) λc hc=>⟨by rw[bA (Bf (lt c hc))];exact(A c hc).1,(A c hc).2⟩
   ·by_cases B:c=s.heap.objs.size
    ·subst B
     have e:(s.heap.push {cls:=.type "tuple",data:=.seq #[u,v]}).get? s.heap.objs.size=b3 o:=e;rw[Ba _ rfl]at e;cases e;exact dh
    ·have e':=(Iq _ _ _ B).symm.trans e
     exact r c o (λw=>hc (by simp[w])) (L c o (λw=>hc (by simp[w])) (λw=>hc (by simp[w])) (λw=>hc (by simp[w])) (λw=>hc (by simp[w])) e')
   ·simp only[Ai,Ap,or_false]at hc
    rcases hc with rfl|rfl|rfl|rfl|rfl
    ·exact⟨_,d.zip⟩
    ·exact⟨_,d.its⟩
    ·obtain⟨u,v,g⟩:=d.res
     exact⟨_,g⟩
    ·obtain⟨o,e,_⟩:=d.one.obj
     exact⟨o,e⟩
    ·obtain⟨o,e,_⟩:=d.two.obj
     exact⟨o,e⟩
  exact⟨.ref s.heap.objs.size,_,I1,rfl,⟨_,x,y,λzs hz=>by rw[I.sq_inj hz n];exact V,λzs hz=>by rw[I.sq_inj hz m];exact U,bq,rfl,rfl⟩,d,λc hc=>by rw[bA (Bf (lt c hc))];exact(A c hc).1⟩
 done:=by
  intro X O hw Q hc i aa s σ H E I A st M;subst O hw Q;obtain⟨xs,ys,n,m,f8⟩:=M;obtain⟨T,J,S,_⟩:=I.srcA n;obtain⟨vs,G,R,_⟩:=I.srcA m;have l1:=J.length;have l2:=G.length;have he:T.toArray[i]?=b4∨vs.toArray[i]?=b4:=by
   rcases f8 with z|z
   ·exact .inl (by simp;lia)
   ·exact .inr (by simp;lia)
  refine oE (I.ok.hd hc) D st S R he λh1 L=>⟨rfl,?_⟩;have fq:∀c∈[z,q,l,j],c∈[z,p,q,l,j]:=λc hc=>by simp only[Ai,Ap,or_false]at hc⊢;rcases hc with w|w|w|w<;>simp[w]
  have I':=bM.turnedL' (s:=s) (h':=h1) (t':=s.toks) (fp:=[z,q,l,j]) I (λc o hc e=>L c o (λw=>hc (by simp[w])) (λw=>hc (by simp[w])) (λw=>hc (by simp[w])) (λw=>hc (by simp[w])) e) λc hc=>A c (fq c hc);exact I'
 self:=λ_ i _ _ _ st h=>wpAny_pyIter_zip st.zip h
section
variable{X:Cx}{K:Aj}{ml:List Nat}{l m:Uj}{pa ta ia pb tb ib:Bool}{f g:VF}{p pos cz:Pos}{es:List Uj}{tk:Nat}{δ:Ev}
def iZp(K:Aj)(tl e:TE):TI:=λσ H R=>tl σ H λx H1=>e σ H1 λy H2=>∃a b d c,x=.ref a/\y=.ref b/\(∃xs,HS K d H2 a xs)/\(∃ys,HS K c H2 b ys)/\R (Itz K d c a b) H2
def eM{tl q:TE}(G:Gl X "zip")(F:X.mg "zip"=b4)(hl:PE X l tl)(E:PE X m q)(r:SE X l [m]:=by rfl)(o:SE X m []:=by rfl)(n:(Ei pos (Uh [m] X.env)).any (·.1)=ba:=by rfl):PI X (.Tuple es tk cz) (.Call (.Name "zip" p) [l,m] [] pos) (iZp X.K tl q):=by
 intro aa s σ H R I h;refine Et (P9 I G F ls ?_ (by decide) (by decide));refine Ec (YC (aW hl (aW E ZB o) r pos aa s σ H (λvs H1=>match vs with
  |[x,y]=>∃a b e d,x=.ref a/\y=.ref b/\(∃xs,HS X.K e H1 a xs)/\(∃ys,HS X.K d H1 b ys)/\R (Itz X.K e d a b) H1
  |_=>False) I h) λA s1 ⟨vs,H1,g,i,q1⟩=>?_) r n
 match vs,i,q1 with
 |[x,y],i,q1=>
  obtain⟨a,b,e,d,rfl,rfl,⟨xs,k⟩,⟨ys,j⟩,M⟩:=q1;obtain⟨u,v,rfl,C,B⟩:=FX i;cases C;cases B;obtain⟨A,P,z,_⟩:=g.srcA k;obtain⟨vs,O,t,_⟩:=g.srcA j;refine iU z t λh' st kp=>?_;have N:bM X aa σ H1 {s1 with heap:=h'}:=g.kept (t':=s1.toks) kp;have L:=z.lt;have J:=t.lt;have D:Mz (s1.heap.objs.size+4) (s1.heap.objs.size+2) (s1.heap.objs.size+3) s1.heap.objs.size (s1.heap.objs.size+1) a b:=by exact oG _ a b L J
  refine wpAny_pyIter_zip st.zip ⟨s1.heap.objs.size+4,[s1.heap.objs.size+4,s1.heap.objs.size+2,s1.heap.objs.size+3,s1.heap.objs.size,s1.heap.objs.size+1],_,Itz X.K e d a b,H1,rfl,N,og e d _ _ _ _ _ a b D,st,λc hc=>?_,M⟩;have f:s1.heap.objs.size<=c:=by simp only[Ai,Ap,or_false]at hc;rcases hc with w|w|w|w|w<;>rw[w]<;>first|exact Nat.le_add_right _ _|exact Am _
  exact g.fpOk f (g.hok.fresh f)
def lL(h:X.K=K){tl c:TE}(f:Gl X "zip")(e:X.mg "zip"=b4)(hl:PE X l tl)(d:PE X m c)(g:SE X l [m]:=by rfl)(b:SE X m []:=by rfl)(a:(Ei pos (Uh [m] X.env)).any (·.1)=ba:=by rfl):PI X (.Tuple es tk cz) (.Call (.Name "zip" p) [l,m] [] pos) (iZp K tl c):=by subst h;exact eM f e hl d g b a
noncomputable def SD:List cF->List cF->List cF
 |d::ds,e::es=>.tup [d,e]::SD ds es
 |_,_=>[]
def iZip(f g:VF):VI:=λδ=>(f δ).bind λp=>(g p.2).bind λq=>(WC p.1).bind λds=>(WC q.1).map λes=>(SD ds es,q.2)
theorem F1:∀{ds es:List cF}{i:Nat}{d:cF},(SD ds es)[i]?=b3 d->∃x y,ds[i]?=b3 x/\es[i]?=b3 y/\d=.tup [x,y]
 |[],_,_,_,h=>by simp[SD]at h
 |_::_,[],_,_,h=>by simp[SD]at h
 |x::ds,y::es,0,d,h=>by simp[SD]at h;exact⟨x,y,rfl,rfl,h.symm⟩
 |x::ds,y::es,i+1,d,h=>by obtain⟨b,a,h1,h2,c⟩:=F1 (ds:=ds) (es:=es) (i:=i) (d:=d) (by simpa[SD]using h);exact⟨b,a,by simpa using h1,by simpa using h2,c⟩
theorem F2:∀{ds es:List cF},ds.length<=(SD ds es).length∨es.length<=(SD ds es).length
 |[],_=>.inl (Dm _)
 |_::_,[]=>.inr (Dm _)
 |x::ds,y::es=>by
  rcases F2 (ds:=ds) (es:=es)with h|h
  ·exact .inl (Qp h)
  ·exact .inr (Qp h)
def jz:cF->Bool
 |.tup _=>b8
 |_=>ba
def aD.sqA{N M:Ud->Prop}{H:Hp}{v:V}{d:cF}{ds:List cF}(h:aD K N H M v d)(e:WC d=b3 ds):∃a tup xs,v=.ref a/\HS K tup H a xs/\bD K N H xs ds/\tup=jz d:=by
  cases d<;>first
    | (cases e
       obtain⟨a,xs,h1,h2,b⟩:=h.tupE;exact⟨a,b8,xs,h1,h2,b,rfl⟩)
    | (cases e
       obtain⟨a,xs,h1,h2,b⟩:=h.lstE;exact⟨a,ba,xs,h1,h2,b,rfl⟩)
    |cases e
def Wz(hK:X.K=K)(hg:Gl X "zip")(hm:X.mg "zip"=b4)(h:PE X l (TV K ml pa b8 b8 f))(h':PE X m (TV K ml pb b8 b8 g))(he:SE X l [m]:=by rfl)(E:SE X m []:=by rfl)
  (C:(Ei pos (Uh [m] X.env)).any (·.1)=ba:=by rfl):PI X (.Tuple es tk cz) (.Call (.Name "zip" p) [l,m] [] pos) (TIV K ml (pa&&pb) (iZip f g)):=(lL (K:=K) hK hg hm h h' he E C).imp λσ H R A=>by
 obtain⟨B,O,δ,ds,δ2,S,q,k⟩:=A;unfold iZip at q;obtain⟨⟨x,δ1⟩,h1,q⟩:=Ac.mp q;cases h2:g δ1 with
 |none=>simp[h2]at q
 |some p2=>
  obtain⟨y,r⟩:=p2;simp only[An,h2]at q;obtain⟨xs,Q,q⟩:=Ac.mp q;have q:(WC y).map (λes=>(SD xs es,r))=b3 (ds,δ2):=q;obtain⟨ys,P,q⟩:=As.mp q;cases q;refine⟨B,O,δ,x,δ1,S,h1,λt H1 o=>⟨B,O,δ1,y,_,o.sta,h2,λs H2 R2=>?_⟩⟩;have M:=o.rep.fr R2.frm (λa z=>.inr z) λa z=>.inr z;obtain⟨a,L,us,W,q1,w1,I⟩:=M.sqA Q;obtain⟨b,J,vs,V,q2,w2,G⟩:=R2.rep.sqA P;refine⟨a,b,L,J,W,V,⟨us,q1⟩,⟨vs,q2⟩,k _ [(t,x),(s,y)] H2 (R2.sta.keepV λz hz=>?_) (o.frm.trans R2.frm) (λz=>?_) ?_⟩
  ·simp only[Ai,Ap,or_false]at hz
   rcases hz with rfl|rfl
   ·exact M
   ·exact R2.rep
  ·obtain⟨z1,z2⟩:=(Af _ _).mp z
   exact(o.pur z1).trans (R2.pur z2)
  ·intro N H h
   obtain⟨a',v,j,f1,f2,f3,f4⟩:=(h (t,x) (by simp)).sqA Q;obtain⟨b',u,c,n,F,T,g4⟩:=(h (s,y) (by simp)).sqA P;have f1:t=.ref a':=f1;have n:s=.ref b':=n;rw[W]at f1;rw[V]at n;cases f1;cases n;have:v=L:=f4.trans I.symm
   subst this;have:u=J:=g4.trans G.symm
   subst this;refine⟨λi d e=>?_,j,c,f2,F,?_⟩
   ·obtain⟨dx,dy,hx,hy,rfl⟩:=F1 e
    obtain⟨ux,ex,rx⟩:=f3.get hx;obtain⟨uy,U,ry⟩:=T.get hy;refine⟨⟨j,c,ux,uy,f2,F,ex,U⟩,λz H' hz=>?_⟩;obtain⟨pp,x',y',c1,c2,D,rfl,rfl⟩:=hz;have Z:=c1 j f2;have Y:=c2 c F;rw[ex]at Z;rw[U]at Y;cases Z;cases Y;exact⟨bZ D,.tup (U6.of bK) (.cons (rx.same (bZ D)) (.cons (ry.same (bZ D)) .nil))⟩
   ·rcases F2 (ds:=xs) (es:=ys)with w|w
    ·exact .inl (by rw[f3.length];exact w)
    ·exact .inr (by rw[T.length];exact w)
end
end L2
namespace L2
open PySem PySem.Spec PyProof.Rows PySem.W
section
variable{prog:Be}{w:Ul}{A:Bx}{E:Uc->Ae->Prop}{s:Ae}
def DQ{t:Ud}{items:Array Uc}{Q:List Uc->Ae->Prop}(n:A.handled=b4)(f:IsTup s.heap t items)(h1:1<=items.size)(hz:items.size<=16777216)(p:∀(x:Uc) (c:Um) (tk:Nat),items[0]?=b3 x->(∀b o,s.heap.get? b=b3 o->c.get? b=b3 o)->Q [x,.ref c.objs.size] {s with heap:=c.push {cls:=.type "list",data:=.seq (items.toList.drop 1).toArray},toks:=tk}):Ue (Uf prog w) A (Jr (.ref t) 2 (b3 1)) Q E s:=by
 have a:t≠s.heap.objs.size:=by obtain⟨o,e,_⟩:=f;exact Bf (Al e)
 (unfold Jr)
 refine Aa ?_
 (unfold notIterableAtAll)
 refine Aa (wpAny_specialOf f.typeIs slot_tuple_iter.lookup (Ah ?_));simp only[Eu,if_false];refine Aa (Bw (iter_tuple f (Aa (Bw (draw_tuple a 1 0 _ _ ⟨_,Ba _ rfl,rfl,rfl⟩ (f.push _) (by lia) λg ia h=>?_)))));have ta:IsTup g t items:=(f.push _).extBut h.extBut a;have ia:g.IsTupleIter s.heap.objs.size t 1:=ia;obtain⟨F,v,_⟩:=id ia;obtain⟨D,q,_⟩:=id ta;have hsz:g.objs.size=s.heap.objs.size+1:=by rw[h.1,Cm]
 have m:((items.toList.drop 0).take 1).length=1:=by simp;lia
 rw[if_neg (show¬((items.toList.drop 0).take 1).length<1 by rw[m];exact Bu _)];refine Aa (Bw (kun_collect (s:={s with heap:=g}) (T:= "tuple_iterator") (.inr (.inr (.inr rfl))) (Walks.tuple (A:=A.in1) n s.heap.objs.size t a items) (λj u st=>st.1.typeIs) (k:=1) h1 ⟨ia,ta⟩ (Al v) (Al q) (λc tk l=>?_) (by rw[Cc];exact hz)));have G:(items.toList.drop 1).length=items.size-1:=by simp
 show Ue _ _ (if(items.toList.drop 1).length<2-1-1 then _ else _) _ _ _;rw[if_neg (Ms _)];show Ue _ _ (Sx ((items.toList.drop 1).take ((items.toList.drop 1).length-(2-1-1)))>>=λd=>pure ((items.toList.drop 0).take 1++[d]++(items.toList.drop 1).drop ((items.toList.drop 1).length-(2-1-1)))) _ _ _;have C:(items.toList.drop 1).take ((items.toList.drop 1).length-(2-1-1))=items.toList.drop 1:=Cf (Am _);have B:(items.toList.drop 1).drop ((items.toList.drop 1).length-(2-1-1))=[]:=Hj;rw[C,B];refine Aa (Dh (Ah ?_) (by show _<=sizeLine;rw[Cc];simp;lia));obtain⟨x,i⟩:∃x,items[0]?=b3 x:=⟨items[0],by simp[show 0<items.size by lia]⟩;have z:(items.toList.drop 0).take 1=[x]:=by
  rw[Nj];have:items.toList[0]?=b3 x:=by simpa using i
  cases hl:items.toList with
  |nil=>rw[hl]at this;cases this
  |cons y r=>rw[hl]at this;cases this;rfl
 rw[z];have keep:∀b o,s.heap.get? b=b3 o->c.get? b=b3 o:=λb o e=>l b o (Bf (Al e)) (h.extBut b o (Bf (Al e)) (Ad _ e));exact p x c tk i keep
end
section
variable{X:Cx}{K:Aj}{ml:List Nat}{e a b c:Uj}{es:List Uj}{pa ta ia pb tb ib pc tc ic pu bt bi ps bs:Bool}{fa fb fc f:VF}{B B':Bs}{O:Nat->Option Ud}{H H0 H1 H':Hp}{σ:St}{δ δ':Ev}{v:V}{d:cF}{p:Ud}{pos:Pos}
def k4(K:Aj)(i j:Nat):TG:=λv σ H Q=>∃a x xs,v=.ref a/\U6 K H a (x::xs)/\∀p,H p=b4->Q ((σ.set i (b3 x)).set j (b3 (.ref p))) (upd H p (.lst xs))
def jD{i j:Nat}{x y:Ug}{d c ps p:Pos}{k:Nat}(hc:X.calm=b8)(n:X.N.Nodup)(hi:X.N[i]?=b3 x)(E:X.N[j]?=b3 y)(A:B9 X.env.scope x)(t:B9 X.env.scope y)(fx:X.fn x=b8∨X.env.scope.names.lookup x=b3 .local)(F:X.fn y=b8∨X.env.scope.names.lookup y=b3 .local)(hl:(Uk [.Name x d,.Starred (.Name y c) ps] X.env).map (·.2)=[Fk (.Name x d) X.env,Fk (.Name y c) X.env])(D:(Uk [.Name x d,.Starred (.Name y c) ps] X.env).length=2)(g:(Uk [.Name x d,.Starred (.Name y c) ps] X.env).findIdx? (·.1)=b3 1):PG X (.Tuple [.Name x d,.Starred (.Name y c) ps] k p) (k4 X.K i j):=by
 intro aa s σ H v u Q I r hw;obtain⟨a,z,zs,G,C,q⟩:=hw;subst G;cases r;obtain⟨its,m,B,hz⟩:=I.tuple C;rw[assign_Tuple];refine Aa (Dn ?_)
 (unfold unpack)
 rw[D,g];have l:=m.length;rw[Br]at l;have e:its.length<=16777216:=by rw[<-Cc,<-l];exact hz
 refine Aa (Bw (DQ (I.ok.hd hc) B (by rw[Ao];lia) (by rw[Ao];exact e) λu h tk f kp=>?_));rw[hl];cases m with
 | @cons _ w _ O rz b=>
  have f:b3 w=b3 u:=by simpa using f
  cases f;have o:bM X aa σ H {s with heap:=h,toks:=tk}:=I.kept kp;have M:=bM.lnew (s:={s with heap:=h,toks:=tk}) (t':=tk) o b (by rw[Cc];simp only[Br]at e l;have:=b.length;lia);refine Ea (Gx (XU M n hi A rz (λR L=>?_) fx));refine Ea (Gx (XU L n E t (v:=.ref h.objs.size) rfl (λP J=>Ij ⟨_,_,J,q _ (o.hok.fresh (Am _))⟩) F))
noncomputable def FP(i j:Nat)(f:VF):VS:=λδ=>(f δ).bind λp=>match p.1 with
 |.tup (d::ds)=>b3 (.nx ((p.2.set i (.va d)).set j (.va (.lst ds))))
 |_=>b4
def Zm{i j:Nat}{x y:Ug}{g b sp h:Pos}{k:Nat}(P:X.K=K)(hc:X.calm=b8)(M:X.N.Nodup)(hi:X.N[i]?=b3 x)(I:X.N[j]?=b3 y)(J:i≠j)(F:B9 X.env.scope x)(E:B9 X.env.scope y)(L:PE X e (TV K ml pu b8 b8 f))(t:i∉ml:=by decide)(s:j∉ml:=by decide)(fx:LO X x:=by first|exact .inl rfl|exact .inr rfl|assumption)(Q:LO X y:=by first|exact .inl rfl|exact .inr rfl|assumption)(hl:(Uk [.Name x g,.Starred (.Name y b) sp] X.env).map (·.2)=[Fk (.Name x g) X.env,Fk (.Name y b) X.env]:=by rfl)(G:(Uk [.Name x g,.Starred (.Name y b) sp] X.env).length=2:=by rfl)(m:(Uk [.Name x g,.Starred (.Name y b) sp] X.env).findIdx? (·.1)=b3 1:=by rfl)(hs:Fo [.Tuple [.Name x g,.Starred (.Name y b) sp] k h] e pos.line X.env=pure ba:=by rfl)(hw:Fp [.Tuple [.Name x g,.Starred (.Name y b) sp] k h] e X.env=pure b4:=by rfl)(h1:(Uk [.Tuple [.Name x g,.Starred (.Name y b) sp] k h] X.env).map (·.2)=[Fk (.Tuple [.Name x g,.Starred (.Name y b) sp] k h) X.env]:=by rfl):PS X (.Assign [.Tuple [.Name x g,.Starred (.Name y b) sp] k h] e pos) (U7 K ml (FP i j f)):=by
 subst P;refine(HA L (jD hc M hi I F E fx Q hl G m) hs hw h1).imp λD σ H n=>?_;obtain⟨B,O,δ,o,S,q,k⟩:=n;unfold FP at q;obtain⟨⟨z,δ1⟩,h1,q⟩:=Ac.mp q;refine⟨B,O,δ,z,δ1,S,h1,λv H1 R=>?_⟩;cases z with
 |tup ds=>
  cases ds with
  |nil=>cases q
  |cons d ds=>
   cases q;obtain⟨a,xs,rfl,sq,r⟩:=R.rep.tupE;cases r with
   | @cons w vs _ _ C A=>
    refine⟨a,w,vs,rfl,sq,λp l=>?_⟩;have T:=(R.sta.same (bZ (o:=.lst vs) l)).setVa t (C.same (bZ (o:=.lst vs) l));have u:∀c,Nn B (λj=>if j=i then b4 else O j) c->Nn B O c:=M4 (o:=b4);refine k _ _ _ (T.setVa s (.lst bK (λz=>R.sta.new l (u _ z)) ((A.same (bZ l)).mono u)))
 |_=>cases q
end
end L2
namespace L2
open PySem PySem.Spec PyProof.Rows
section
variable{X:Cx}{K:Aj}{ml:List Nat}{e a b c:Uj}{es:List Uj}{pa ta ia pb tb ib pc tc ic pu bt bi ps bs:Bool}{fa fb fc f:VF}{B B':Bs}{O:Nat->Option Ud}{H H0 H1 H':Hp}{σ:St}{δ δ':Ev}{v:V}{d:cF}{p:Ud}{pos:Pos}
def rInD(K:Aj)(neg:Bool):R2:=λx y H Q=>∃d e ds,Dp K H x d/\Dp K H y e/\(e=.list ds∨e=.tuple ds)/\Er d=b8/\Er e=b8/\Q (.bl (if neg then !ds.any (λz=>Jl z d)else ds.any λz=>Jl z d)) H
def PD{d:Ni}(h:Er d=b8):d.canLay0=b8/\d.depth<=64:=by unfold Er at h;simp only[Af,decide_eq_true_eq]at h;exact h
def Yr(neg:Bool)(r:X.A.units+64<cLine):V5 X (Dd (if neg then .NotIn else .In)) (rInD X.K neg):=by
 intro aa s σ H x y v u Q I n m h;obtain⟨d,e,ds,hd,o,f,l,j,q⟩:=h;obtain⟨as,h1⟩:=I.reads hd n;obtain⟨bs,h2⟩:=I.reads o m;obtain⟨c,t⟩:=PD l;obtain⟨i,g⟩:=PD j;have a:∀k,(k=if neg then !ds.any (λz=>Jl z d)else ds.any λz=>Jl z d)->EP X aa σ Q (.bool k) s:=λk f=>by subst f;exact⟨.bl _,H,I,rfl,q⟩
 rcases f with rfl|rfl
 ·have hc : Ir ds = b8 := by simpa [Gk]using i
  have p:Fh ds<=63:=by simp only[Iz]at g;lia
  have b:X.A.units+1+min (Fh ds) d.depth<cLine:=by have:=Rt (Fh ds) d.depth;lia
  cases neg with
  |false=>exact SeqAt.in_list_reads h2 h1 hc c b (a _ rfl)
  |true=>exact SeqAt.notIn_list_reads h2 h1 hc c b (a _ rfl)
 ·have hc : Ir ds = b8 := by simpa [Gk]using i
  have p:Fh ds<=63:=by simp only[Iz]at g;lia
  have b:X.A.units+1+min (Fh ds) d.depth<cLine:=by have:=Rt (Fh ds) d.depth;lia
  cases neg with
  |false=>exact SeqAt.in_tuple_reads h2 h1 hc c b (a _ rfl)
  |true=>exact SeqAt.notIn_tuple_reads h2 h1 hc c b (a _ rfl)
def TQ(a:X.A.units+64<cLine)(h:X.K=K:=by rfl):V5 X (Dd .In) (rInD K ba):=by subst h;exact Yr ba a
def OT(a:X.A.units+64<cLine)(h:X.K=K:=by rfl):V5 X (Dd .NotIn) (rInD K b8):=by subst h;exact Yr b8 a
def IM(d:cF)(ds:List cF):Bool:=(pds ds).any λz=>Jl z d.pd
def ZF(neg:Bool)(d e:cF):Option cF:=(WC e).bind λds=>if(JB d&&JB e)=b8 then b3 (.bl (if neg then !IM d ds else IM d ds))else b4
def YA{neg:Bool}:N4 K (rInD K neg) (ZF neg):=by
 intro H N N' M M' x y d e c Q f b h k;unfold ZF at h;obtain⟨ds,hs,h⟩:=Ac.mp h;have h:(if(JB d&&JB e)=b8 then b3 (cF.bl (if neg then !IM d ds else IM d ds))else b4)=b3 c:=h;split at h
 ·rename_i a
  cases h;simp only[JB,Af]at a;refine⟨d.pd,e.pd,pds ds,f.dp a.1.1,b.dp a.2.1,?_,a.1.2,a.2.2,k _ λ_ _ _=>.bl _⟩;cases e<;>first
   |(cases hs;exact .inr rfl)
   |(cases hs;exact .inl rfl)
   |cases hs
 ·cases h
def l5(K:Aj)(td ty:TE):TE:=λσ H Q=>td σ H λx H1=>∃a,x=.ref a/\((IsD H1 a/\ty σ H1 λy H2=>∃o,M9 H2 a y o/\Q (o.getD .non) H2)∨∃D,KTab K a D/\ty σ H1 λy H2=>∃k,y=.str k/\Q ((Fw k D).getD .non) H2)
def fY{aq ai:Pos}{td ty:TE}(F:X.A.units+1<cLine)(G:PE X a td)(p:PE X e ty)(m:M1 X a "get" aq e ai):PE X (.Call (.Attribute a "get" aq) [e] [] ai) (l5 X.K td ty):=by
 intro aa s σ H Q I h;refine Pk m.base m.few m.line Lm Dy Mo (YC (G aa s σ H _ I h) λu s1 ⟨x,H1,d,z,l,ex,q1⟩=>?_);subst ex;obtain rfl:u=Bo l:=z;rcases q1 with⟨hd,q1⟩|⟨D,T,q1⟩
 ·obtain⟨w,v,_⟩:=Wx d hd
  refine⟨w,v,?_⟩;rw[m.trees];refine Fi rfl (Ef (Es (YC (p aa s1 σ H1 _ d q1) λC f ⟨y,H2,c,i,S,g,q2⟩=>Ha ?_)));exact jE F c g i λP R O j=>⟨_,H2,O,j,q2⟩
 ·obtain⟨B,o,U,V,n,hex,W,_⟩:=id T
  refine⟨⟨o,d.kIn _ _ n,hex.1⟩,λb q=>?_,?_⟩
  ·cases q
   exact⟨o,d.kIn _ _ n,hex.2.1⟩
  rw[m.trees];refine Fi rfl (Ef (Es (YC (p aa s1 σ H1 _ d q1) λC f ⟨y,H2,c,i,k,N,q2⟩=>Ha ?_)));subst N;obtain⟨t,rfl⟩:=i;have M:f.TypeIs (.ref l) "dict":=⟨o,c.kIn _ _ n,hex.1⟩;refine Eg Dy M Fj ?_ (Ib _ _);show Ue _ _ (dictGet l (.str k t)>>=_) _ _ f;refine Aa (EW c.kIn T (λd' r L E=>Ah ⟨r,rfl,?_⟩) λJ=>?_)
  ·rw[L]at q2
   exact⟨d',H2,c.tok _,E,q2⟩
  ·rw[J]at q2
   show Ue _ _ (Nt l (.str k t)>>=_) _ _ _;unfold Nt;rw[if_neg (by rw[B];exact Dq)];exact Aa (Ah (Ah ⟨.none,rfl,.non,H2,c.tok _,rfl,q2⟩))
def Xu:cF->cF->Option cF
 |.dct ks ds,.str x=>b3 ((Z2 ks ds (.inr x)).getD .non)
 |_,_=>b4
def nH{aq ai:Pos}(N:X.K=K)(I:X.A.units+1<cLine)(M:PE X a (TV K ml pa ta ia fa))(L:PE X b (TV K ml pb tb ib fb))(m:M1 X a "get" aq b ai)(hs:(pb || (ta&&ia))=b8:=by rfl):PE X (.Call (.Attribute a "get" aq) [b] [] ai) (TV K ml (pa&&pb) ia ia (f2 Xu fa fb)):=by
 subst N;refine(fY I M L m).imp λσ H Q t=>?_;obtain⟨B,O,δ,d,δ2,S,q,k⟩:=t;obtain⟨x,δ1,y,h1,h2,u⟩:=PX q;refine⟨B,O,δ,x,δ1,S,h1,λP H1 i=>?_⟩;have h:∀j H2 (R2:Res X.K ml B O H1 σ pb tb ib H2 δ2 j y) o,aD X.K (av B O ia) H2 (av B O ia) o d->Q o H2:=λj H2 R2 o J=>k o H2 ⟨R2.sta,i.frm.trans R2.frm,λz=>by obtain⟨g,f⟩:=(Af _ _).mp z;exact(i.pur g).trans (R2.pur f),J.mono (λ_ z=>z) Vt⟩
 cases x with
 |dct ks ds=>
  cases y with
  |str z=>
   cases u;have G:=i.rep;cases G.onD with
   | @dct l kvs s n r E=>
    subst E;refine⟨l,rfl,.inl ⟨.inl ⟨_,.inl s⟩,B,O,δ1,_,δ2,i.sta,h2,λj H2 R2=>?_⟩⟩;have p:=R2.rep;cases p.onS;have F:H2 l=b3 (.dK kvs)/\bD X.K (av B O ia) H2 (kvs.map Dg) ds:=by
     cases pb with
     |true=>exact⟨R2.pur rfl _ _ s,r.same (R2.pur rfl)⟩
     |false=>
      have hs:(ta&&ia)=b8:=by simpa using hs
      obtain⟨g,f⟩:=(Af _ _).mp hs;subst g f;exact⟨R2.frm _ _ s λw=>absurd (.inr w) n,r.fr R2.frm λa z=>.inr z⟩
    refine⟨_,M9.k (k:=.inr z) F.1,h _ _ R2 _ ?_⟩;rcases OV (k:=.inr z) F.2 with⟨v,d',e,c,C⟩|⟨e,c⟩
    ·rw[e,c];exact C
    ·rw[e,c];exact .non
   | @ktb l D T r E=>
    subst E;refine⟨l,rfl,.inr ⟨D,T,B,O,δ1,_,δ2,i.sta,h2,λj H2 R2=>?_⟩⟩;have p:=R2.rep;cases p.onS;refine⟨z,rfl,h _ _ R2 _ ?_⟩;have r':bD X.K (av B O ia) H2 (D.map Dg) ds:=by
     cases pb with
     |true=>exact r.same (R2.pur rfl)
     |false=>
      have hs:(ta&&ia)=b8:=by simpa using hs
      obtain⟨g,f⟩:=(Af _ _).mp hs;subst g f;exact r.fr R2.frm λa z=>.inr z
    rcases NH (k:=z) r' with⟨v,d',e,c,C⟩|⟨e,c⟩
    ·rw[e,c];exact C
    ·rw[e,c];exact .non
  |_=>cases u
 |_=>cases u
end
def NE:Bp "all"=b3 (.builtin "all"):=by decide+kernel
def lS:Bp "dict"=b3 (.type "dict"):=by decide+kernel
section
variable{X:Cx}{K:Aj}{ml:List Nat}{e a b c:Uj}{es:List Uj}{pa ta ia pb tb ib pc tc ic pu bt bi ps bs:Bool}{fa fb fc f:VF}{B B':Bs}{O:Nat->Option Ud}{H H0 H1 H':Hp}{σ:St}{δ δ':Ev}{v:V}{d:cF}{p:Ud}{pos:Pos}
def cJ{ks:List Bool}{a:List Uc}(r:aK (ks.map V.bl) a){i:Nat}{u:Uc}(h:a[i]?=b3 u):∃k,ks[i]?=b3 k/\u=.bool k:=by
 have hl:=r.length;rw[Ci]at hl;have hi:i<a.length:=(Ag.mp h).1;have e:(ks.map V.bl)[i]?=b3 (.bl ks[i]):=by simp[hl▸hi]
 obtain⟨w,h1,h2⟩:=r.get e;rw[h]at h1;cases h1;exact⟨ks[i],by simp[hl▸hi],h2⟩
def oO{ks:List Bool}:(Az ks.length).all (λi=>(ks[i]?).getD b8)=ks.all id:=by
 induction ks with
 |nil=>rfl
 |cons k ks a=>
  rw[Br,Md,Sy,Tn,Sy,<-a];rfl
def BE(K:Aj)(g:List Bool->Bool):RC:=λxs H Q=>∃p ks,xs=[.ref p]/\WW K H p (ks.map V.bl)/\Q (.bl (g ks)) H
def nO{prog:Be}{w:Ul}{A:Bx}{ks:List Bool}{b:List Uc}(r:aK (ks.map V.bl) b):TruthOf prog w A (λi v=>b.toArray[i]?=b3 v) λi=>(ks[i]?).getD b8:=by intro i v s Q E c a;obtain⟨k,h1,rfl⟩:=cJ r (by simpa using c);have a:Q ((ks[i]?).getD b8) s:=a;rw[h1]at a;exact Fd a
def oz(hc:X.calm=b8):ZH X (.builtin "all") (BE X.K λks=>ks.all id):=by
 intro aa s σ H xs j Q I r h;obtain⟨l,ks,rfl,f,q⟩:=h;obtain⟨u,rfl,e⟩:=SQ r;cases e;obtain⟨its,c,pl,hz⟩:=I.list f;have hl:=pl.isList;have a:l≠s.heap.objs.size:=by obtain⟨o,g,_⟩:=hl;exact Bf (Al g)
 have d:=c.length;rw[Ci]at d;refine call_all_walk (Gz hl ⟨_,_,_,_,_,_,_,rfl,Walks.list (show X.A.in1.handled=b4 from I.ok.hd hc) s.heap.objs.size l a its.toArray,⟨⟨_,Ba _ rfl,rfl,rfl⟩,?_⟩,nO c,λh' tk i=>?_⟩)
 ·obtain⟨o,g,r⟩:=hl
  exact⟨o,Ad _ g,r⟩
 ·rw[Ao,<- d,oO]
  exact⟨.bl _,H,I.kept (t':=tk) λb o g=>i b o (by simp;exact Bf (Al g)) (Ad _ g),rfl,q⟩
def kAll(hc:X.calm=b8)(h:X.K=K:=by rfl):ZH X (.builtin "all") (BE K λks=>ks.all id):=by subst h;exact oz hc
noncomputable def MJ:List cF->Option (List Bool)
 |[]=>b3 []
 |.bl k::ds=>(MJ ds).map λks=>k::ks
 |_=>b4
theorem AB{N:Ud->Prop}:∀{xs:List V}{ds:List cF}{ks:List Bool},bD K N H xs ds->MJ ds=b3 ks->xs=ks.map V.bl
 |_,_,_,.nil,h=>by cases h;rfl
 | _,_,_,@bD.cons _ _ _ v vs d ds h t,e => by
  cases d with
  |bl k=>
   cases h;have e:(MJ ds).map (λks=>k::ks)=b3 _:=e;cases h2:MJ ds with
   |none=>rw[h2]at e;cases e
   |some a=>
    rw[h2]at e;cases e;rw[AB t h2,Bg]
  |_=>cases e
def Vd(g:List Bool->Bool):cF->Option cF
 |.lst ds=>(MJ ds).map λks=>.bl (g ks)
 |_=>b4
abbrev C3:=Vd λks=>ks.all id
def lI{g:List Bool->Bool}:CalS K (BE K g) (Vd g):=by
 intro H N M x d c Q b h k;cases d with
 |lst ds=>
  have h:(MJ ds).map (λks=>cF.bl (g ks))=b3 c:=h;obtain⟨ks,h1,h⟩:=As.mp h;cases h;obtain⟨a,xs,rfl,sq,r⟩:=b.lstE;have:=AB r h1
  subst this;exact⟨a,ks,rfl,sq,k _ λ_ _ _=>.bl _⟩
 |_=>cases h
def JL:CalS K (BE K λks=>ks.all id) C3:=lI
noncomputable def VH:List cF->Option (List Int)
 |[]=>b3 []
 |.int i::ds=>(VH ds).map λns=>i::ns
 |_=>b4
theorem OS{N:Ud->Prop}:∀{xs:List V}{ds:List cF}{ns:List Int},bD K N H xs ds->VH ds=b3 ns->xs=ns.map V.int
 |_,_,_,.nil,h=>by cases h;rfl
 | _,_,_,@bD.cons _ _ _ v vs d ds h t,e => by
  cases d with
  |int k=>
   cases h;have e:(VH ds).map (λks=>k::ks)=b3 _:=e;cases h2:VH ds with
   |none=>rw[h2]at e;cases e
   |some a=>
    rw[h2]at e;cases e;rw[OS t h2,Bg]
  |_=>cases e
theorem FK{N:Ud->Prop}:∀ns:List Int,bD K N H (ns.map V.int) (ns.map cF.int)
 |[]=>.nil
 |i::ns=>.cons (.int i) (FK ns)
def rngI{a:Int}{n:Nat}{acc:Array Uc}(h:ItemsOf (λi v=>∃t,v=.int (a+i*1) t) acc n):aK ((Az n).map λi:Nat=>V.int (a+i)) acc.toList:=by
 obtain⟨h1,h2⟩:=h;have go:∀(m:Nat) (b:List Uc),b.length=m->∀k:Nat,(∀(i:Nat) (v:Uc),b[i]?=b3 v->∃t,v=.int (a+((k+i:Nat):Int)*1) t)->aK ((Az m).map λi:Nat=>V.int (a+((k+i:Nat):Int))) b:=by
  intro m;induction m with
  |zero=>intro b hl k _;rw[Gg.mp hl];exact .nil
  |succ m d=>
   intro b hl k c;cases b with
   |nil=>cases hl
   |cons u b=>
    rw[Md,Bg,Qg];obtain⟨t,f⟩:=c 0 u rfl;refine .cons ⟨t,by rw[f];simp⟩ ?_
    have:=d b (by simpa using hl) (k+1) λi v e=>by obtain⟨t,h⟩:=c (i+1) v (by simpa using e);exact⟨t,by rw[h,show k+(i+1)=k+1+i by lia]⟩
    have e:((λi:Nat=>V.int (a+((k+i:Nat):Int)))∘Nat.succ)=λi:Nat=>V.int (a+((k+1+i:Nat):Int)):=by funext i;simp only[Sz,Nat.succ_eq_add_one];rw[show k+(i+1)=k+1+i by lia]
    rw[e];exact this
 have:=go n acc.toList (by simpa using h1) 0 λi v e=>by
  have:=h2 i v (by simpa using e)
  simpa using this
 simpa using this
def EE:ZH X (.type "range") (λxs H Q=>∃j,xs=[.int j]/\∀p,H p=b4->Q (.ref p) (upd H p (.ext (rngP p 0 j 1)))):=by intro aa s σ H xs us Q I r h;obtain⟨j,rfl,q⟩:=h;obtain⟨u,rfl,t,rfl⟩:=SQ r;refine call_range_1 ?_;have b:=I.hok.fresh (Am s.heap.objs.size);refine⟨.ref s.heap.objs.size,_,I.laid (a:=s.heap.objs.size) (o:=.ext (rngP s.heap.objs.size 0 j 1)) (t':=s.toks+1+1) (λ_ _ z=>Ad _ z) (Am _) ?_,rfl,q _ b⟩;exact⟨⟨_,_,_,Tt ..⟩,⟨_,Ba _ rfl⟩,λh1 h2 ⟨t,u,v,z⟩ k=>⟨t,u,v,k _ z⟩⟩
def JY(hc:X.calm=b8):ZH X (.type "list") (λxs H Q=>∃(p:Ud) (j:Int),xs=[.ref p]/\H p=b3 (.ext (rngP p 0 j 1))/\(0<=j/\j<=16777216)/\∀l,H l=b4->Q (.ref l) (upd H l (.lst ((Az j.toNat).map λi:Nat=>V.int (0+i))))):=by
 intro aa s σ H xs y Q I r h;obtain⟨p,j,rfl,m,A,q⟩:=h;obtain⟨u,rfl,g⟩:=SQ r;cases g;obtain⟨⟨t,u,v,z⟩,_⟩:=I.hok p _ m;have n:Hu 0 j 1=(j.toNat:Int):=by
  unfold Hu;rw[if_pos (by decide)];split
  ·rw[Int.ediv_one]
   lia
  ·lia
 have d:(2:Int) ^ 62=4611686018427387904:=by decide
 have e:(2:Nat) ^ 24=16777216:=by decide
 have f:Tv 0 j 1=b8:=small_one (a:=0) (b:=j) (by rw[d];decide) (by rw[d];decide) (by rw[d];lia) (by rw[d];lia);refine call_list_range (I.ok.hd hc) z f n (by rw[e];lia) λh' tk acc c kp w x=>?_;have k:=rngI x;refine⟨.ref s.heap.objs.size,_,I.laid (a:=s.heap.objs.size) (o:=.lst ((Az j.toNat).map λi:Nat=>V.int (0+i))) (t':=tk) kp (Am _) ⟨?_,acc.toList,c,k,by simpa using w⟩,rfl,q _ (I.hok.fresh (Am _))⟩;rw[Ci,Ip,Cc];lia
noncomputable def TD(f:VF):VF:=λδ=>(f δ).bind λp=>match p.1 with
 |.int j=>if 0<=j/\j<=16777216 then b3 (.lst (YW 0 j.toNat),p.2)else b4
 |_=>b4
def k6{N:Ud->Prop}(lo:Int)(n:Nat):bD K N H ((Az n).map λi:Nat=>V.int (lo+i)) (YW lo n):=by
 unfold YW;induction (Az n)with
 |nil=>exact .nil
 |cons x xs a=>exact .cons (.int _) a
def JV{p1 p2 m:Pos}(hc:X.calm=b8)(v:Gl X "list")(t:X.mg "list"=b4)(r:Bp "list"=b3 (.type "list"))(i:Gl X "range")(h:X.mg "range"=b4)(f:Bp "range"=b3 (.type "range"))(w:PE X a (TV K ml pa ta ia fa))(n:SE X a []:=by rfl)(b:Uh (.Call (.Name "range" p2) [a] [] m::[]) X.env=(ba,eval (.Call (.Name "range" p2) [a] [] m) X.env)::Uh [] X.env:=by rfl):PE X (.Call (.Name "list" p1) [.Call (.Name "range" p2) [a] [] m] [] pos) (TN K ml pa (TD fa)):=
 (VQ (JY hc) v t r (aW (VQ EE i h f (aW w ZB n) (by decide) (by decide) n) ZB b) (by decide) (by decide) b).imp λσ H Q g => by
  obtain⟨B,O,δ,d,δ',S,q,k⟩:=g;unfold TD at q;obtain⟨⟨x,δ1⟩,h1,q⟩:=Ac.mp q;cases x with
  |int j=>
   have q:(if 0<=j/\j<=16777216 then b3 (cF.lst (YW 0 j.toNat),δ1)else b4)=b3 (d,δ'):=q;split at q
   ·rename_i u
    cases q;refine⟨B,O,δ,_,_,S,h1,λy H1 c=>?_⟩;have o:=c.rep;cases o.onI;refine⟨j,rfl,λp s=>⟨p,j,rfl,bK,u,λl hl=>?_⟩⟩;have e:Z6 H1 (upd H1 p (.ext (rngP p 0 j 1))):=bZ s;exact k l _ (mkN (c.sta.same e) (c.frm.trans e.fr) (λz=>(c.pur z).trans e) hl (k6 0 j.toNat))
   ·cases q
  |_=>cases q
end
section
variable{X:Cx}{K:Aj}{ml:List Nat}{e a b c:Uj}{es:List Uj}{pa ta ia pb tb ib pc tc ic pu bt bi ps bs:Bool}{fa fb fc f:VF}{B B':Bs}{O:Nat->Option Ud}{H H0 H1 H':Hp}{σ:St}{δ δ':Ev}{v:V}{d:cF}{p:Ud}{pos:Pos}
noncomputable def TY(n:Int):List Int->Option Nat
 |[]=>b4
 |i::ns=>if i=n then b3 0 else(TY n ns).map (· +1)
theorem JF{n:Int}:∀{ns:List Int}{j:Nat},TY n ns=b3 j->ns[j]?=b3 n/\∀m,m<j->ns[m]? ≠b3 n
 |[],_,h=>by cases h
 | i :: ns,j,h => by
  unfold TY at h;split at h
  ·rename_i hi
   cases h;exact⟨by rw[hi];rfl,λm a=>absurd a (Ms _)⟩
  ·rename_i hi
   obtain⟨k,h1,h⟩:=As.mp h;cases h;obtain⟨h2,b⟩:=JF h1;refine⟨by simpa using h2,λm a=>?_⟩;cases m with
   |zero=>simpa using hi
   |succ m=>simpa using b m (Me a)
def FY{ns:List Int}{a:List Uc}(r:aK (ns.map V.int) a){m:Nat}{u:Uc}(h:a[m]?=b3 u):∃i t,ns[m]?=b3 i/\u=.int i t:=by
 have hl:=r.length;rw[Ci]at hl;have b:m<a.length:=(Ag.mp h).1;have e:(ns.map V.int)[m]?=b3 (.int ns[m]):=by simp[hl▸b]
 obtain⟨f,c,t,d⟩:=r.get e;rw[h]at c;cases c;exact⟨ns[m],t,by simp[hl▸b],d⟩
noncomputable def K0(n:Int):Uc->Bool
 |.int i _=>i==n
 |_=>ba
def Xd{ns:List Int}{its:List Uc}{n:Int}{j:Nat}(r:aK (ns.map V.int) its)(h:TY n ns=b3 j):∃e:j<its.toArray.size,K0 n its.toArray[j]=b8/\(∀m (a:m<its.toArray.size),m<j->K0 n its.toArray[m]=ba):=by
 obtain⟨h1,h2⟩:=JF h;have hl:=r.length;rw[Ci]at hl;have e:j<ns.length:=(Ag.mp h1).1;have at_:∀(m:Nat) (a:m<its.toArray.size),∃i t,ns[m]?=b3 i/\its.toArray[m]=.int i t:=λm a=>by
  have d:m<its.length:=by simpa using a
  exact FY r (u:=its.toArray[m]) (by simp[d])
 refine⟨by simpa[<-hl]using e,?_,λm a c=>?_⟩
 ·obtain ⟨i,t',b,f⟩ := at_ j (by simpa [<- hl]using e)
  rw[h1]at b;cases b;rw[f];simp[K0]
 ·obtain⟨i,t',b,f⟩:=at_ m a
  have:=h2 m c
  rw[b]at this;rw[f];exact beq_eq_false_iff_ne.mpr λz=>this (by rw[z])
def Xj{ns:List Int}{its:List Uc}(r:aK (ns.map V.int) its){y:Uc}(b:y∈its.toArray):∃i t,y=.int i t:=by
 obtain⟨m,c,rfl⟩:=Array.mem_iff_getElem.mp b;have a:m<its.length:=by simpa using c
 obtain⟨i,t,_,e⟩:=FY r (m:=m) (u:=its.toArray[m]) (by simp[a]);exact⟨i,t,e⟩
def Wh(K:Aj):V->List V->Hp->VK->Prop:=λx vs H Q=>∃(l:Ud) (ns:List Int) (n:Int) (j:Nat),x=.ref l/\vs=[.int n]/\WW K H l (ns.map V.int)/\TY n ns=b3 j/\Q (.int j) H
def o9:MtM X "list.index" (Wh X.K):=by
 intro aa s σ H x vs v p Q I d f h;obtain⟨l,ns,n,j,rfl,rfl,k,m,q⟩:=h;cases d;obtain⟨u,rfl,t,rfl⟩:=f.one;obtain⟨its,r,⟨o,c,e,hc,hd,b⟩,hz⟩:=I.list k;obtain⟨cls,dd,data,sl⟩:=o;simp only at hc hd b;subst hc hd b;obtain⟨a,h1,h2⟩:=Xd r m;have hl:=r.length;refine Gb Pq ⟨_,e,rfl⟩ Oj (Nu _ _) (Ol l its.toArray c b4 sl (.int n t) (K0 n) j a (by
  have z:its.length<=16777216:=by rw[<-hl,<-Cc];exact hz
  have w:j<its.length:=by simpa using a
  lia) h1 h2) ⟨e,?_,?_⟩
 ·intro y g
  obtain⟨i,t',rfl⟩:=Xj r g;exact SeqAt.EqAt.int_int i t' n t
 ·exact⟨.int j,H,I.tok _,⟨_,rfl⟩,q⟩
def eD(h:X.K=K:=by rfl):MtM X "list.index" (Wh K):=by subst h;exact o9
def C4:cF->cF->Option cF
 |.lst ds,.int n=>(VH ds).bind λns=>(TY n ns).map λj=>.int j
 |_,_=>b4
def mK{aq ai:Pos}(i:X.K=K)(t:PE X a (TV K ml pa ta ia fa))(s:PE X b (TV K ml pb tb ib fb))(A:Fs a "index" X.env (eval a X.env)=eval a X.env:=by rfl)(w:((Ei ai (Uh (b::[]) X.env)).all (λx=> !x.1)&&(Km ai (Gp [] X.env)).all (λx=>x.1.isSome)&&decide ((b::([]:List Uj)).length+([]:List Io).length+(if([]:List Io).isEmpty then 0 else 1)<30))=b8:=by rfl)(C:(aq.endLine==ai.line)=b8:=by rfl)(hs:SE X b []:=by rfl)(D:(Ei ai (Uh [] X.env)).any (·.1)=ba:=by rfl)(hl:(pb || (ta&&ia))=b8:=by rfl):PE X (.Call (.Attribute a "index" aq) [b] [] ai) (TV K ml (pa&&pb) b8 b8 (f2 C4 fa fb)):=
 (kBm (K := K) i Ie Lp Lq (eD i) t (aW s ZB hs) A w C hs D).imp λσ H Q g => by
  obtain⟨B,O,δ,d,δ2,S,q,k⟩:=g;obtain⟨x,δ1,y,h1,h2,c⟩:=PX q;refine⟨B,O,δ,x,δ1,S,h1,λF H1 e=>?_⟩;cases x with
  |lst ds=>
   cases y with
   |int n=>
    have c:((VH ds).bind λns=>(TY n ns).map λj=>cF.int j)=b3 d:=c;obtain⟨ns,u,c⟩:=Ac.mp c;have c:(TY n ns).map (λj=>cF.int j)=b3 d:=c;cases h:TY n ns with
    |none=>rw[h]at c;cases c
    |some j=>
     rw[h]at c;cases c;obtain⟨l,xs,rfl,sq,_⟩:=e.rep.lstE;refine⟨.inl ⟨rfl,xs,sq⟩,B,O,δ1,_,δ2,e.sta,h2,λE H2 R2=>?_⟩;have r:=R2.rep;cases r.onI;obtain⟨G,p,v,f,r'⟩:=(R2.live hl e.rep).lstE;cases v;have:=OS r' u
     subst this;exact⟨l,ns,n,j,rfl,rfl,f,h,k _ H2 ⟨R2.sta,e.frm.trans R2.frm,λz=>by obtain⟨o,m⟩:=(Af _ _).mp z;exact(e.pur o).trans (R2.pur m),.int _⟩⟩
   |_=>cases c
  |_=>cases c
def BG:V->List V->Hp->VK->Prop:=λx vs H Q=>∃(l:Ud) (ns:List Int) (n:Int) (j:Nat),x=.ref l/\vs=[.int n]/\H l=b3 (.lst (ns.map V.int))/\TY n ns=b3 j/\Q .non (upd H l (.lst ((ns.eraseIdx j).map V.int)))
theorem IJ{α β:Type}(g:α->β):∀(l:List α) (j:Nat),(l.map g).eraseIdx j=(l.eraseIdx j).map g
 |[],_=>by simp
 |_::_,0=>by simp
 |x::l,j+1=>by simp[IJ g l j]
def lT:MtM X "list.remove" BG:=by
 intro aa s σ H x vs v o Q I f g h;obtain⟨l,ns,n,j,rfl,rfl,d,m,q⟩:=h;cases f;obtain⟨u,rfl,t,rfl⟩:=g.one;obtain⟨z,its,c,r,hl,e⟩:=I.lstM d;obtain⟨a,h1,h2⟩:=Xd r m;refine Gb F.slot_list_remove ⟨_,e,rfl⟩ F.entry_list_remove (F.args_list_remove_2 _ _) (MeetsSeq.list_remove l its.toArray c (.int n t) (K0 n) (λy k=>?_) j a h1 h2 (by rw[Ao,<-hl];exact z)) ⟨e,?_⟩
 ·obtain⟨i,t',rfl⟩:=Xj r k
  exact Tq i n t' t
 ·have b : j < its.length := by simpa using a
  refine⟨.non,_,I.lset (its':=its.eraseIdx j) d e (by simp[Array.eraseIdxIfInBounds,b]) (ys:=(ns.eraseIdx j).map V.int) ?_ ?_,rfl,q⟩
  ·have:=aK.eraseIdx j r
   rwa[IJ]at this
  ·rw[Ci]
   have h1:=List.length_eraseIdx_le ns j;rw[Ci]at z;lia
def mRem:List cF->List cF->Option (List cF)
 |ds,[.int n]=>(VH ds).bind λns=>(TY n ns).map λj=>(ns.eraseIdx j).map cF.int
 |_,_=>b4
def fH:MuV K BG mRem:=by
 intro H N l xs vs ds es a Q hl g b c h k;cases c with
 |nil=>cases h
 | @cons v vs d es hd t=>
  cases t with
  |cons _ _=>cases d<;>cases h
  |nil=>
   cases d with
   |int n=>
    cases hd;have h:((VH ds).bind λns=>(TY n ns).map λj=>(ns.eraseIdx j).map cF.int)=b3 a:=h;obtain⟨ns,f,h⟩:=Ac.mp h;have h:(TY n ns).map (λj=>(ns.eraseIdx j).map cF.int)=b3 a:=h;obtain⟨j,e,h⟩:=As.mp h;cases h;have:=OS b f
    subst this;exact⟨l,ns,n,j,rfl,rfl,hl,e,k _ _ (FK _)⟩
   |_=>cases h
end
section
variable{X:Cx}{K:Aj}{ml:List Nat}{e:Uj}{es:List Uj}{pu bt bi bs:Bool}{f:VF}{fs:MH}
def b5(h:PE X e (TV K ml pu bt bi f))(a:(bt&&bi)=b8:=by rfl):PE X e (TV K ml pu b8 b8 f):=by obtain⟨h1,h2⟩:=(Af _ _).mp a;subst h1 h2;exact h
def Vj(h:PE X e (TV K ml pu bt bi f))(a:bi=b8:=by rfl):PE X e (TV K ml pu bt b8 f):=by subst a;exact h
def bS(h:PA X es (TAV K ml pu bs fs))(a:bs=b8:=by rfl):PA X es (TAV K ml pu b8 fs):=by subst a;exact h
def UL{st:Up}:PS X st (U7 K ml λ_=>b4):=λ_ _ _ _ _ _ ⟨_,_,_,_,_,q,_⟩=>nomatch q
variable{a b c:Uj}{pa ta ia pb tb ib pc tc ic:Bool}{fa fb fc:VF}{pos:Pos}{δ:Ev}
end
section
variable{X:Cx}{K:Aj}{ml:List Nat}{e a b c:Uj}{pa ta ia pb tb ib pu:Bool}{fa fb fc f:VF}{B:Bs}{O:Nat->Option Ud}{H H':Hp}{σ:St}{δ δ':Ev}{v:V}{d:cF}{p:Ud}{pos:Pos}{ks:List (Option Uj)}{vs:List Uj}
theorem NR:∀{more acc:List (Z8×V)},((acc++more).map Ch).Nodup->UR acc more=acc++more
 |[],acc,_=>by simp[UR]
 |(k,v)::more,acc,a=>by
  have d:∀q∈acc,q.1≠k:=λq b z=>by rw[Gu,Bg]at a;exact(List.nodup_append.mp a).2.2 q.1 (Nv b) k (by simp) z
  have c:QU acc k=b4:=by unfold QU;rw[List.find?_eq_none.mpr λq b=>by simpa using d q b];rfl
  show UR (WS acc k v) more=_;rw[lP v c,NR (by simpa using a)];simp
abbrev D9:=Ev->Option (List (Z8×cF)×Ev)
inductive TPDi(K:Aj)(ml:List Nat)(pu:Bool)(f:D9)(σ:St)(H:Hp)(Q:List (V×V)->Hp->Prop):Prop
 |mk (B:_) (O:_) (δ:_) (kds:_) (δ':_) (h0:ZX K ml B O H σ δ) (h1:f δ=b3 (kds,δ')) (h2:∀(kvs:List (Z8×V)) H',ZX K ml B O H' σ δ'->Fr (OA O) H H'->(pu=b8->Z6 H H')->kvs.map Ch=kds.map Ch->bD K (Nn B O) H' (kvs.map Dg) (kds.map Dg)->Q (kvs.map λkv=>(kV kv.1,kv.2)) H'):TPDi K ml pu f σ H Q
def TPD(K:Aj)(ml:List Nat)(pu:Bool)(f:D9)(σ:St)(H:Hp)(Q:List (V×V)->Hp->Prop):Prop:=TPDi K ml pu f σ H Q
def PPV(X:Cx)(K:Aj)(ml:List Nat)(pu:Bool)(pos:Pos)(ks:List (Option Uj))(vs:List Uj)(f:D9):Prop:=∃a,PPs X pos ks vs a/\∀σ H Q,TPD K ml pu f σ H Q->HJ a σ H Q
def A7:D9:=λδ=>b3 ([],δ)
def LA(fk a:VF)(fs:D9):D9:=λδ=>(fk δ).bind λp=>(V2 p.1).bind λk=>(a p.2).bind λq=>(fs q.2).map λr=>((k,q.1)::r.1,r.2)
def ki:PPV X K ml b8 pos [] [] A7:=⟨[],kZ,λσ H Q a=>by obtain⟨B,O,δ,kds,δ',S,q,k⟩:=a;cases q;exact k [] H S (Fr.refl _ _) (λ_=>Z6.refl _) rfl .nil⟩
def dH{fs:D9}(r:PE X a (TV K ml pa ta ia fa))(o:PE X b (TV K ml pb b8 b8 fb))(p:PPV X K ml pu pos ks vs fs):PPV X K ml (pa&&pb&&pu) pos (b3 a::ks) (b::vs) (LA fa fb fs):=by
 obtain⟨l,h1,h2⟩:=p;refine⟨_,nh r o h1,λσ H Q ⟨B,O,δ,kds,i,S,q,k⟩=>?_⟩;unfold LA at q;obtain⟨⟨x,δ1⟩,t,q⟩:=Ac.mp q;cases g:V2 x with
 |none=>simp[g]at q
 |some n=>
  simp only[An,g]at q;cases f:fb δ1 with
  |none=>simp[f]at q
  |some p3=>
   obtain⟨y,δ2⟩:=p3;simp only[An,f]at q;cases e:fs δ2 with
   |none=>simp[e]at q
   |some p4=>
    obtain⟨u,h⟩:=p4;simp only[e]at q;cases q;refine⟨B,O,δ,x,δ1,S,t,λA H1 c=>⟨B,O,δ1,y,δ2,c.sta,f,λj H2 R2=>h2 _ _ _ ⟨B,O,δ2,u,_,R2.sta,e,λkvs w v f3 p3 d m=>?_⟩⟩⟩;have s:=c.rep.key g;subst s;refine k ((n,j)::kvs) w v ((c.frm.trans R2.frm).trans f3) (λz=>?_) (by simp[d]) (.cons (R2.rep.fr f3 (λa z=>.inr z) λa z=>.inr z) m);simp only[Af]at z;exact((c.pur z.1.1).trans (R2.pur z.1.2)).trans (p3 z.2)
noncomputable def EN(fs:D9):VF:=λδ=>(fs δ).bind λp=>if(p.1.map Ch).Nodup/\p.1.length<=15 then b3 (.dct (p.1.map Ch) (p.1.map Dg),p.2)else b4
def iM{fs:D9}(h:PPV X K ml pu pos ks vs fs)(J:ks.all (·.isSome)=b8)(hl:ks.length=vs.length)(F:ks≠[])(y:ks.length<=15):PE X (.Dict ks vs pos) (TN K ml pu (EN fs)):=by
 obtain⟨D,h1,h2⟩:=h;refine(eZ h1 J hl F y).imp λσ H Q ⟨B,O,δ,d,δ',S,q,k⟩ p g=>?_;unfold EN at q;obtain⟨⟨kds,δ1⟩,I,q⟩:=Ac.mp q;have q:(if(kds.map Ch).Nodup/\kds.length<=15 then b3 (cF.dct (kds.map Ch) (kds.map Dg),δ1)else b4)=b3 (d,δ'):=q;split at q
 ·rename_i A
  cases q;have N:=S.laid (o:=.dK []) g;refine h2 _ _ _ ⟨B.add p,O,δ,kds,_,N,I,λkvs H2 c f2 p2 x r=>?_⟩;have t:¬OA O p:=λ⟨i,w⟩=>(c.old i p w).1 (.inr rfl);have l:H2 p=b3 (.dK []):=f2 _ _ bK λw=>absurd w t;have L:kvs.length=kds.length:=by
   have:=congrArg List.length x
   simpa using this
  refine⟨l,kvs,rfl,by rw[L];exact A.2,?_⟩;have E:UR [] kvs=kvs:=NR (acc:=[]) (by simpa[x]using A.1);rw[E];have C:(B.add p).Z p:=.inr rfl;have s:Fr (λb=>b=p) H2 (upd H2 p (.dK kvs)):=λb u q n=>by
   by_cases f:b=p
   ·subst f
    rw[l]at q;cases q;exact absurd (n rfl) λz=>z
   ·rw[bA f]
    exact q
  have j:∀b,b=p->Nn (B.add p) O b:=λb w=>.inl (w▸C);have w:N5 K (Nn (B.add p) O) (upd H2 p (.dK kvs)) p (.dct (kvs.map Ch) (kds.map Dg)):=.dct bK (r.fr s j);rw[x]at w;have M:ZX K ml (B.add p) O (upd H2 p (.dK kvs)) σ δ':=by
   have m:∀b,(∃u,H2 b=b3 u)->∃u,upd H2 p (.dK kvs) b=b3 u:=λb q0=>by
    obtain⟨u,q⟩:=q0;by_cases f:b=p
    ·exact⟨_,by rw[f];exact bK⟩
    ·exact⟨u,by rw[bA f];exact q⟩
   refine⟨c.len,λi d q=>?_,λi d q=>?_,c.dom,c.inj,c.old,λb h=>m b (c.zin b h),λb u q n=>?_,c.par,λb h=>m b (c.pin b h),λz hz=>(c.kep z hz).fr s j j⟩
   ·obtain⟨v,e,r⟩:=c.va i d q
    exact⟨v,e,r.fr s j j⟩
   ·obtain⟨a,e,G,w⟩:=c.ow i d q
    exact⟨a,e,G,w.fr s j λz=>(c.old i a e).1 (z▸C)⟩
   ·have f : b ≠ p := λz => by have q:B.H0 b=b3 u:=q;rw[z,S.fresh g]at q;cases q
    rw[bA f];exact c.frm b u q n
  refine k p _ ⟨M,λb o e n=>?_,λz=>?_,w,S.new g,S.fresh g⟩
  ·have f : b ≠ p := λz => by rw [z,g]at e;cases e
   rw[bA f];exact f2 b o (bZ g _ _ e) n
  ·intro b o e
   have f:b≠p:=λz=>by rw[z,g]at e;cases e
   rw[bA f];exact p2 z b o (bZ g _ _ e)
 ·cases q
end
theorem RJ:∀(names:List (Ug×Uu)) (n:Nat) (acc:List (Ug×Ud)),Us n names acc=Us n names []++acc
 |[],_,_=>rfl
 | (x,k) :: r,n,acc => by
  unfold Us;split
  ·rw[RJ r (n+1) ((x,n)::acc),RJ r (n+1) [(x,n)]]
   simp
  ·exact RJ r n acc
theorem GH:∀{names:List (Ug×Uu)}{n:Nat}{x:Ug}{c:Ud},(x,c)∈Us n names []->(x,Ca)∈names
 |[],_,_,_,h=>nomatch h
 | (y,k) :: r,n,x,c,h => by
  unfold Us at h;split at h
  ·rename_i a
   rw[RJ]at h;rcases Bq.mp h with h|h
   ·exact Aq _ (GH h)
   ·cases Ar.mp h
    rw[show k=Ca from beq_iff_eq.mp a];exact Bb
  ·exact Aq _ (GH h)
theorem GG:∀{names:List (Ug×Uu)}{n:Nat}{x:Ug},(x,Ca)∈names->∃c,(x,c)∈Us n names []
 | (y,k) :: r,n,x,h => by
  unfold Us;rcases Ai.mp h with e|h
  ·cases e
   rw[if_pos (by decide),RJ];exact⟨n,Aw _ (Ar.mpr rfl)⟩
  ·split
   ·rw[RJ]
    obtain⟨c,hc⟩:=GG (n:=n+1) h;exact⟨c,Bm _ hc⟩
   ·exact GG h
theorem QA:∀{l:List (Ug×Ud)}{x:Ug}{c:Ud},(x,c)∈l->∃b,l.lookup x=b3 b
 | (y,d) :: r,x,c,h => by
  rw[Cn];cases a:x==y with
  |true=>exact⟨d,rfl⟩
  |false=>
   rcases Ai.mp h with e|h
   ·cases e
    simp at a
   ·exact QA h
theorem ZQ:∀{l m:List (Ug×Ud)}{x:Ug}{c:Ud},(l++m).lookup x=b3 c->l.lookup x=b3 c∨(l.lookup x=b4/\m.lookup x=b3 c)
 |[],_,_,_,h=>.inr ⟨rfl,h⟩
 |(y,d)::r,m,x,c,h=>by
  rw[Gh,Cn]at h;rw[Cn];cases a:x==y with
  |true=>rw[a]at h;exact .inl h
  |false=>rw[a]at h;exact ZQ h
theorem VC:∀{l m:List (Ug×Ud)}{x:Ug},l.lookup x=b4->(l++m).lookup x=m.lookup x
 |[],_,_,_=>rfl
 |(y,d)::r,m,x,h=>by
  rw[Cn]at h;rw[Gh,Cn];cases a:x==y with
  |true=>rw[a]at h;cases h
  |false=>rw[a]at h;exact VC h
def M3{M:Uy}{A:Bx}{E:Uc->Ae->Prop}{s:Ae}{scope:Ut}{globals:Ud}{c:List (Ug×Ud)}{qual:Ug}{outer:Env}{Q:Env->Ae->Prop}(d:Q (newEnv scope s.heap.objs.size globals (Us (s.heap.objs.size+1) scope.names c) qual b4 .none (b3 outer) builtinsNs) {s with heap:=La (s.heap.push {cls:=.type "dict",data:=.dict #[]}) scope.names}):Ue M A (Ks scope globals c [] qual b4 .none (b3 outer)) Q E s:=by simp only[Ks,Og,if_true];refine Aa (wpAny_alloc ?_);refine Aa (wpAny_layCells _ (λname kind b=>by cases a:kind==Ca<;>simp[a]) _ _ _ _ ?_);rw[show({s with heap:=s.heap.push {cls:=.type "dict",data:=.dict #[]}}:Ae).heap.objs.size=s.heap.objs.size+1 from Cm ..];rw[Nk];exact Aa (Ah (Ah d))
theorem WJ:∀{l m:List (Ug×Ud)}{x:Ug}{c:Ud},l.lookup x=b3 c->(l++m).lookup x=b3 c
 |(y,d)::r,m,x,c,h=>by
  rw[Cn]at h;rw[Gh,Cn];cases a:x==y with
  |true=>rw[a]at h;exact h
  |false=>rw[a]at h;exact WJ h
structure QV(X:Cx)(N':List Ug)(ix:List Nat)(scope:Ut):Prop where
 kind:scope.kind=.function
 cel:∀y∈scope.names,y.2=.cell->scope.names.lookup y.1=b3 .cell
 names:∀y∈scope.names,y.2=.local->scope.names.lookup y.1=b3 .local
 free:∀y∈scope.names,y.2=.free->X.env.kindOf y.1=b3 .cell∨X.env.kindOf y.1=b3 .free
 nd:N'.Nodup
 cap:∀j,j<ix.length->N'[j]?=(ix[j]?).bind λi=>X.N[i]?
 capf:∀x∈N'.take ix.length,scope.names.lookup x=b3 .free
noncomputable def aF(X:Cx)(N':List Ug)(scope:Ut)(cl:List (Ug×Ud))(s1:Ae)(H1:Hp)(fp:List Ud):Cx:=
 {X with N:=N',s₀:=s1,H₀:=H1,env:=Ra scope cl s1.heap.objs.size X.env,outer:=X.stack,stack:=X.stack,ex:=fp,fn:=λx=>scope.names.lookup x==b3 Ca,pn:=[],xe:=λ_ _=>False}
theorem V3{env:Env}{x:Ug}:∀{l:List (Ug×Uu)},((l.map λ(n,k)=>if(k==Bt&&env.scope.kind== .function&&env.kindOf n==b3 .cell)then(n,Ca)else(n,k)).lookup x=b3 .cell∨(l.map λ(n,k)=>if(k==Bt&&env.scope.kind== .function&&env.kindOf n==b3 .cell)then(n,Ca)else(n,k)).lookup x=b3 .free)->(x,Bt)∈l∨(x,Ca)∈l
 |[],h=>by rcases h with z|z<;>cases z
 | (n,k) :: r,h => by
  have h:Hk x ((if(k==Bt&&env.scope.kind== .function&&env.kindOf n==b3 .cell)=b8 then(n,Ca)else(n,k))::r.map λ(n,k)=>if(k==Bt&&env.scope.kind== .function&&env.kindOf n==b3 .cell)then(n,Ca)else(n,k))=b3 .cell∨
   Hk x ((if(k==Bt&&env.scope.kind== .function&&env.kindOf n==b3 .cell)=b8 then(n,Ca)else(n,k))::r.map λ(n,k)=>if(k==Bt&&env.scope.kind== .function&&env.kindOf n==b3 .cell)then(n,Ca)else(n,k))=b3 .free:=h
  by_cases hc:(k==Bt&&env.scope.kind== .function&&env.kindOf n==b3 .cell)=b8
  ·rw[if_pos hc]at h
   by_cases a:x=n
   ·subst a
    have c:k=.free:=by simp only[Af]at hc;exact beq_iff_eq.mp hc.1.1
    subst c;exact .inl Bb
   ·have b:(x==n)=ba:=beq_eq_false_iff_ne.mpr a
    simp only[Cn,b]at h;rcases V3 (env:=env) h with z|z
    ·exact .inl (Aq _ z)
    ·exact .inr (Aq _ z)
  ·rw[if_neg hc]at h
   by_cases a:x=n
   ·subst a
    rw[Dz]at h;rcases h with z|z
    ·cases z;exact .inr Bb
    ·cases z;exact .inl Bb
   ·have b:(x==n)=ba:=beq_eq_false_iff_ne.mpr a
    simp only[Cn,b]at h;rcases V3 (env:=env) h with z|z
    ·exact .inl (Aq _ z)
    ·exact .inr (Aq _ z)
def KM{X:Cx}{aa:List (Ud×Uq)}{σ:St}{H2:Hp}{a:Ae}{E:Uc->Ae->Prop}{tg iter elt:Uj}{ifs:List Uj}{scope:Ut}{pos:Pos}{N':List Ug}{ix:List Nat}{nl:Nat}{g:TG}{tt:TT}{te:TE}{cl:List (Ug×Ud)}{J:It}{fp:List Ud}{it:Ud}{tn:Nat->Um->Prop}{Q:V->Hp->Prop}{RR:Uc->Ud->Oe->Ae->Prop}(hc:X.calm=b8)(S:QV X N' ix scope)(hnl:N'.length=ix.length+nl)(bz:∀x c,cl.lookup x=b3 c->X.env.cells.lookup x=b3 c)(fu:∀x,(x,Bt)∈scope.names->∃c,cl.lookup x=b3 c)(blk:∀(cl:List (Ug×Ud)) (s1:Ae) (H1:Hp) (fp:List Ud),Blk (aF X N' scope cl s1 H1 fp) tg ifs elt g tt te)(I2:bM X aa σ H2 a)(T:D8 X.prog X.w X.K tg J fp it tn)(st2:tn 0 a.heap)(f2:∀b∈fp,NB X aa H2 b)(h:∀D,H2 D=b4->Wd D ix nl J g tt te σ H2 λH'=>Q (.ref D) H')(fin:∀(D C:Ud) (s':Ae) (H':Hp),bM X aa σ H' s'->(∃m,s'.heap.Ns C m)->C≠X.env.locals->(∀x c,X.env.cells.lookup x=b3 c->c≠C)->(∀(s:St) (R:Ae) (h'':Um),bM X aa s H' R->Fa C R.heap h''->bM X aa s H' {R with heap:=h''})->Q (.ref D) H'->RR (.ref D) C (.ok .next) s'):Ue (Uf X.prog X.w) X.A (Sx []) (λacc B=>Ue (Uf X.prog X.w) X.A (Ks scope X.env.globals cl [] X.env.qual b4 .none (b3 X.env)) (λgb s₄=>Fl (Uf X.prog X.w) X.A (.compStart (.ListComp elt [⟨tg,iter,ifs,0⟩] scope pos) 0 (.ref it) acc {gb with scope:=relabel scope X.env}) (RR acc gb.locals) s₄) E B) E a:=by
 refine Dh (M3 ?_);dsimp only;have k:bM X aa σ (upd H2 a.heap.objs.size (.lst [])) {a with heap:=a.heap.push {cls:=.type "list",dict:=b4,data:=.seq ([]:List Uc).toArray}}:=
  I2.lnew (t':=a.toks) (ys:=[]) (its:=[]) .nil (Dm _)
 have hDn:H2 a.heap.objs.size=b4:=I2.hok.fresh (Am _);obtain⟨W,⟨m0,w0⟩,turn⟩:=h _ hDn;generalize hs1:({a with heap:=a.heap.push {cls:=.type "list",dict:=b4,data:=.seq ([]:List Uc).toArray}}:Ae)=s1 at k;have cq:a.heap.push {cls:=.type "list",dict:=b4,data:=.seq ([]:List Uc).toArray}=s1.heap:=by rw[<-hs1]
 rw[cq];have I:∀b o,s1.heap.get? b=b3 o->(La (s1.heap.push {cls:=.type "dict",data:=.dict #[]}) scope.names).get? b=b3 o:=λb o e=>Jy _ _ _ _ (Ad _ e);have H:(La (s1.heap.push {cls:=.type "dict",data:=.dict #[]}) scope.names).Ns s1.heap.objs.size (λ_=>b4):=(Tw s1.heap (.type "dict")).keeps λb o e=>Jy _ _ _ _ e;have M:=cellsFrom_ok scope.names (s1.heap.push {cls:=.type "dict",data:=.dict #[]}) (s1.heap.objs.size+1) [] ⟨λ_ _ hm=>(nomatch hm),Ky⟩ (by rw[Cm];exact Am _);rw[Cm]at M;generalize hz1:La (s1.heap.push {cls:=.type "dict",data:=.dict #[]}) scope.names=F at I H M;rw[RJ];generalize hnc:Us (s1.heap.objs.size+1) scope.names []=t at M;have G:∀x c,t.lookup x=b3 c->(x,Ca)∈scope.names/\F.IsCell c b4/\s1.heap.objs.size+1<=c:=λx c e=>by have hm:=Bv e;exact⟨GH (n:=s1.heap.objs.size+1) (by rw[hnc];exact hm),M.empty x c hm⟩
 have nch:∀x,(x,Ca)∈scope.names->∃c,t.lookup x=b3 c:=λx h=>by obtain⟨c,hc⟩:=GG (n:=s1.heap.objs.size+1) h;rw[hnc]at hc;exact QA hc
 have dj:∀b∈fp,b<a.heap.objs.size:=λb f=>by obtain⟨o,e,_⟩:=T.obj _ _ st2 b f;exact Al e
 have eu:s1.heap.objs.size=a.heap.objs.size+1:=by rw[<-cq,Cm]
 have gn:∀b o,a.heap.get? b=b3 o->s1.heap.get? b=b3 o:=λb o e=>by rw[<-cq];exact Ad _ e
 have cr:∀x c,cl.lookup x=b3 c->c<s1.heap.objs.size:=λx c e=>by obtain⟨v,q⟩:=k.cell x c (bz x c e);exact q.lt
 have j8:∀b∈SK X.stack,b<s1.heap.objs.size:=λb f=>by obtain⟨_,o,ho,_⟩:=(k.stack).mem f;exact Al ho
 have U:(aF X N' scope (t++cl) s1 (upd H2 a.heap.objs.size (.lst [])) fp).Ok:=by
  refine⟨k.ok.mod,S.kind,k.ok.glob,k.ok.blt,Am _,λx y c e1 P=>?_,λx hx=>?_,λx c hf e=>?_,k.ok.hd,k.ok.frames,.inl rfl,λb f=>⟨?_,λx c e=>?_⟩,λb o e=>?_,Dj k.ok.bsz k.sz,λb o e f=>?_,λb f hb2=>?_,k.stack,k.stkFree⟩
  ·rcases ZQ e1 with n1|⟨_,o1⟩
   ·rcases ZQ P with n2|⟨_,o2⟩
    ·exact Om M.apart (Bv n1) (Bv n2)
    ·exact absurd (Ay (cr y c o2) (Eo (G x c n1).2.2)) (Bu _)
   ·rcases ZQ P with n2|⟨_,o2⟩
    ·exact absurd (Ay (cr x c o1) (Eo (G y c n2).2.2)) (Bu _)
    ·exact k.ok.inj x y c (bz x c o1) (bz y c o2)
  ·cases q:t.lookup x with
   |some c=>exact⟨c,WJ q⟩
   |none=>
    rcases V3 hx with h|h
    ·obtain⟨c,hc⟩:=fu x h
     exact⟨c,(VC q).trans hc⟩
    ·obtain⟨c,hc⟩:=nch x h
     rw[q]at hc;cases hc
  ·have hx:(x,Ca)∈scope.names:=Bv (beq_iff_eq.mp hf)
   obtain⟨c',O⟩:=nch x hx;have:=WJ (m:=cl) O
   have e:(t++cl).lookup x=b3 c:=e;rw[this]at e;cases e;exact Eo (G x c O).2.2
  ·exact Bf (Ay (dj b f) (by show a.heap.objs.size<=s1.heap.objs.size;rw[eu];exact Em _))
  ·rcases ZQ e with n1|⟨_,o1⟩
   ·have h1:=dj b f
    have h2:=(G x c n1).2.2;rw[eu]at h2;exact λz=>absurd (z▸h2) (Qq (Ay h1 (Dj (Em _) (Em _))))
   ·exact(f2 b f).2.2.2.2.1 x c (bz x c o1)
  ·exact k.bs b o e
  ·have:=(f2 b f)
   obtain⟨o',e',_⟩:=T.obj _ _ st2 b f;have hlt:=Ay (Al e) k.ok.bsz;rcases this.2.2.2.1 with z|z
   ·exact k.ok.noex b o e z
   ·exact absurd (Ay hlt z) (Bu _)
  ·rcases Ai.mp (k.stkSub b hb2)with z|z
   ·exact(f2 b f).2.1 z
   ·exact(f2 b f).2.2.1 z
 have da:(ZN ix σ++Ax nl b4).length=N'.length:=by rw[By,Ix,hnl];simp[ZN]
 have IY:bM (aF X N' scope (t++cl) s1 (upd H2 a.heap.objs.size (.lst [])) fp) [] (ZN ix σ++Ax nl b4) (upd H2 a.heap.objs.size (.lst [])) {a with heap:=F}:=by
  refine⟨U,?_,I2.bare,Un.kept I,⟨_,H,λj x v e1 P e3=>?_⟩,λx c e=>?_,k.hok.fresh (Am _),λx c e=>?_,λp hp=>absurd (show p∈([]:List (Ud×Uq)) from hp) (by simp),k.hok.kept I,da⟩
  ·show a.os=s1.os
   rw[<-hs1]
  ·have Y:j<ix.length:=by
    by_cases Y:j<ix.length
    ·exact Y
    ·exfalso
     have hl:(ZN ix σ).length=ix.length:=by simp[ZN]
     rw[Bi (by rw[hl];lia),Cs]at P;split at P<;>cases P
   have hl:(ZN ix σ).length=ix.length:=by simp[ZN]
   rw[Ak (by rw[hl];exact Y)]at P;have hci:=S.cap j Y;obtain⟨i,hi⟩:∃i,ix[j]?=b3 i:=⟨ix[j],by simp[Y]⟩;rw[hi]at hci;have hNi:X.N[i]?=b3 x:=by
    have:N'[j]?=X.N[i]? :=hci
    rw[<-this];exact e1
   have hσ:σ[i]?=b3 (b3 v):=by
    unfold ZN at P;rw[Di,hi]at P;have Z:(σ[i]?).join=b3 v:=by simpa using P
    cases q:σ[i]? with
    |none=>rw[q]at Z;cases Z
    |some o=>rw[q]at Z;rw[show o=b3 v from Z]
   have hfl:scope.names.lookup x=b3 .free:=S.capf x (by rw[Ja];exact⟨j,by rw[Cj Y];exact e1⟩)
   have bq:(x,Bt)∈scope.names:=Bv hfl;have hpk:X.env.kindOf x=b3 .cell∨X.env.kindOf x=b3 .free:=by exact S.free (x,.free) bq rfl
   have gv:Vis X.env.scope x:=by
    rcases hpk with z|z
    ·exact .inr (.inl z)
    ·exact .inr (.inr z)
   obtain⟨m,hn,i3⟩:=k.loc;obtain⟨u,ru,l⟩:=i3 i x v hNi hσ gv;refine⟨u,ru,?_⟩;rcases l with⟨hk,_⟩|⟨hk,c,ec,z⟩
   ·rcases hpk with q|q<;>rw[hk]at q<;>cases q
   ·obtain⟨c',O⟩:=fu x bq
    have:c'=c:=by
     have:=bz x c' O
     rw[ec]at this;exact(Cq this).symm
    subst this;have gy:t.lookup x=b4:=by
     cases q:t.lookup x with
     |none=>rfl
     |some d=>
      have:=S.cel (x,.cell) (G x d q).1 rfl
      rw[hfl]at this;cases this
    refine .inr ⟨T0 hfl,c',(VC gy).trans O,?_⟩
    ·obtain⟨o,ho,hd⟩:=z
     exact⟨o,I _ _ ho,hd⟩
  ·rcases ZQ e with n1|⟨_,o1⟩
   ·exact⟨b4,(G x c n1).2.1⟩
   ·obtain⟨v,o,ho,hd⟩:=k.cell x c (bz x c o1)
    exact⟨v,o,I _ _ ho,hd⟩
  ·rcases ZQ e with n1|⟨_,o1⟩
   ·exact k.hok.fresh (Eo (G x c n1).2.2)
   ·exact k.freeC x c (bz x c o1)
 have back:∀{pY:List (Ud×Uq)}{s:St}{H':Hp}{s':Ae},bM (aF X N' scope (t++cl) s1 (upd H2 a.heap.objs.size (.lst [])) fp) pY s H' s'->bM X aa σ H' s':=λ{pY s H' s'} J'=>
  k.call' J'.os J'.base J'.hok J'.bare λb f=>⟨(f2 b f).2.2.2.1,(f2 b f).2.1,(f2 b f).2.2.2.2.1,(f2 b f).2.2.2.2.2⟩
 have stat:∀{H':Hp}{pY:List (Ud×Uq)},(∀b∈fp,H' b=b4)->pY=[]->∀b∈fp,NB (aF X N' scope (t++cl) s1 (upd H2 a.heap.objs.size (.lst [])) fp) pY H' b:=λ{H' pY} hn hp b f=>by subst hp;refine⟨hn b f,(U.exf b f).1,U.exfs b f,.inl f,(U.exf b f).2,λp hp=>absurd (show p∈([]:List (Ud×Uq)) from hp) (by simp)⟩
 have st1:tn 0 F:=T.keep 0 a.heap F st2 λb f o e=>I b o (gn b o e);have fr1:∀b∈fp,(upd H2 a.heap.objs.size (.lst [])) b=b4:=λb f=>by rw[bA (Bf (dj b f))];exact(f2 b f).1
 have loop:∀B:Ae,B={a with heap:=F}->
   Fl (Uf X.prog X.w) X.A (.compLoop (.ListComp elt [⟨tg,iter,ifs,0⟩] scope pos) 0 (.ref it) (.ref a.heap.objs.size) (Ra scope (t++cl) s1.heap.objs.size X.env)) (RR (.ref a.heap.objs.size) s1.heap.objs.size) B:=by
  rintro B rfl;refine nV (λn s'=>∃i s H' acc,bM (aF X N' scope (t++cl) s1 (upd H2 a.heap.objs.size (.lst [])) fp) [] s H' s'/\s.take ix.length=ZN ix σ/\tn i s'.heap/\(∀b∈fp,H' b=b4)/\W i n acc H') ?_ m0
   ⟨0,_,_,[],IY,by rw[Co (by simp[ZN])];exact Cf (by simp[ZN]),st1,fr1,w0⟩
  rintro n s' ⟨i,s,H',acc,J',hσ,st',fr',w'⟩;have Jc:bM (aF X N' scope (t++cl) s1 (upd H2 a.heap.objs.size (.lst [])) fp) [] (ZN ix σ++Ax nl b4) H' s':=by
   refine J'.weak (by rw[da];exact J'.len.symm) λj v e=>?_;have hl:(ZN ix σ).length=ix.length:=by simp[ZN]
   by_cases Y:j<ix.length
   ·rw [Ak (by rw [hl];exact Y),<- hσ,Cj Y]at e
    exact e
   ·rw [Bi (by rw [hl];lia),Cs]at e
    split at e<;>cases e
  rcases turn i n acc H' w' with⟨stop,q⟩|⟨go,N,hN,step⟩
  ·refine At (T.done (aF X N' scope (t ++ cl) s1 (upd H2 a.heap.objs.size (.lst [])) fp) rfl rfl rfl hc i [] s' _ H' (λ_ _ => False) Jc (stat fr' rfl) st' stop) (λr s4 ⟨hr,I4⟩ => ?_) λ_ _ z => z
   subst hr;have IX:=back I4;obtain⟨m,hm,_⟩:=I4.loc;exact fin _ _ s4 H' IX ⟨m,hm⟩ (Go k.lt) (λx c e z=>by
    obtain⟨v,q⟩:=k.cell x c e;have:=q.lt
    rw[z]at this;exact Bu _ this) (λσ'' R h'' I'' sb=>bM.offNew k I'' I4.free λb o f e=>(sb.2 b f).trans e) q
  ·refine At (T.item (aF X N' scope (t ++ cl) s1 (upd H2 a.heap.objs.size (.lst [])) fp) rfl rfl rfl hc i [] s' _ H' (λ_ _ => False) Jc (stat fr' rfl) st' go) (λr s4 ⟨u,hr,h4⟩ => ?_) λ_ _ z => z
   subst hr;refine At h4 (λ_ s5 ⟨x,H5,I5,r5,y5,st5,fr5⟩=>?_) λ_ _ z=>z;have I5':=I5.pinned (stat fr5 rfl) (T.obj _ _ st5);obtain⟨btg,bts,bel⟩:=blk (t++cl) s1 (upd H2 a.heap.objs.size (.lst [])) fp;refine At (btg _ s5 _ H5 x u _ I5' r5 (step x H5 y5)) (λ_ s6 ⟨L,H6,I6,hσ6,q6⟩=>?_) λ_ _ z=>z;have again:∀{H7:Hp}{s7:Ae}{al:List V},bM (aF X N' scope (t++cl) s1 (upd H2 a.heap.objs.size (.lst [])) fp) ([]++QD fp s5.heap) L H7 s7->N al H7->
     ∃m,m<n/\∃i s H' acc,bM (aF X N' scope (t++cl) s1 (upd H2 a.heap.objs.size (.lst [])) fp) [] s H' s7/\s.take ix.length=ZN ix σ/\tn i s7.heap/\(∀b∈fp,H' b=b4)/\W i m acc H':=λ{H7 s7 al} I7 n7=>by
    obtain⟨m',hm,w7⟩:=hN al H7 n7;refine⟨m',hm,i+1,L,H7,al,I7.unpinned,hσ6,T.keep _ _ _ st5 λb f o e=>(I7.pin (b,o) (Aw _ (Aw _ (X7 f e)))).1,λb f=>?_,w7⟩;obtain⟨o,e,d⟩:=T.obj _ _ st5 b f;exact(I7.pin (b,o) (Aw _ (Aw _ (X7 f e)))).2.1
   refine At (bts _ s6 L H6 _ I6 q6) (λokb s7 ⟨H7,I7,q7⟩=>?_) λ_ _ z=>z;cases okb with
   |false=>exact again I7 q7
   |true=>
    refine At (bel _ s7 L H7 _ I7 q7) (λv s8 ⟨y,H8,I8,r8,hD8,hz8,n8⟩=>?_) λ_ _ z=>z;refine At (aQ (X:=aF X N' scope (t++cl) s1 (upd H2 a.heap.objs.size (.lst [])) fp) _ s8 L H8 (.ref a.heap.objs.size) [y] (.ref a.heap.objs.size) [v] (λ_ H9=>N (acc++[y]) H9) I8 rfl (.cons r8 .nil)
     ⟨a.heap.objs.size,acc,y,rfl,rfl,hD8,hz8,n8⟩) (λ_ s9 ⟨_,H9,I9,_,n9⟩=>again I9 n9) λ_ _ z=>z
 have he:({newEnv scope s1.heap.objs.size X.env.globals (t++cl) X.env.qual b4 .none (b3 X.env) builtinsNs with scope:=relabel scope X.env}:Env)=Ra scope (t++cl) s1.heap.objs.size X.env:=rfl;exact Mf (loop _ rfl) (T.self _ 0 _ _ _ st1 (loop _ rfl))
def lO{X:Cx}{tg iter d:Uj}{a:List Uj}{scope:Ut}{pos:Pos}{N':List Ug}{ix:List Nat}{nl:Nat}{l:TI}{g:TG}{n:TT}{te:TE}(hc:X.calm=b8)(S:QV X N' ix scope)(i:N'.length=ix.length+nl)(hi:PI X tg iter l)(k:∀(cl:List (Ug×Ud)) (s1:Ae) (H1:Hp) (fp:List Ud),Blk (aF X N' scope cl s1 H1 fp) tg a d g n te)(hs:∀x,Uo iter X.env x=pure x:=by intro _;rfl):PE X (.ListComp d [⟨tg,iter,a,0⟩] scope pos) (FU ix nl l g n te):=by intro aa s σ H Q I h;rw[eval_ListComp];obtain⟨cl,K,G,F⟩:=GK (env:=X.env) (scope:=scope) λy t v=>I.ok.has y.1 (S.free y t v);refine Hn (use:=b4) (cl:=cl) rfl hs K S.kind S.names (At (hi aa s σ H _ I h) (λN p c=>At c (λr o b=>?_) λ_ _ e=>e) λ_ _ e=>e);obtain⟨it,fp,O,J,H2,e,L,T,f,f2,q⟩:=b;subst e;refine KM (Q:=Q) (RR:=λacc C=>compPost (Uf X.prog X.w) X.A X.xe b4 (EP X aa σ Q) acc C) hc S i G F k L T f f2 q ?_;intro D C s' H' M j E B z u;obtain⟨m,j⟩:=j;exact⟨m,j,λh'' sb=>⟨.ref D,H',z σ s' h'' M sb,rfl,u⟩⟩
section
variable{X:Cx}{K:Aj}{ml:List Nat}{pi pt pe pu:Bool}{pos:Pos}{ix:List Nat}{nl:Nat}{f:VF}
noncomputable def NF(N N':List Ug)(ix:List Nat)(names:List (Ug×Uu))(k:Ug->Option Uu):Bool:=
 names.all (λy=>y.2 != .cell || names.lookup y.1==b3 .cell)&&(names.all (λy=>y.2 != .local || names.lookup y.1==b3 .local)&&(names.all (λy=>y.2 != .free || (k y.1==b3 .cell || k y.1==b3 .free)) &&
  (decide N'.Nodup&&((Az ix.length).all (λj=>N'[j]? ==(ix[j]?).bind λi=>N[i]?)&&(N'.take ix.length).all λx=>names.lookup x==b3 .free))))
def WM{N':List Ug}{scope:Ut}(b:scope.kind=.function)(h:NF X.N N' ix scope.names X.env.kindOf=b8):QV X N' ix scope:=by unfold NF at h;simp only[Af,Eh,Ic,bne_iff_ne,beq_iff_eq,decide_eq_true_eq,Cv]at h;obtain⟨h1,h2,g,f,d,c⟩:=h;exact⟨b,λy a e=>(h1 y a).resolve_left λz=>z e,λy a e=>(h2 y a).resolve_left λz=>z e,λy a e=>(g y a).resolve_left λz=>z e,f,d,c⟩
abbrev BlkC(X:Cx)(K:Aj)(N':List Ug)(ix:List Nat)(scope:Ut)(tg:Uj)(a:List Uj)(b:Uj)(gg:VG)(pt:Bool)(tb:VB)(pe:Bool)(fe:VF):Prop:=N'.Nodup->∀(cl:List (Ug×Ud)) (s1:Ae) (H1:Hp) (fp:List Ud),Blk (aF X N' scope cl s1 H1 fp) tg a b (TGV K (Az ix.length) gg) (TB K (Az ix.length) pt tb) (TV K (Az ix.length) pe b8 b8 fe)
def ZM{tg iter c:Uj}{a:List Uj}{scope:Ut}{fi:VI}{gg:VG}{tb:VB}{fe:VF}(N':List Ug)(ix:List Nat)(nl:Nat)(hi:PI X tg iter (TIV K ml pi fi))(e:BlkC X K N' ix scope tg a c gg pt tb pe fe)(hc:X.calm=b8:=by rfl)(f:scope.kind=.function:=by rfl)(b:NF X.N N' ix scope.names X.env.kindOf=b8:=by rfl)(d:N'.length=ix.length+nl:=by rfl)(hnd:ix.Nodup:=by decide)(hs:∀x,Uo iter X.env x=pure x:=by intro _;rfl):PE X (.ListComp c [⟨tg,iter,a,0⟩] scope pos) (TN K ml (pi&&pt&&pe) (ZD ix nl fi gg tb fe)):=
 (lO hc (WM f b) d hi (e (WM f b).nd) hs).imp λ_ _ _ h=>BW hnd h
def FI{i:Nat}{y:Ug}{d U:Pos}{tg iter c:Uj}{b:List Uj}{scope:Ut}{N':List Ug}{M:TI}{g:TG}{O:TT}{te:TE}(hN:X.N.Nodup)(B:X.N[i]?=b3 y)(k:X.env.scope.names.lookup y=b3 .local)(hc:X.calm=b8)(S:QV X N' ix scope)(t:N'.length=ix.length+nl)(hi:PI X tg iter M)(K:∀(cl:List (Ug×Ud)) (s1:Ae) (H1:Hp) (fp:List Ud),Blk (aF X N' scope cl s1 H1 fp) tg b c g O te)(o:Ur (.ListComp c [⟨tg,iter,b,0⟩] scope pos) (b3 (.Name y d)) U.line X.env=pure b8:=by rfl)(hs:∀x,Uo iter X.env x=pure x:=by intro _;rfl):PS X (.Assign [.Name y d] (.ListComp c [⟨tg,iter,b,0⟩] scope pos) U) (tAsg (FU ix nl M g O te) (EO i)):=by
 intro aa s σ H D I h;rw[Mt _ _ _ _ o];refine Aa (Dn (Aa ?_));show Ue _ X.A (do let _<-comprehension (.ListComp c [⟨tg,iter,b,0⟩] scope pos) scope X.env _ (Sx []) ba (eval iter X.env) (b3 (Fk (.Name y d) X.env))) _ _ s;obtain⟨cl,e1,e2,e3⟩:=GK (env:=X.env) (scope:=scope) λy k Y=>I.ok.has y.1 (S.free y k Y);refine Aa (At (Hn (use:=b3 (Fk (.Name y d) X.env)) (cl:=cl) (Q:=λ_ s'=>SP X aa D .next s') rfl hs e1 S.kind S.names
  (At (hi aa s σ H _ I h) (λxv R j=>At j (λW P f=>?_) λ_ _ e=>e) λ_ _ e=>e)) (λ_ s' r=>Ah (Ah r)) λ_ _ e=>e)
 obtain⟨it,fp,tn,J,H2,e,I2,T,l,f2,q⟩:=f;subst e;refine KM (Q:=λv H'=>D.nx (σ.set i (b3 v)) H') (RR:=λacc C=>compPost (Uf X.prog X.w) X.A X.xe (b3 (Fk (.Name y d) X.env)) (λ_ s'=>SP X aa D .next s') acc C) hc S t e2 e3 K I2 T l f2 q ?_;intro V C s' H' I' u G F Z r;obtain⟨m,u⟩:=u;show Ue _ X.A (Fk (.Name y d) X.env (.ref V)) _ _ _;refine Gx (NY I' hN B (.inl k) (v:=.ref V) rfl (λn L ⟨a,p,ha⟩=>?_) (.inr k));have E:C≠a:=by
  rcases ha with z|z
  ·rw[z];exact G
  ·exact Ck (F y a z)
 exact⟨m,u.sameBut p E,λh'' sb=>⟨_,H',Z _ n h'' L sb,r⟩⟩
def LR{i:Nat}{y:Ug}{j l:Pos}{tg iter b:Uj}{a:List Uj}{scope:Ut}{fi:VI}{gg:VG}{tb:VB}{fe:VF}(o:Bool)(p:X.N.Nodup)(N':List Ug)(ix:List Nat)(nl:Nat)(hi:PI X tg iter (TIV K ml pi fi))(g:BlkC X K N' ix scope tg a b gg pt tb pe fe)(f:X.N[i]?=b3 y:=by rfl)(m:X.env.scope.names.lookup y=b3 .local:=by rfl)(hc:X.calm=b8:=by rfl)(k:scope.kind=.function:=by rfl)(c:NF X.N N' ix scope.names X.env.kindOf=b8:=by rfl)(e:N'.length=ix.length+nl:=by rfl)(hnd:ix.Nodup:=by decide)(n:i∉ml:=by decide)(d:Ur (.ListComp b [⟨tg,iter,a,0⟩] scope pos) (b3 (.Name y j)) l.line X.env=pure b8:=by rfl)(hs:∀x,Uo iter X.env x=pure x:=by intro _;rfl):PS X (.Assign [.Name y j] (.ListComp b [⟨tg,iter,a,0⟩] scope pos) l) (U7 K ml (ZZ i (if o then xO (ZD ix nl fi gg tb fe)else xV (ZD ix nl fi gg tb fe)))):=
 (FI p f m hc (WM k c) e hi (g (WM k c).nd) d hs).imp λD σ H h=>DS (λσ H Q z=>BW hnd (Ve (pu:=pi&&pt&&pe) z)) n h
end
section
variable{X:Cx}{K:Aj}{ml:List Nat}{e a b c:Uj}{es:List Uj}{pi pt pe pu bt bi ps bs:Bool}{f:VF}{B B':Bs}{O:Nat->Option Ud}{H H0 H1 H':Hp}{σ:St}{δ δ':Ev}{v:V}{d:cF}{p:Ud}{pos:Pos}{ix:List Nat}{nl:Nat}
def k8(K:Aj)(N:Ud->Prop)(J:It)(H:Hp)(ds:List cF):Prop:=∃xs:List V,bD K N H xs ds/\∀H2,Z6 H H2->(∀(i:Nat) (x:V),xs[i]?=b3 x->J.go i H2/\∀y a,J.yld i H2 y a->a=H2/\y=x)/\J.stop xs.length H2
inductive Yv(K:Aj)(ml:List Nat)(f:VI)(σ:St)(H:Hp)(R:It->Hp->Prop):Prop
 |mk (B:_) (O:_) (δ:_) (ds:_) (δ':_) (h0:ZX K ml B O H σ δ) (h1:f δ=b3 (ds,δ')) (h2:∀J H',ZX K ml B O H' σ δ'->Z6 H H'->k8 K (Nn B O) J H' ds->R J H'):Yv K ml f σ H R
def TIVp(K:Aj)(ml:List Nat)(f:VI):TI:=λσ H R=>Yv K ml f σ H R
def Zo{fi:VI}{gg:VG}{tb:VB}{fe:VF}(hnd:ix.Nodup){Q:VK}(h:TN K ml b8 (ZD ix nl fi gg tb fe) σ H Q):FU ix nl (TIVp K ml fi) (TGV K (Az ix.length) gg) (TB K (Az ix.length) b8 tb) (TV K (Az ix.length) b8 b8 b8 fe) σ H Q:=by obtain⟨B,O,δ,ds,δ',S,e,k⟩:=FW (pi:=b8) (pt:=b8) (pe:=b8) hnd h;refine⟨B,O,δ,ds,δ',S,e,λJ H' m p w=>?_⟩;obtain⟨b,a,c⟩:=w;refine k J (b.zip ds) H' (m.keepV (T4 a)) p.fr (λ_=>p) λN H1 z f=>⟨λi d hd=>?_,by rw[<-a.length];exact(c H1 (f rfl)).2⟩;obtain⟨x,j,l⟩:=(T1 a.length z).get hd;have w:=(c H1 (f rfl)).1 i x j;exact⟨w.1,λy n g=>by obtain⟨rfl,rfl⟩:=w.2 y n g;exact⟨.refl _,l⟩⟩
def Z6.sqT{a:Ud}{xs:List V}(s:Z6 H H')(h:U6 K H a xs):U6 K H' a xs:=Fr.tup (P:=λ_=>False) s.fr h
def jw{tg:Uj}(n:X.K=K)(h:PE X e (TV K ml b8 bt bi f))(o:bi=b8:=by rfl):PI X tg e (TIVp K ml (W7 f)):=by
 subst o;refine((Xe (K:=K) n h).or (Xf (K:=K) n h)).imp λσ H R g=>?_;obtain⟨B,O,δ,ds,δ',S,q,k⟩:=g;unfold W7 at q;obtain⟨⟨x,δ1⟩,h1,q⟩:=Ac.mp q;cases x with
 |lst m=>
  cases q;refine .inl ⟨B,O,δ,_,δ1,S,h1,λv H1 c=>?_⟩;obtain⟨a,xs,rfl,sq,r⟩:=c.rep.lstE;refine⟨a,rfl,⟨xs,sq⟩,k _ H1 c.sta (c.pur rfl) ⟨xs,r,λH2 b=>⟨λi x ex=>⟨⟨xs,x,b.seq sq,ex⟩,λy p d=>?_⟩,xs,b.seq sq,Am _⟩⟩⟩;obtain⟨l,j⟩:=d;have:=j xs (b.seq sq)
  rw[ex]at this;cases this;exact⟨l,rfl⟩
 |tup m=>
  cases q;refine .inr ⟨B,O,δ,_,δ1,S,h1,λv H1 c=>?_⟩;obtain⟨a,xs,rfl,sq,r⟩:=c.rep.tupE;refine⟨a,rfl,⟨xs,sq⟩,k _ H1 c.sta (c.pur rfl) ⟨xs,r,λH2 b=>⟨λi x ex=>⟨⟨xs,x,b.sqT sq,ex⟩,λy p d=>?_⟩,xs,b.sqT sq,Am _⟩⟩⟩;obtain⟨l,j⟩:=d;have:=j xs (b.sqT sq)
  rw[ex]at this;cases this;exact⟨l,rfl⟩
 |_=>cases q
def oF{i:Nat}{y:Ug}{j l:Pos}{tg iter b:Uj}{a:List Uj}{scope:Ut}{fi:VI}{gg:VG}{tb:VB}{fe:VF}(o:Bool)(q:X.N.Nodup)(N':List Ug)(ix:List Nat)(nl:Nat)(hi:PI X tg iter (TIVp K ml fi))(g:BlkC X K N' ix scope tg a b gg pt tb pe fe)(f:X.N[i]?=b3 y:=by rfl)(m:X.env.scope.names.lookup y=b3 .local:=by rfl)(hc:X.calm=b8:=by rfl)(k:scope.kind=.function:=by rfl)(c:NF X.N N' ix scope.names X.env.kindOf=b8:=by rfl)(e:N'.length=ix.length+nl:=by rfl)(hnd:ix.Nodup:=by decide)(n:(pt&&pe)=b8:=by rfl)(p:i∉ml:=by decide)(d:Ur (.ListComp b [⟨tg,iter,a,0⟩] scope pos) (b3 (.Name y j)) l.line X.env=pure b8:=by rfl)(hs:∀x,Uo iter X.env x=pure x:=by intro _;rfl):PS X (.Assign [.Name y j] (.ListComp b [⟨tg,iter,a,0⟩] scope pos) l) (U7 K ml (ZZ i (if o then xO (ZD ix nl fi gg tb fe)else xV (ZD ix nl fi gg tb fe)))):=by obtain⟨h1,h2⟩:=(Af _ _).mp n;subst h1 h2;exact(FI q f m hc (WM k c) e hi (g (WM k c).nd) d hs).imp λD σ H h=>DS (λσ H Q z=>Zo hnd (Ve (pu:=b8) z)) p h
end
section
variable{X:Cx}{K:Aj}{ml:List Nat}{e a b c:Uj}{es:List Uj}{pa ta ia pb tb ib pc tc ic pu bt bi ps bs:Bool}{fa fb fc f:VF}{B B':Bs}{O:Nat->Option Ud}{H H1 H':Hp}{σ:St}{δ δ':Ev}{v:V}{d:cF}{p:Ud}{pos:Pos}
structure N9(K:Aj)(x qual:Ug)(st:Up)(dV:Uc)(f:Ud)(fd:Cr):Prop where
 ex:∃(oc:Uc) (od:Option Ud) (kV doc pm:Uc) (an:Option Ud) (cdv ct:Uc) (osl:Array (Option Uc)),
  fd=Je x qual (YT st) (aC st) (bX st) dV kV doc pm an cdv ct/\K.lookup f=b3 ⟨oc,od,.func fd,osl⟩/\Lj K cdv qual=b8
 kp:Hx K (.ref f)=b8
def L9{x qual:Ug}{st:Up}{e:Uc}{f:Ud}{h:Uc}{od g:Option Ud}{b:Array (Option Uc)}{kV doc d a ct:Uc}(l:K.lookup f=b3 ⟨h,od,.func (Je x qual (YT st) (aC st) (bX st) e kV doc d g a ct),b⟩)(c:Lj K a qual=b8)(k:Hx K (.ref f)=b8):N9 K x qual st e f (Je x qual (YT st) (aC st) (bX st) e kV doc d g a ct):=⟨⟨h,od,kV,doc,d,g,a,ct,b,rfl,l,c⟩,k⟩
def N9.okV{P:Be}{w:Ul}{mg:Ug->Option Uc}{base:Um}{x qual:Ug}{st:Up}{m:Uc}{f:Ud}{fd:Cr}{N ps:List Ug}{k:Nat}{g:VS}(F:N9 K x qual st m f fd)(S:ZI N ps (bX st))(c:ps.length<=N.length)(n:∀(a:Uc) (A:Bx) (outer:List Env) (s:Ae) (H:Hp) (E:XK),X1 k (A.deeper (envOfC qual (bX st) s.heap.objs.size f a))->V6 (RK CX0 P w K mg base N qual (bX st) f a A outer s H E).nox (aC st) (U7 K ml g)):U4 P w K mg base CX0 (k+1) f fd ps (spV K ml ps.length (Z3 N.length ml g)):=by obtain⟨p,od,kV,doc,o,q,a,ct,e,rfl,i,d⟩:=F.ex;refine Vq i d S (λvs H Q E h=>?_) λA outer s H vs Q E j b=>⟨_,(n a A outer s H E j).nox,Vg c b⟩;obtain⟨Z,ds,r,os,l,AV,_⟩:=h;rw[AV.len,l]
def N9.binds{x qual:Ug}{st:Up}{T f:Ud}{fd:Cr}{ps:List Ug}{o:Uq}{its:Array Uc}{n m:Nat}{ds:List Uc}(F:N9 K x qual st (.ref T) f fd)(g:K.lookup T=b3 o)(hs:o.data=.seq its n)(h:∀(kV doc c:Uc) (d:Option Ud) (a ct:Uc) (b:List Uc),b.length=m->∃k,bindArgs (Je x qual (YT st) (aC st) (bX st) (.ref T) kV doc c d a ct) ⟨b,[]⟩=seqItems? (.ref T)>>=k/\k (b3 its)=pure (ps.zip (b++ds)))(q:m+ds.length=ps.length:=by rfl):RE K fd ps ds:=by obtain⟨l,od,kV,doc,c,d,a,ct,e,rfl,p,i⟩:=F.ex;intro s b j hl;obtain⟨k,h1,h2⟩:=h kV doc c d a ct b (by rw[By]at hl;lia);exact BindsTo.of_defaults rfl (j _ _ g) hs h1 h2
end
section
variable{X:Cx}{K:Aj}{ml:List Nat}{e a b c:Uj}{es:List Uj}{pa ta ia pb tb ib pc tc ic pu bt bi ps bs:Bool}{fa fb fc f:VF}{B B':Bs}{O:Nat->Option Ud}{H H1 H':Hp}{σ:St}{δ δ':Ev}{v:V}{d:cF}{p:Ud}{pos:Pos}
noncomputable def insD(i:Nat)(F:aJ):aJ:=λds=>(F (ds.take i++ .dct [] []::ds.drop i)).map λq=>(q.1,q.2.dropLast)
def N5.away{N N':Ud->Prop}{q:Ud}{o:HO}(b:H p=b4)(c:∀a,N' a->N a∨a=p)(w:N5 K N H q d):N5 K N' (upd H p o) q d:=by
 cases w with
 |lst q r=>exact .lst (bZ b _ _ q) ((r.away b _ _ c).same (bZ b))
 |dct q r=>exact .dct (bZ b _ _ q) ((r.away b _ _ c).same (bZ b))
def ng{mF:List Nat}{i:Nat}{F:aJ}{c:List V}{Q:VK}{E:XK}(s:∀j∈mF,j<i)(y:H p=b4)(h:spV K mF (i+1) (insD i F) (c++[v]) H Q E):spV K (mF++[i]) (i+2) F (c++[.ref p,v]) (upd H p (.dK [])) Q E:=by
 obtain⟨Z,ds,r,os,hl,A,J,k⟩:=h;obtain⟨l,d,rfl⟩:∃l d,ds=l++[d]:=⟨ds.dropLast,ds.getLast (λz=>by rw[z]at hl;cases hl),(Jk _).symm⟩;have n:l.length=i:=by simpa using hl
 have C:c.length=i:=by have:=A.len;simp at this;lia
 unfold insD at J;rw[List.take_left' n,List.drop_left' n]at J;obtain⟨⟨r',O⟩,h0,J⟩:=As.mp J;cases J;have lo:∀(j:Nat),j<i->(c++[.ref p,v])[j]?=(c++[v])[j]? :=λj g=>by rw[Ak (by lia),Ak (by lia)]
 have t:(c++[.ref p,v])[i]?=b3 (.ref p):=by rw[Bi (by lia),C,Mu];rfl
 have at2:(c++[.ref p,v])[i+1]?=b3 v:=by rw[Bi (by lia),C,show i+1-i=1 by lia];rfl
 have at3:(c++[v])[i]?=b3 v:=by rw[Bi (by lia),C,Mu];rfl
 have L:∀(j:Nat),j<i->(l++ .dct [] []::[d])[j]?=(l++[d])[j]? :=λj g=>by rw[Ak (by lia),Ak (by lia)]
 have dt1:(l++ .dct [] []::[d])[i]?=b3 (.dct [] []):=by rw[Bi (by lia),n,Mu];rfl
 have Y:(l++ .dct [] []::[d])[i+1]?=b3 d:=by rw[Bi (by lia),n,show i+1-i=1 by lia];rfl
 have X:(l++[d])[i]?=b3 d:=by rw[Bi (by lia),n,Mu];rfl
 have hP:∀a,OD (mF++[i]) (c++[.ref p,v]) a->OD mF (c++[v]) a∨a=p:=λa q0=>by
  obtain⟨j,g,e⟩:=q0;rcases Bq.mp g with g|g
  ·exact .inl ⟨j,g,by rw[<-lo j (s j g)];exact e⟩
  ·rw[Ar.mp g,t]at e
   cases e;exact .inr rfl
 have W:∀a,OD mF (c++[v]) a->OD (mF++[i]) (c++[.ref p,v]) a:=λa ⟨j,g,e⟩=>⟨j,Bm _ g,by rw[lo j (s j g)];exact e⟩;have U:∀a,Zp Z (mF++[i]) (c++[.ref p,v]) a->Zp Z mF (c++[v]) a∨a=p:=λa h=>by
  rcases h with h|h
  ·exact .inl (.inl h)
  ·exact(hP a h).imp .inr id
 have D:∀a,Zp Z mF (c++[v]) a->Zp Z (mF++[i]) (c++[.ref p,v]) a:=λa h=>h.imp id (W a);have up:∀{u:V}{x:cF},aD K (Zp Z mF (c++[v])) H (Zp Z mF (c++[v])) u x->aD K (Zp Z (mF++[i]) (c++[.ref p,v])) (upd H p (.dK [])) (Zp Z (mF++[i]) (c++[.ref p,v])) u x:=λr=>(r.away y _ _ U U).same (bZ y);have G:∀{j:Nat},j∈mF->(c++[v])[j]? ≠b3 (.ref p):=λ{j} g e=>by have hj':=A.mem j g;obtain⟨a,m,w,_⟩:=A.ow j ((l++[d])[j]'hj') g (by simp);rw[e]at m;cases m;obtain⟨o,q,_⟩:=w.soft;rw[y]at q;cases q
 refine⟨Z,l++ .dct [] []::[d],_,O,by simp[n],⟨by simp;lia,λj g=>?_,λj x g e=>?_,λj x g e=>?_,λP I a h1 h2 m B=>?_,λa h=>let ⟨o,q⟩:=A.zin a h;⟨o,bZ y _ _ q⟩⟩,h0,λu H' f w rr=>k u H' (λb o T hc=>f b o (bZ y _ _ T) λz=>?_) (λkk j a o m B M=>?_) (rr.mono D D)⟩
 ·rcases Bq.mp g with g|g
  ·have:=s j g
   simp;lia
  ·rw[Ar.mp g]
   simp;lia
 ·have R : j ∉ mF := λz => g (Bm _ z)
  have hji:j≠i:=λz=>g (Aw _ (Ar.mpr z));by_cases h1:j<i
  ·rw[L j h1]at e
   obtain⟨u,m,N⟩:=A.va j x R e;exact⟨u,by rw[lo j h1];exact m,up N⟩
  ·have S:j=i+1:=by
    have:=(Ag.mp e).1
    simp at this;lia
   subst S;rw[Y]at e;cases e;obtain⟨u,m,N⟩:=A.va i d (λz=>absurd (s i z) (Bu _)) X;rw[at3]at m;cases m;exact⟨v,at2,up N⟩
 ·rcases Bq.mp g with g|g
  ·rw[L j (s j g)]at e
   obtain⟨u,m,w1,z1⟩:=A.ow j x g e;exact⟨u,by rw[lo j (s j g)];exact m,w1.away y U,z1⟩
  ·have:=Ar.mp g
   subst this;rw[dt1]at e;cases e;exact⟨p,t,.dct (kvs:=[]) bK .nil,λz=>by obtain⟨o,q⟩:=A.zin p z;rw[y]at q;cases q⟩
 ·rcases Bq.mp h1 with h1|h1
  ·rw[lo P (s P h1)]at m
   rcases Bq.mp h2 with h2|h2
   ·rw[lo I (s I h2)]at B
    exact A.inj P I a h1 h2 m B
   ·rw[Ar.mp h2,t]at B
    cases B;exact absurd m (G h1)
  ·rcases Bq.mp h2 with h2|h2
   ·rw[lo I (s I h2)]at B
    rw[Ar.mp h1,t]at m;cases m;exact absurd B (G h2)
   ·rw[Ar.mp h1,Ar.mp h2]
 ·rcases hP b z with z|z
  ·exact hc z
  ·rw[z,y]at T
   cases T
 ·refine(w kk j a o ?_ ?_ ?_).mono D
  ·rw[Ak (Ag.mp m).1]
   exact m
  ·rw[lo j (s j (Ee m))]
   exact B
  ·rw[List.getElem?_dropLast]at M
   split at M
   ·exact M
   ·cases M
inductive Yh(K:Aj)(ml:List Nat)(pu:Bool)(f:QI)(σ:St)(H:Hp)(Q:List V->Hp->Prop):Prop
 |mk (B:_) (O:_) (δ:_) (as:_) (δ':_) (h0:ZX K ml B O H σ δ) (h1:f δ=b3 (as,δ')) (h2:∀vs H',ResG K ml B O H σ pu H' δ' vs as->∀vs1 v,vs=vs1++[v]->∀p,H' p=b4->Q (vs1++[.ref p,v]) (upd H' p (.dK []))):Yh K ml pu f σ H Q
def D6(K:Aj)(ml:List Nat)(pu:Bool)(f:QI):TA:=λσ H Q=>Yh K ml pu f σ H Q
def kT{j:Nat}{a:Pos}(h:PE X b (NZ j))(hs:Uh (.Dict [] [] a::b::[]) X.env=(ba,eval (.Dict [] [] a) X.env)::Uh (b::[]) X.env:=by rfl)(c:SE X b []:=by rfl):
  PA X [.Dict [] [] a,b] (D6 K ml b8 (aE (fV j) bO)):=(aW FG (aW h ZB c) hs).imp λσ H Q f=>by
 obtain⟨B,O,δ,as,δ2,S,q,k⟩:=f;unfold aE at q;obtain⟨z,h1,q⟩:=Ac.mp q;cases q;unfold fV at h1;split at h1
 ·rename_i d hd
  cases h1;intro p g;obtain⟨v,e,r⟩:=S.va j _ hd;exact⟨v,e,k [v] H ⟨S,Fr.refl _ _,λ_=>Z6.refl _,.d r .nil⟩ [] v rfl p g⟩
 ·cases h1
def kf{fs:QI}(m:PE X a (TV K ml pa b8 b8 fa))(j:PA X es (D6 K ml ps fs))(hs:SE X a es:=by rfl):PA X (a::es) (D6 K ml (pa&&ps) (aE fa fs)):=(aW m j hs).imp λσ H Q e=>by obtain⟨B,O,δ,as,δ2,S,q,k⟩:=e;unfold aE at q;obtain⟨⟨x,δ1⟩,h1,q⟩:=Ac.mp q;have q:((fs δ1).map λq=>(AV.d x::q.1,q.2))=b3 (as,δ2):=q;obtain⟨p2,h2,q⟩:=As.mp q;cases q;refine⟨B,O,δ,x,δ1,S,h1,λf H1 b=>⟨B,O,δ1,_,_,b.sta,h2,λvs H2 R2 c v i p l=>k (f::vs) H2 ⟨R2.sta,b.frm.trans R2.frm,λz=>?_,.d (b.rep.fr R2.frm (λa z=>.inr z) λa z=>.inr z) R2.rep⟩ (f::c) v (by rw[i];rfl) p l⟩⟩;obtain⟨h,g⟩:=(Af _ _).mp z;exact(b.pur h).trans (R2.pur g)
def eT{fs:QI}{j:Nat}(i:PE X a (NZ j))(g:PA X es (D6 K ml ps fs))(hs:SE X a es:=by rfl):PA X (a::es) (D6 K ml ps (aO j fs)):=(aW i g hs).imp λσ H Q c=>by obtain⟨B,O,δ,as,δ2,S,q,k⟩:=c;unfold aO at q;obtain⟨d,h1,q⟩:=Ac.mp q;have q:((fs δ).map λq=>(AV.o j::q.1,q.2))=b3 (as,δ2):=q;obtain⟨p2,h2,q⟩:=As.mp q;cases q;obtain⟨v,e⟩:=S.slot h1;exact⟨v,e,B,O,δ,_,_,S,h2,λvs H2 R2 b u f p h=>k (v::vs) H2 ⟨R2.sta,R2.frm,R2.pur,.o e R2.rep⟩ (v::b) u (by rw[f];rfl) p h⟩
def aIf(t:VB)(i j:Nat)(fs:QI):QI:=λδ=>(t δ).bind λp=>if p.1=b8 then aO i fs p.2 else aO j fs p.2
def Wu{fs:QI}{j:Nat}{as:List AV}(q:aO j fs δ=b3 (as,δ')):∃d a,slot δ j=b3 d/\fs δ=b3 (a,δ')/\as=.o j::a:=by
 unfold aO at q;cases h1:slot δ j with
 |none=>rw[h1]at q;cases q
 |some d=>
  rw[h1]at q;have q:((fs δ).map λq=>(AV.o j::q.1,q.2))=b3 (as,δ'):=q;cases h2:fs δ with
  |none=>rw[h2]at q;cases q
  |some p2=>
   rw[h2]at q;cases q;exact⟨d,_,rfl,rfl,rfl⟩
def mW{t:VB}{fs:QI}{i j:Nat}{w:Pos}(C:PT X c (TB K ml pc t))(F:PE X a (NZ i))(E:PE X b (NZ j))(D:PA X es (D6 K ml ps fs))(hs:Uh (.IfExp c a b w::es) X.env=(ba,eval (.IfExp c a b w) X.env)::Uh es X.env:=by rfl):
  PA X (.IfExp c a b w::es) (D6 K ml (pc&&ps) (aIf t i j fs)):=(aW (K8 C F E) D hs).imp λσ H Q r=>by
 obtain⟨B,O,δ,as,δ2,S,q,k⟩:=r;unfold aIf at q;obtain⟨⟨m,δ1⟩,h1,q⟩:=Ac.mp q;have q:(if m=b8 then aO i fs δ1 else aO j fs δ1)=b3 (as,δ2):=q;refine⟨B,O,δ,m,δ1,S,h1,λH1 f=>?_⟩;cases m with
 |true=>
  obtain⟨d,A,y,x,rfl⟩:=Wu q;obtain⟨v,e⟩:=f.sta.slot y;exact NO ⟨v,e,B,O,δ1,_,_,f.sta,x,λvs H2 R2 g u n p s=>k (v::vs) H2 ⟨R2.sta,f.frm.trans R2.frm,λz=>by obtain⟨l,h⟩:=(Af _ _).mp z;exact(f.pur l).trans (R2.pur h),.o e R2.rep⟩ (v::g) u (by rw[n];rfl) p s⟩
 |false=>
  obtain⟨d,A,y,x,rfl⟩:=Wu q;obtain⟨v,e⟩:=f.sta.slot y;exact NN ⟨v,e,B,O,δ1,_,_,f.sta,x,λvs H2 R2 g u n p s=>k (v::vs) H2 ⟨R2.sta,f.frm.trans R2.frm,λz=>by obtain⟨l,h⟩:=(Af _ _).mp z;exact(f.pur l).trans (R2.pur h),.o e R2.rep⟩ (v::g) u (by rw[n];rfl) p s⟩
def Zr{x:Ug}{d j i:Nat}{f:List Ug}{mF:List Nat}{F:aJ}{y:Ud}{p':Pos}{fs:QI}(u:X.K=K)(D:Def X.prog X.w K X.mg X.base x d f (spV K (mF++[i]) (i+2) F) y)(n:∀j∈mF,j<i)(l:X1 j X.A)(o:d<=j)(r:Gl X x)(t:PA X (e::es) (D6 K ml ps fs))(c:ND x:=by decide)(s:SE X e es:=by rfl)(b:(Ei pos (Uh es X.env)).any (·.1)=ba:=by rfl):PE X (.Call (.Name x p') (e::es) [] pos) (TV K ml (ps&&mF.isEmpty) b8 b8 (bW (i+1) mF (insD i F) fs)):=by subst u;refine(FF D l o r t c s b).imp λσ H Q h=>?_;obtain⟨B,O,δ,as,δ',S,q,k⟩:=HL h;refine⟨B,O,δ,as,δ',S,q,λvs H' R a v g p m=>?_⟩;subst g;have z:spV X.K mF (i+1) (insD i F) ((a++[v])++[]) H' Q E0:=k _ H' R;show spV X.K (mF++[i]) (i+2) F ((a++[.ref p,v])++[]) (upd H' p (.dK [])) Q E0;rw[Ds]at z⊢;exact ng n m z
end
section
variable{X:Cx}{K:Aj}{ml:List Nat}{e a b c:Uj}{es:List Uj}{pa ta ia pb tb ib pc tc ic pu bt bi ps bs:Bool}{fa fb fc f:VF}{pos p':Pos}{d:cF}{x:Ug}
def vv(i:Nat)(c:X.N[i]?=b3 x:=by rfl)(b:Vis X.env.scope x:=by first|exact Ey rfl|exact Du (Ey rfl)|exact Du (Du rfl))(hd:ND x:=by decide)(a:(x==("__classdict__":Ug))=ba:=by decide):PE X (.Name x pos) (TV K ml b8 b8 b8 (fV i)):=dF (C9 c b hd a)
def vo(i:Nat)(c:X.N[i]?=b3 x:=by rfl)(b:Vis X.env.scope x:=by first|exact Ey rfl|exact Du (Ey rfl)|exact Du (Du rfl))(hd:ND x:=by decide)(a:(x==("__classdict__":Ug))=ba:=by decide):PE X (.Name x pos) (TV K ml b8 ba b8 (fO i)):=lq (C9 c b hd a)
def ZV(d:X.A.units+1<cLine)(f:PE X a (TV K ml pa ta ia fa))(e:PE X b (TV K ml pb tb ib fb))(g:X.K=K:=by rfl)(c:F6 b:=by exact λ_ _=>rfl)(hs:(pb || (ta&&ia))=b8:=by rfl):PE X (.Subscript a b pos) (TV K ml (pa&&pb) ia ia (f2 bN fa fb)):=
 iK (kIxA d g) ly f e c hs
def veq(c:X.A.units+64<cLine)(e:PE X a (TV K ml pa ta ia fa))(d:PE X b (TV K ml pb tb ib fb))(f:X.K=K:=by rfl)(hs:(pb || (ta&&ia))=b8:=by rfl):PE X (.Compare a [.Eq] [b] pos) (TV K ml (pa&&pb) b8 b8 (f2 YL fa fb)):=
 XM (kEqD c f) s_eq e d (K6 _) hs
def YX(c:X.A.units+64<cLine)(e:PE X a (TV K ml pa ta ia fa))(d:PE X b (TV K ml pb tb ib fb))(f:X.K=K:=by rfl)(hs:(pb || (ta&&ia))=b8:=by rfl):PT X (.Compare a [.Eq] [b] pos) (TB K ml (pa&&pb) (fB (f2 YL fa fb))):=
 a8 (kEqD c f) s_eq e d (K6 _) hs
def bJ{c j n:Nat}{d:List Ug}{mF:List Nat}{F:aJ}{m:Ud}{fs:QI}(D:Def X.prog X.w K X.mg X.base x c d (spV K mF n F) m)(f:X1 j X.A)(k:PA X (e::es) (TAG K ml ps fs))(l:X.K=K:=by rfl)(g:c<=j:=by decide)(h:Gl X x:=by rfl)(b:ND x:=by decide)(i:SE X e es:=by rfl)(a:(Ei pos (Uh es X.env)).any (·.1)=ba:=by rfl):PE X (.Call (.Name x p') (e::es) [] pos) (TV K ml (ps&&mF.isEmpty) b8 b8 (bW n mF F fs)):=ln l D f g h k b i a
def YJ(b:X.mg "len"=b4)(e:PE X a (TV K ml pa ta ia fa))(f:X.K=K:=by rfl)(c:Gl X "len":=by rfl)(d:SE X a []:=by rfl):PE X (.Call (.Name "len" p') [a] [] pos) (TV K ml pa b8 b8 (f1 ZG fa)):=
 LP (kH f) ky c b Vw e (by decide) (by decide) d
def DW{n:String}(c:X.mg x=b4)(a:Bp x=b3 (.type n))(d:Gl X x:=by rfl)(b:x≠ "__name__":=by decide)(hd:ND x:=by decide):PE X (.Name x pos) (TV K ml b8 b8 b8 (fC (.ty n))):=
 ve_c (kW (v:=.ty n) d c a rfl b hd) λ_ _ _=>.ty _
def PJ(e:X.mg "isinstance"=b4)(i:PE X a (TV K ml pa ta ia fa))(h:PE X b (TV K ml pb tb ib fb))(j:X.K=K:=by rfl)(f:Gl X "isinstance":=by rfl)(g:SE X a [b]:=by rfl)(d:SE X b []:=by rfl)(c:(Ei pos (Uh [b] X.env)).any (·.1)=ba:=by rfl)(hs:(pb || (ta&&ia))=b8:=by rfl):PE X (.Call (.Name "isinstance" p') [a,b] [] pos) (TV K ml (pa&&pb) b8 b8 (f2 US fa fb)):=WU (kIsi j) jA f e aR i h (by decide) (by decide) g d c hs
end
def A4(K:Aj)(x:Ug)(st:Up)(f:Ud):Prop:=∃(d:Uc) (od:Option Ud) (kV doc c:Uc) (e:Option Ud) (a ct:Uc) (b:Array (Option Uc)),Fg K Ui x=b3 (b3 (.ref f))∧
 K.lookup f=b3 ⟨d,od,.func (Je x x (YT st) (aC st) (bX st) .none kV doc c e a ct),b⟩/\Lj K a x=b8/\Hx K (.ref f)=b8
def a4{K:Aj}{x:Ug}{st:Up}{f:Ud}{i:Uc}{od:Option Ud}{kV doc h:Uc}{j:Option Ud}{e ct:Uc}{g:Array (Option Uc)}(a:Fg K Ui x=b3 (b3 (.ref f)))(b:K.lookup f=b3 ⟨i,od,.func (Je x x (YT st) (aC st) (bX st) .none kV doc h j e ct),g⟩)(c:Lj K e x=b8)(d:Hx K (.ref f)=b8):A4 K x st f:=⟨i,od,kV,doc,h,j,e,ct,g,a,b,c,d⟩
def CT{N P:List Ug}{sc:Ut}(a:sc.kind=.function:=by rfl)(b:sc.isCoroutine=ba:=by rfl)(c:sc.isGenerator=ba:=by rfl)(d:N.Nodup:=by decide+kernel)(e:N.take P.length=P:=by rfl)(f:∀x∈P,sc.names.lookup x=b3 .local∨sc.names.lookup x=b3 .cell:=by decide+kernel)(g:∀y∈sc.names,y.2≠Bt:=by decide+kernel):ZI N P sc:=⟨a,b,c,d,e,f,g⟩
def KD{α:Type}:Ux α->Prop
 |.pure _=>True
 |.raise _=>True
 |.unsupported _=>True
 |.finish _=>True
 |.rule _ k=>KD (k ())
 |.at _ k=>KD (k ())
 |.load _ _ k=>∀o,KD (k o)
 |.update _ _ f k=>(∀o,(f o).dict=o.dict)/\KD (k ())
 |.alloc _ k=>∀a,KD (k a)
 |.loadIfAlive _ k=>∀o,KD (k o)
 |.point _ k=>KD (k ())
 |.stack k=>∀l,KD (k l)
 |.fresh k=>∀l,KD (k l)
 |.ask k=>∀l,KD (k l)
 |.handled _ k=>∀l,KD (k l)
 |_=>False
def Dc(e:Ud)(d:Option Ud)(h:Um):Prop:=∃o,h.objs[e]?=b3 o/\o.dict=d
def Dc.of{e:Ud}{h:Um}{o:Uq}(q:h.get? e=b3 o):Dc e o.dict h:=⟨o,(Oo.mp q).1,rfl⟩
theorem Dc.at{e:Ud}{d:Option Ud}{h:Um}{o:Uq}(D:Dc e d h)(q:h.get? e=b3 o):o.dict=d:=by obtain⟨o',a,b⟩:=D;rw[(Oo.mp q).1]at a;cases a;exact b
def Dc.upd{e a:Ud}{d:Option Ud}{h:Um}{f:Uq->Uq}(D:Dc e d h)(i:∀o,(f o).dict=o.dict):Dc e d (h.update a f):=by
 obtain⟨o,g,c⟩:=D;cases h;simp only[Dc,Heap.update,Array.getElem?_modify];by_cases b:a=e
 ·subst b
  exact⟨f o,by rw[if_pos rfl,g];rfl,(i o).trans c⟩
 ·exact⟨o,by rw[if_neg b];exact g,c⟩
def Dc.push{e:Ud}{d:Option Ud}{h:Um}(o:Uq)(D:Dc e d h):Dc e d (h.push o):=by obtain⟨b,a,c⟩:=D;cases h;refine⟨b,?_,c⟩;simp only[Heap.push,Array.getElem?_push];rw[if_neg (Bf (Array.getElem?_eq_some_iff.mp a).1)];exact a
def ni{α:Type}{M:Uy}{i:PySem.Ctx}{e:Ud}{d:Option Ud}{E:Uc->Pos->Ae->Prop}:∀(t:Ux α) (Q:α->Pos->Ae->Prop) (p:Pos) (s:Ae),KD t->Dc e d s.heap->Sem.wp M i t Q E p s->Sem.wp M i t (λa p s'=>Q a p s'/\Dc e d s'.heap) E p s:=by
 intro t;induction t with
 |pure a=>intro Q p s _ D h;simp only[Sem.wp_pure]at h⊢;exact⟨h,D⟩
 |raise v=>intro Q p s _ D h;simp only[Sem.wp_raise]at h⊢;exact h
 |unsupported w=>intro Q p s _ D h;simp only[Sem.wp_unsupported]at h
 |finish w=>intro Q p s _ D h;simp only[Sem.wp_finish]at h
 |rule g k c=>intro Q p s K D h;simp only[Sem.wp_rule]at h⊢;exact c () Q p s K D h
 | «at» q k c=>intro Q p s K D h;simp only[Sem.wp_at]at h⊢;exact c () Q q s K D h
 |load a b k c=>intro Q p s K D h;rw[Sem.wp_load]at h⊢;obtain⟨o,j,h⟩:=h;exact⟨o,j,c o Q p s (K o) D h⟩
 |update a b f k c=>intro Q p s K D h;rw[Sem.wp_update]at h⊢;exact⟨h.1,c () Q p _ K.2 (D.upd K.1) h.2⟩
 |alloc o k c=>intro Q p s K D h;simp only[Sem.wp_alloc]at h⊢;exact c _ Q p _ (K _) (D.push o) h
 |loadIfAlive a k c=>intro Q p s K D h;simp only[Sem.wp_loadIfAlive]at h⊢;exact c _ Q p s (K _) D h
 |point l k c=>intro Q p s K D h;simp only[Sem.wp_point]at h⊢;exact c () Q p s K D h
 |stack k c=>intro Q p s K D h;rw[Sem.wp]at h⊢;exact c _ Q p s (K _) D h
 |fresh k c=>intro Q p s K D h;simp only[Sem.wp_fresh]at h⊢;exact c _ Q p _ (K _) D h
 |ask k c=>intro Q p s K D h;simp only[Sem.wp_ask]at h⊢;exact c _ Q p s (K _) D h
 |handled o k c=>intro Q p s K D h;simp only[Sem.wp_handled]at h⊢;exact c _ Q p s (K _) D h
 |_=>intro Q p s K;exact K.elim
def KH{α:Type}{M:Uy}{A:Bx}{e:Ud}{d:Option Ud}{E:Uc->Ae->Prop}{t:Ux α}{Q:α->Ae->Prop}{s:Ae}(K:KD t)(D:Dc e d s.heap)(h:Ue M A t (λa s'=>Dc e d s'.heap->Q a s') E s):Ue M A t Q E s:=λc p b=>
 Sem.wp_mono M c t (λa p s' z=>z.1 z.2) (λ_ _ _ z=>z) p s (ni t _ p s K D (h c p b))
def KD.bind{α β:Type}{f:α->Ux β}:∀{m:Ux α},KD m->(∀a,KD (f a))->KD (m>>=f):=by
 intro m;show KD m->_->KD (Sem.bind m f);induction m with
 |pure a=>intro _ h;exact h a
 |raise v=>intro _ h;exact trivial
 |unsupported w=>intro _ h;exact trivial
 |finish w=>intro _ h;exact trivial
 |rule g k c=>intro K h;exact c () K h
 | «at» q k c=>intro K h;exact c () K h
 |load a b k c=>intro K h o;exact c o (K o) h
 |update a b f k c=>intro K h;exact⟨K.1,c () K.2 h⟩
 |alloc o k c=>intro K h a;exact c a (K a) h
 |loadIfAlive a k c=>intro K h o;exact c o (K o) h
 |point l k c=>intro K h;exact c () K h
 |stack k c=>intro K h l;exact c l (K l) h
 |fresh k c=>intro K h l;exact c l (K l) h
 |ask k c=>intro K h l;exact c l (K l) h
 |handled o k c=>intro K h l;exact c l (K l) h
 |_=>intro K;exact K.elim
def md(f:Array Uc->Array Uc)(o:Uq):(Ta f o).dict=o.dict:=by unfold Ta;split<;>rfl
def KD.field(v:Uc)(i:Nat):KD (field v i):=by unfold PySem.field fieldsOf;repeat (first|exact trivial|exact λ_=>trivial|with_reducible refine KD.bind ?_ ?_|intro _|split)
def KD.setField(v:Uc)(i:Nat)(x:Uc):KD (setField v i x):=by unfold Sh updateField;repeat (first|exact trivial|exact⟨md _,trivial⟩|exact λ_=>trivial|with_reducible refine KD.bind ?_ ?_|intro _|split)
def KD.flight(e:Uc)(f:Option Ud):KD (setFlight e f):=by unfold setFlight;repeat (first|exact trivial|exact KD.field _ _|exact KD.setField _ _ _|with_reducible refine KD.bind ?_ ?_|intro _|split)
theorem KD.ready:∀l:List Env,KD (readyFrames l)
 |[]=>trivial
 |env::outer=>by have a:=KD.ready outer;unfold readyFrames behindIsImport keptBack;repeat (first|exact trivial|exact a|exact KD.field _ _|exact⟨λ_=>rfl,trivial⟩|exact λ_=>trivial|with_reducible refine KD.bind ?_ ?_|intro _|split)
def KD.frameOf(env:Env):KD (Op env):=by have h1:=KD.ready;unfold Op frameObject frameEnvs;repeat (first|exact trivial|exact h1 _|exact λ_=>trivial|with_reducible refine KD.bind ?_ ?_|intro _|split)
def KD.place(f:Ud)(b:Bool):KD (Qh f b):=by unfold Qh;repeat (first|exact trivial|exact λ_=>trivial|with_reducible refine KD.bind ?_ ?_|intro _|split)
def KD.entry(a b c d e:Uc)(l:List Uc):KD (Nw a b c d e l):=by show KD (if _ then unsupported _>>=λ_=>Sm _ _ _ else Sm _ _ _);have h:∀x:Data,KD (Sm (.type "traceback") x b4):=λx=>λ_=>trivial;repeat (first|exact trivial|exact h _|split)
def KD.note(e:Uc)(env:Env):KD (Mp e env):=by have h2:∀head f,KD (Op env>>=λa=>Qh f (head != .none)>>=λpl=>Nw head a .none (rawInt f) .none pl>>=λb=>Sh e 1 b):=λ_ _=>KD.bind (KD.frameOf _) λ_=>KD.bind (KD.place _ _) λ_=>KD.bind (KD.entry _ _ _ _ _ _) λ_=>KD.setField _ _ _;unfold Mp;repeat (first|exact trivial|exact h2 _ _|exact KD.field _ _|exact KD.setField _ _ _|exact λ_=>h2 _ _|with_reducible refine KD.bind ?_ ?_|intro _|split)
def KD.leave(e:Uc)(env:Env):KD (leaving env e):=KD.bind (KD.note e env) λ_=>KD.flight e b4
end L2
namespace L2
open PySem PySem.Spec PyProof.Rows PySem.W PySem.Builtin PySem.Builtin.ObjectAttr
noncomputable abbrev vbs:List Uc:=[.type "ValueError",.type "Exception",.type "BaseException",.type "object"]
structure XA(K:Aj)(C:Ud):Prop where
 mro:W.mroIn K C (.type "object")=b3 b8
 cls:Qx K (.ref C) "__class__"=b3 (b3 (.builtin "object.__class__"))
 get:W.specialIn K (.builtin "object.__class__") "__get__"=b3 (b3 (.builtin "getset_descriptor.__get__"))
 tak:W.takesIn K (.builtin "object.__class__")=b3 b8
 ga:Qx K (.ref C) "__getattribute__"=b3 (b3 (.builtin "BaseException.__getattribute__"))
 no:Qx K (.ref C) "__getattr__"=b3 b4
 sub:Pr K (.ref C) (.type "BaseException")=b3 b8
structure XG(K:Uw)(C Cp:Ud)(nm:Ug):Prop where
 mro:∃cd,clsIn K C=b3 cd/\cd.mro=.ref C:: .ref Cp::vbs/\cd.hasDict=b8
 non:findIn K (.ref C) nm=b3 b4
 set:findIn K (.ref C) "__setattr__"=b3 (b3 (.builtin "object.__setattr__"))
def xgOk(K:Uw)(C Cp:Ud):Bool:=match clsIn K C with
 |some cd=>cd.mro== .ref C:: .ref Cp::vbs&&cd.hasDict
 |none=>ba
def XG.of{K:Uw}{C Cp:Ud}{nm:Ug}(h:xgOk K C Cp=b8)(a:findIn K (.ref C) nm=b3 b4)(b:findIn K (.ref C) "__setattr__"=b3 (b3 (.builtin "object.__setattr__"))):XG K C Cp nm:=by
 unfold xgOk at h;split at h
 ·rename_i cd hc
  simp only[Af,beq_iff_eq]at h;exact⟨⟨cd,hc,h.1,h.2⟩,a,b⟩
 ·cases h
section
variable{prog:Be}{w:Ul}{A:Bx}{E:Uc->Ae->Prop}{s:Ae}{K:Uw}{x C Cp:Ud}{nm:Ug}{vs:Array Uc}{sl:Array (Option Uc)}{v:Uc}
def kK{Q:Unit->Ae->Prop}(X:K.In s.heap)(k:s.heap.get? x=b3 ⟨.ref C,b4,.fields vs,sl⟩)(F:XG K C Cp nm)(h:∀h' D tk,(∀b o,b≠x->s.heap.get? b=b3 o->h'.get? b=b3 o)->s.heap.objs.size<=D->D≠x->h'.get? x=b3 ⟨.ref C,b3 D,.fields vs,sl⟩->h'.Ns1 D (λy=>if y=nm then b3 v else b4)->Q () {s with heap:=h',toks:=tk}):Ue (Uf prog w) A (setAttr (.ref x) nm v) Q E s:=by
 obtain⟨a,g,d,t,os⟩:=s;obtain⟨cd,hc,z,hd⟩:=F.mro;have J:=PySem.F.store_ValueError;have f:=PySem.F.store_object;have l:Looks (Uf prog w) a (Nh (.ref x)) (.ref C):=(Na k).andThen .now;have P:=Ho (M:=Uf prog w) X F.set;have O:=Ho (M:=Uf prog w) X F.non;have N:Looks (Uf prog w) a (mroOf (.ref C)) cd.mro:=(looks_clsIn X hc).andThen .now;have L:=looks_clsIn (M:=Uf prog w) X hc;have sub:Looks (Uf prog w) a (Lb (.ref x) (.type "object")) b8:=l.andThen (looks_mroIn X (by unfold mroIn;rw[hc,An,z];rfl));unfold setAttr;refine Aa (Qi (Aa (Aa (Aa (l.at (P.at (Bw (Aa ?_))))))));rw[f.slot.bind];refine Ah (Aa (Ik ?_));refine Fx f.slot.plain f.entry (@check_slot (Uf prog w) _ _ _ "object.__setattr__" "object" "__setattr__" (.ref x) [.str nm t,v] [] _ f.kind f.split sub (f.args (.ref x) (.str nm t) v) ?_);show Ue (Uf prog w) A.in1 (Fe.«object.__setattr__» ⟨[.ref x,.str nm t,v],[]⟩) _ _ ⟨a,g,d,t+1,os⟩;rw[osa_eq,refuse_eq];refine Aa (Aa (l.at (Aa (N.at ?_))));rw[z,refuseLoop_ref,refuseLoop_ref,J.passes];refine Ah (Aa (l.at (Aa (O.at (Aa (Ah ?_))))));show Ue (Uf prog w) A.in1 (storeInOwnDict (.ref x) (.ref C) (.str nm t) nm v ba) _ _ _;refine Aa (Ah (Aa ?_));show Ue (Uf prog w) A.in1 (instanceDict x b8) _ _ _;unfold instanceDict;refine Aa (Nl k ?_);dsimp only;refine Aa (L.at ?_);rw[hd];have c:x≠a.objs.size:=Bf (Al k);have i:=Ad {cls:=.type "dict",data:=.dict #[]} k;show Ue (Uf prog w) A.in1 (alloc {cls:=.type "dict",data:=.dict #[]}>>=_) _ _ _;refine Aa (wpAny_alloc (Aa (wpAny_update i ?_)));show Ue (Uf prog w) A.in1 (pure (b3 a.objs.size)) _ _ _;refine Ah ?_;show Ue _ _ (storeInDict a.objs.size (.str nm t) nm v) _ _ _;have p:((a.push {cls:=.type "dict",data:=.dict #[]}).update x λo=>{o with dict:=b3 a.objs.size}).get? a.objs.size=b3 {cls:=.type "dict",data:=.dict #[]}:=
  (Gm _ _ c).trans (Heap.get?_push_at rfl rfl)
 have n:((a.push {cls:=.type "dict",data:=.dict #[]}).update x λo=>{o with dict:=b3 a.objs.size}).get? x=b3 ⟨.ref C,b3 a.objs.size,.fields vs,sl⟩:=Jb _ i rfl;have hnd:((a.push {cls:=.type "dict",data:=.dict #[]}).update x λo=>{o with dict:=b3 a.objs.size}).Ns a.objs.size (λ_=>b4):=⟨_,#[],_,p,rfl,λe B=>absurd B (by simp),λ_=>rfl⟩;unfold storeInDict newKeyGuard;refine Aa (Ah (Aa (wpAny_nsSet1 (Heap.Ns1.of_empty hnd) λh' j hs=>?_)));obtain⟨R,H,I,m,r,u⟩:=j.count (Within.cons nm v Within.nil);refine Aa (wpAny_lookBehind m (by rw[r];exact pastItsLine_dict (Dj u (by show 1<=_;rw[Cc];lia))) ?_);exact Ah (Ah (Ah (h h' a.objs.size _ (λb o G q=>(hs.2 b (Bf (Al q))).trans ((Gm _ _ (Ck G)).trans (Ad _ q))) (Am _) c.symm ((hs.2 x c).trans n) j)))
def kr{a:Uq}{D:Ud}{k:Ug->Option Uc}{Q:Uc->Ae->Prop}{f:Bool}(X:K.In s.heap)(l:s.heap.get? x=b3 a)(b:a.cls=.ref C)(p:a.data=.fields vs)(i:a.dict=b3 D)(q:s.heap.Ns1 D k)(m:k nm=b3 v)(o:handedIn v=b8)(F:XG K C Cp nm)(G:XA K C)(h:Q v {s with toks:=s.toks+1}):Ue (Uf prog w) A (getAttr (.ref x) nm f) Q E s:=by
 obtain⟨c,g,d,t,os⟩:=s;obtain⟨cd,hc,L,hd⟩:=F.mro;obtain⟨j,u,r⟩:=IU q;have I:InstAt c x a C (b3 j):=⟨l,b,by unfold notCls;rw[p],by rw[i];exact u⟩;have e:Looks (Uf prog w) c (Nh (.ref x)) (.ref C):=b▸(Na l).andThen .now;have J:=Ho (M:=Uf prog w) X G.ga;have H:=Ho (M:=Uf prog w) X G.no;have B:=looks_subIn (M:=Uf prog w) X G.sub;have y:Looks (Uf prog w) c (find (.ref x) (.ref C) nm) (.value v):=looks_find X I (by unfold findObj;rw[hc,An,F.non,An];dsimp only;rw[An,An];dsimp only;unfold W.ownOf;rw[hd,if_pos rfl];show(lookIn nm j).bind _=_;rw[r,m];rfl)
 have fb:=PySem.F.excAttr_ValueError.ga.bind (.ref x);have n:builtinKind "BaseException.__getattribute__"=b3 .slot:=by decide+kernel
 have hs:splitId "BaseException.__getattribute__"=b3 ("BaseException","__getattribute__"):=by decide+kernel
 have N:=Nc (.ref x) (.str nm t);unfold getAttr getAttrBy;refine Aa (Qi (Bw (Aa (e.at (Aa (J.at ?_))))));show Ue _ _ (Jz _ _ _ _ _ _) _ _ _;unfold Jz hookBefore callGetattribute boundAndCalled;repeat (any_goals (first|assumption|with_reducible refine Looks.at e ?_|with_reducible refine Looks.at H ?_|wp_step))
 rw[show(f&&onTheHeap (Tc "BaseException.__getattribute__"))=ba by cases f<;>rfl,fb,if_neg (by decide)];refine Aa (Ah (Ik (Fx PySem.F.excAttr_ValueError.ga.plain Mv (At (Q:=λ_ s'=>s'=⟨c,g,d,t+1,os⟩) ?_ (λ_ s' z=>?_) λ_ _ z=>z))))
 ·show Ue _ _ (Ly "BaseException.__getattribute__" ⟨[.ref x,.str nm t],[]⟩) _ _ _
  simp only[Ly,n,hs];unfold Lb;repeat (any_goals (first|rfl|assumption|with_reducible refine PySem.W.Looks.at e ?_|with_reducible refine PySem.W.Looks.at B ?_|wp_step))
 ·subst z
  show Ue _ _ (Fe.«object.__getattribute__» ⟨[.ref x,.str nm t],[]⟩) _ _ _;unfold Fe.«object.__getattribute__»;repeat (any_goals (first|assumption|with_reducible refine Looks.at e ?_|with_reducible refine Looks.at y ?_|wp_step))
  exact handed_on o h
end
structure XH(K:Uw)(Cp:Ud):Prop where
 met:specialIn K (.ref Cp) "__getattribute__"=b3 (b3 (.builtin "type.__getattribute__"))
 rd:readsIn K Cp (.type "type")=b8
 ini:findCls K (.ref Cp) (.type "type") "__init__"=b3 (.val (.builtin "ValueError.__init__"))
section
variable{prog:Be}{w:Ul}{A:Bx}{E:Uc->Ae->Prop}{s:Ae}{K:Uw}{x C Cp N:Ud}{nm q:Ug}{v:Uc}{bs bm:List Uc}{hdct:Bool}{sn:List Ug}{sub:List Uc}{ab:Bool}{col:Option Bool}{dd:Option Ud}{k0 k1 k2 k3 k5:Option Uc}{cn:Ug}
noncomputable abbrev MK(C t:Ud)(d:Option Ud):Uq:={cls:=.ref C,dict:=d,data:=.fields #[.ref t,.none,.none,.none,.bool ba,.none]}
def lD{f:Ud}{u:Uc}{Q:Uc->Ae->Prop}(k:s.heap.get? C=b3 (Gv cn q C N bs bm hdct sn sub ab col dd k0 k1 k2 k3 k5 "ValueError.__new__"))(T:Nx s.heap vbs bm)(a:s.heap.get? x=b3 (MK C f b4))(h:∀h' c,(∀b o,b≠x->s.heap.get? b=b3 o->h'.get? b=b3 o)->s.heap.objs.size<=h'.objs.size->s.heap.get? c=b4->h'.get? x=b3 (MK C c b4)->Q .none {s with heap:=h'}):Ue (Uf prog w) A (call (.builtin "ValueError.__init__") [.ref x,u]) Q E s:=by
 obtain⟨e,g,d,t,os⟩:=s;have F:=He;refine Ik (Fx F.init.plain F.initEntry (wpAny_check_init_subT F T k a rfl ?_));wp_walk;have i:x≠e.objs.size:=Bf (Al a);refine h _ e.objs.size (λb o j q=>?_) ?_ (Jd (Am _)) ?_
 ·rw[Gm _ _ (Ck j)]
  exact Ad _ q
 ·rw[Qr,Cm];exact Em _
 ·exact Jb _ (Ad _ a) rfl
variable{env:Env}{m mg:Ug->Option Uc}{txt:Ug}{j:Nat}{p1 p2 p3 p4 p5 p6 p7 p8 p9 p10:Pos}
def cL{I:Ud}{u:Uc}{pl:Ux Bool}{Q:Flow->Ae->Prop}(a:env.scope.kind=.function)(hs:env.kindOf "self"=b3 .local)(R:env.kindOf nm=b3 .local)(S:env.kindOf "PackError"=b3 .globalImplicit)(L:s.heap.Ns env.locals m)(m1:m "self"=b3 (.ref x))(m2:m nm=b3 u)(G:s.heap.Ns env.globals mg)(Z:mg "PackError"=b3 (.ref Cp))(l:env.locals≠x)(P:env.globals≠x)(X:K.In s.heap)(XI:∀h':Um,(∀b o,b≠x->s.heap.get? b=b3 o->h'.get? b=b3 o)->K.In h')(Y:s.heap.get? C=b3 (Gv cn q C N bs bm hdct sn sub ab col dd k0 k1 k2 k3 k5 "ValueError.__new__"))(V:C≠x)(T:Nx s.heap vbs bm)(O:s.heap.get? x=b3 (MK C I b4))(F:XG K C Cp nm)(W:XH K Cp)(U:eval (.Call (.Attribute (.Name "PackError" p1) "__init__" p2) [.Name "self" p3,.Constant (.str txt) j p4] [] p5) env=(do
   let p<-eval (.Name "PackError" p1) env
   Mk p2.atName
   let (f,first)<-Ss [p] (getMethod p "__init__" pl)
   callWith p5 f first (Ei p5 (Uh [.Name "self" p3,.Constant (.str txt) j p4] env)) (Km p5 (Gp [] env))))
  (k:Ur (.Call (.Attribute (.Name "PackError" p1) "__init__" p2) [.Name "self" p3,.Constant (.str txt) j p4] [] p5) b4 p6.line env=pure ba) (i:Ur (.Name nm p9) (b3 (.Attribute (.Name "self" p7) nm p8)) p10.line env=pure ba)
  (n:(nm==("__debug__":Ug))=ba)
  (h:∀h' c D tk,(∀b o,b≠x->s.heap.get? b=b3 o->h'.get? b=b3 o)->s.heap.get? c=b4->s.heap.objs.size<=D->h'.get? x=b3 (MK C c (b3 D))->h'.Ns1 D (λy=>if y=nm then b3 u else b4)->D≠x->Q .next {s with heap:=h',toks:=tk}):
  Ue (Uf prog w) A (execs [.Expr (.Call (.Attribute (.Name "PackError" p1) "__init__" p2) [.Name "self" p3,.Constant (.str txt) j p4] [] p5) p6,.Assign [.Attribute (.Name "self" p7) nm p8] (.Name nm p9) p10] env) Q E s:=by
 refine Lv (wpAny_Expr_any ?_ (by simp[Rh,a]) k);refine methodCall_KW (pl:=pl) (Hc a S (Li G Z ?_)) U;refine method_cls X W.met (cls_value X W.rd W.ini (by decide+kernel) ?_);refine Fi rfl (Ef (x:=eval (.Name "self" p3) env) (rest:=[(ba,eval (.Constant (.str txt) j p4) env)]) ?_);refine Es (Kw (Hf a hs L m1 ?_));refine Es (Ob (Ha ?_));refine lD Y T O λh1 c k1 z M H=>?_;refine Lv (plainObj_wpAny_Assign_Attribute ?_ i);have v:h1.Ns env.locals m:=by obtain⟨o,es,ep,e,r⟩:=L;exact⟨o,es,ep,k1 _ _ l e,r⟩
 refine Kw (Hf a R v m2 ?_) n;refine Kw (Hf a hs v m1 ?_);refine kK (XI h1 k1) H F λh2 D tk k2 J g B d=>Hs (h h2 c D tk (λb o t q=>k2 b o t (k1 b o t q)) M (Dj z J) B d g)
structure HQ(K:Uw)(qual:Ug)(st:Up)(nm txt:Ug)(f:Ud)(fd:Cr):Prop where
 fn:LX K "__init__" qual st f fd
 sc:ZI ["self",nm] ["self",nm] (bX st)
 bd:RE K fd ["self",nm] []
 s1:(bX st).names.lookup ("self":Ug)=b3 .local
 s2:(bX st).names.lookup nm=b3 .local
 s3:(bX st).names.lookup ("PackError":Ug)=b3 .globalImplicit
 ne:(nm==("self":Ug))=ba
 db:(nm==("__debug__":Ug))=ba
 tx:∃(p1 p2 p3 p4 p5 p6 p7 p8 p9 p10:Pos) (j:Nat) (pl:Ud->Uc->Ux Bool),aC st=[.Expr (.Call (.Attribute (.Name "PackError" p1) "__init__" p2) [.Name "self" p3,.Constant (.str txt) j p4] [] p5) p6,.Assign [.Attribute (.Name "self" p7) nm p8] (.Name nm p9) p10]∧
  (∀L cd,eval (.Call (.Attribute (.Name "PackError" p1) "__init__" p2) [.Name "self" p3,.Constant (.str txt) j p4] [] p5) (envOfC qual (bX st) L f cd)=(do
   let ov<-eval (.Name "PackError" p1) (envOfC qual (bX st) L f cd)
   Mk p2.atName
   let (f1,first)<-Ss [ov] (getMethod ov "__init__" (pl L cd))
   callWith p5 f1 first (Ei p5 (Uh [.Name "self" p3,.Constant (.str txt) j p4] (envOfC qual (bX st) L f cd))) (Km p5 (Gp [] (envOfC qual (bX st) L f cd)))))∧
  (∀L cd,Ur (.Call (.Attribute (.Name "PackError" p1) "__init__" p2) [.Name "self" p3,.Constant (.str txt) j p4] [] p5) b4 p6.line (envOfC qual (bX st) L f cd)=pure ba)/\∀L cd,Ur (.Name nm p9) (b3 (.Attribute (.Name "self" p7) nm p8)) p10.line (envOfC qual (bX st) L f cd)=pure ba
def nA{qual:Ug}{st:Up}{fI:Ud}{fd:Cr}{H:Ud}{u:Uc}{R:Oe->Ae->Prop}(S:A.depth<Fb)(I:HQ K qual st nm txt fI fd)(X:K.In s.heap)(Xx:K.lookup x=b4)(l:s.heap.NoLimit)(G:s.heap.Ns Ui mg)(Q:mg "PackError"=b3 (.ref Cp))(B:s.heap.get? C=b3 (Gv cn q C N bs bm hdct sn sub ab col dd k0 k1 k2 k3 k5 "ValueError.__new__"))(T:Nx s.heap vbs bm)(f:s.heap.get? x=b3 (MK C H b4))(F:XG K C Cp nm)(W:XH K Cp)(h:∀h' d D tk,(∀b o,b≠x->s.heap.get? b=b3 o->h'.get? b=b3 o)->s.heap.get? d=b4->s.heap.objs.size<=D->h'.get? x=b3 (MK C d (b3 D))->h'.Ns1 D (λy=>if y=nm then b3 u else b4)->D≠x->R (.ok (.ret .none)) {s with heap:=h',toks:=tk}):Fl (Uf prog w) A (.call (.ref fI) ⟨[.ref x,u],[]⟩) R s:=by
 obtain⟨oc,od,kV,doc,pm,an,a,ct,J,rfl,L,r⟩:=I.fn.ex;have Y:∀y∈(["self",nm]:List Ug).zip [Bo x,u],(bX st).names.lookup y.1=b3 .local∨((bX st).names.lookup y.1=b3 .cell/\((Us (s.heap.objs.size+1) (bX st).names []).lookup y.1).isSome=b8):=λ⟨n,v⟩ M=>by
  rcases I.sc.par n (Hy M).1 with q|q
  ·exact .inl q
  ·exact .inr ⟨q,PySem.W.cellsFrom_some _ _ _ (.inl q)⟩
 have t:=I.bd s [.ref x,u] X rfl;refine Iy S (X _ _ L) rfl I.sc.co I.sc.gen rfl (PySem.W.codeRec_of X r) (t _ _ _ _ ?_);refine Hd I.sc.kind Y λenv O s1 c=>?_;subst O;refine⟨l.keeps c.toInCall.keep,Qc ?_⟩;obtain⟨p1,p2,p3,p4,p5,p6,p7,p8,p9,p10,j,pl,ap,h1,h2,P⟩:=I.tx;have kp:=c.toInCall.keep;obtain⟨p,E,g⟩:=c.toInCall.same;subst g;show Ue _ _ (execs (aC st) (envOfC qual (bX st) s.heap.objs.size fI a)) _ _ _;rw[ap];have q1:(envOfC qual (bX st) s.heap.objs.size fI a).kindOf "self"=b3 .local:=I.s1;have q2:(envOfC qual (bX st) s.heap.objs.size fI a).kindOf nm=b3 .local:=I.s2;refine cL (m:=bindL (envOfC qual (bX st) s.heap.objs.size fI a).kindOf ((["self",nm]:List Ug).zip [Bo x,u]) λ_=>b4) (mg:=mg) (x:=x) (u:=u) (Cp:=Cp) (K:=K) I.sc.kind I.s1 I.s2 I.s3 c.toInCall.ns ?_ ?_ (G.keeps kp) Q ?_ ?_ (X.keeps kp) ?_ (kp _ _ B) ?_ (T.keeps kp) (kp _ _ f) F W (h1 _ _) (h2 _ _) (P _ _) I.db ?_
 ·simp only[Oq,Ot,bindL,q1,q2,if_pos]
  rw[if_neg (λz=>by have:=I.ne;rw[<-z]at this;simp at this)]
 ·simp only[Oq,Ot,bindL,q1,q2,if_pos]
 ·exact λz=>absurd (Al f) (by rw[show x=s.heap.objs.size from z.symm];exact Bu _)
 ·intro z
  obtain⟨o,es,U,g,V,_⟩:=G;rw[show Ui=x from z,f]at g;cases g;cases V
 ·intro h' k b o e
  exact k b o (λz=>by rw[z,Xx]at e;cases e) (X.keeps kp b o e)
 ·intro z
  rw[z,f]at B;cases B
 ·intro h' d D tk c1 c2 c3 c4 c5 Z
  have i:∀b,p.get? b=b4->s.heap.get? b=b4:=λb z=>by
   cases e:s.heap.get? b with
   |none=>rfl
   |some o=>
    have:=kp b o e
    rw[show p.get? b=b4 from z]at this;cases this
  have big:s.heap.objs.size<=p.objs.size:=by obtain⟨o,es,U,e,_⟩:=c.toInCall.ns;exact Mj (Oh c.toInCall.fresh (Al e))
  exact h h' d D tk (λb o t q=>c1 b o t (kp b o q)) (i _ c2) (Dj big c3) c4 c5 Z
end
structure Vb(h h':Um)(e C:Ud)(nm:Ug)(u:Uc):Prop where
 keeps:∀b o,h.get? b=b3 o->h'.get? b=b3 o
 new:h.get? e=b4
 there:∃t D,h'.get? e=b3 (MK C t (b3 D))/\h.get? t=b4/\h.objs.size<=D/\D≠e/\h'.Ns1 D (λy=>if y=nm then b3 u else b4)
section
variable{prog:Be}{w:Ul}{A:Bx}{E:Uc->Ae->Prop}{s:Ae}{K:Uw}{C Cp N:Ud}{nm q:Ug}{v:Uc}{bs bm:List Uc}{hdct:Bool}{sn:List Ug}{sub:List Uc}{ab:Bool}{col:Option Bool}{dd:Option Ud}{k0 k1 k2 k3 k5:Option Uc}{cn qual txt:Ug}
 {mN mg:Ug->Option Uc}{fI:Ud}{st:Up}{fd:Cr}{u:Uc}
def nw{Q:Fin->Ae->Prop}(k:A.depth+1<Fb)(j:K.In s.heap)(i:s.heap.NoLimit)(G:s.heap.Ns Ui mg)(v:mg "PackError"=b3 (.ref Cp))(f:s.heap.get? C=b3 (Gv cn q C N bs bm hdct sn sub ab col dd k0 k1 k2 k3 k5 "ValueError.__new__"))(p:s.heap.Ns N mN)(r:mN "__init__"=b3 (.ref fI))(y:typeIn K (.ref fI)=b3 (.type "function"))(tl:Nx s.heap vbs bm)(I:HQ K qual st nm txt fI fd)(P:XG K C Cp nm)(W:XH K Cp)(h:∀h' e tk,Vb s.heap h' e C nm u->Q (.done (.ret (.ref e))) {s with heap:=h',toks:=tk}):Ue (Uf prog w) A (Fe.«type.__call__» ⟨[.ref C,u],[]⟩) Q E s:=by
 obtain⟨a,g,d,t,os⟩:=s;have B:=He;repeat (first|with_reducible refine Hb f ?_|with_reducible refine wpAny_madeBy_exc f ?_|wp_step)
 refine codeAny_call_builtin_code (Kn _ B.quiet) (wpAny_check_new_subT B tl f (codeAny_exc_new_subT B tl f ?_ (by show 1<=sizeLine;decide)));have kp:∀b o,a.get? b=b3 o->((a.push {cls:=.type "tuple",data:=.seq [u].toArray}).push (MK C a.objs.size b4)).get? b=b3 o:=λb o e=>Ad _ (Ad _ e);have l:((a.push {cls:=.type "tuple",data:=.seq [u].toArray}).push (MK C a.objs.size b4)).get? (a.objs.size+1)=b3 (MK C a.objs.size b4):=by heap_get
 have F:(Bo C::bm).contains (.ref C)=b8:=by simp
 have c:=kp _ _ f;show Ue _ _ _ _ _ _;unfold Lb;repeat (first|with_reducible refine Hb l ?_|(with_reducible refine Ny c ?_;rw[F])|wp_step)
 show Ue _ _ (typeLookup (.ref C) _) _ _ _;refine wpAny_typeLookup_tail c (p.keeps kp) (tl.keeps kp) B.mroIs B.init.lookup ?_;rw[r];refine Bw (Aa ((bind_fn (j.keeps kp) _ y).here (Aa (Ik ?_))));have m:∀b,a.objs.size<=b->a.get? b=b4:=λb z=>Jd z;have S:K.lookup (a.objs.size+1)=b4:=by
  cases e:K.lookup (a.objs.size+1)with
  |none=>rfl
  |some o=>
   have:=j _ _ e
   rw[show(⟨a,g,d,t,os⟩:Ae).heap.get? (a.objs.size+1)=b4 from m _ (Em _)]at this;cases this
 have back:∀b,((a.push {cls:=.type "tuple",data:=.seq [u].toArray}).push (MK C a.objs.size b4)).get? b=b4->a.get? b=b4:=λb z=>by
  cases e:a.get? b with
  |none=>rfl
  |some o=>rw[kp b o e]at z;cases z
 refine nA (x:=a.objs.size+1) (u:=u) (C:=C) (mg:=mg) (Nat.lt_of_succ_lt k) I (j.keeps kp) S (i.keeps kp) (G.keeps kp) v c (tl.keeps kp) l P W λh' n D tk R O M L J H=>Ah ?_;show Ue _ _ (ret _) _ _ _;refine Ah (h h' (a.objs.size+1) tk ⟨λb o e=>R b o (Bf (Lc (Al e))) (kp b o e),m _ (Em _),n,D,L,back _ O,Dj (by rw[Cm,Cm];exact Nat.le_succ_of_le (Em _)) M,H,J⟩)
def me{Q:Uc->Ae->Prop}(c:A.depth+2<Fb)(k:K.In s.heap)(b:s.heap.NoLimit)(G:s.heap.Ns Ui mg)(l:mg "PackError"=b3 (.ref Cp))(a:s.heap.get? C=b3 (Gv cn q C N bs bm hdct sn sub ab col dd k0 k1 k2 k3 k5 "ValueError.__new__"))(f:s.heap.Ns N mN)(i:mN "__init__"=b3 (.ref fI))(m:typeIn K (.ref fI)=b3 (.type "function"))(tl:Nx s.heap vbs bm)(I:HQ K qual st nm txt fI fd)(P:XG K C Cp nm)(W:XH K Cp)(h:∀h' e tk,Vb s.heap h' e C nm u->Q (.ref e) {s with heap:=h',toks:=tk}):Ue (Uf prog w) A (call (.ref C) [u]) Q E s:=by
 obtain⟨j,g,d,t,os⟩:=s;have f1:=tc_lookup;have f2:=tc_bind (.ref C);have n:(⟨j,g,d,t,os⟩:Ae).TypeIs (.ref C) "type":=⟨_,a,rfl⟩;refine Ik (codeAny_of_tree (show Ue _ _ (callAny (.ref C) _) _ _ _ from ?_));repeat (any_goals (first|assumption|with_reducible refine Hb a ?_|wp_step))
 refine⟨rfl,codeAny_call_builtin_at (Kn _ (by decide+kernel)) entry_typeCall (wpAny_check_type_call_sub a ?_)⟩;exact nw (mg:=mg) (by show A.depth+(To "type.__call__" ⟨[Bo C,u],[]⟩).weight+1<Fb;rw[show(To "type.__call__" ⟨[Bo C,u],[]⟩).weight=1 by kernel_rfl];exact c) k b G l a f i m tl I P W λh' e tk M=>h h' e tk M
def jV{x:Ug}{o ai pos:Pos}{args:List Uj}{env:Env}{Q:Flow->Ae->Prop}(J:bm.contains (.type "BaseException")=b8)(H:A.handled=b4)(m:A.depth+2<Fb)(pl:(Ei ai (Uh args env)).any (·.1)=ba)(h:Ue (Uf prog w) A (eval (.Name x o) env) (λf c=>f=.ref C/\Ue (Uf prog w) A (evalArgs (.ref C) b8 (Ei ai (Uh args env)) []) (λa b=>∃u,a=⟨[u],[]⟩/\K.In b.heap/\b.heap.NoLimit/\b.heap.Ns Ui mg/\mg "PackError"=b3 (.ref Cp)/\b.heap.get? C=b3 (Gv cn q C N bs bm hdct sn sub ab col dd k0 k1 k2 k3 k5 "ValueError.__new__")/\b.heap.Ns N mN/\mN "__init__"=b3 (.ref fI)/\typeIn K (.ref fI)=b3 (.type "function")/\Nx b.heap vbs bm∧HQ K qual st nm txt fI fd/\XG K C Cp nm/\XH K Cp/\∀h' e tk,Vb b.heap h' e C nm u->E (.ref e) {b with heap:=h',toks:=tk}) E c) E s):Ue (Uf prog w) A (exec (.Raise (b3 (.Call (.Name x o) args [] ai)) b4 pos) env) Q E s:=by
 rw[arm_exec_Raise];simp only[evalOpt,Ub];refine Aa (Dn ?_);unfold raiseStmt;have T:(Bo C::bm).contains (.type "BaseException")=b8:=by rw[List.contains_cons,J,Bool.or_true]
 refine Aa (At (Q:=λv c=>∃e t D,v=.ref e/\c.heap.get? C=b3 (Gv cn q C N bs bm hdct sn sub ab col dd k0 k1 k2 k3 k5 "ValueError.__new__")/\c.heap.get? e=b3 (MK C t D)/\E (.ref e) c) (Aa (At (wpAny_Call_ofName (At h (λf c i=>?_) λ_ _ x=>x)) (λv n k=>Aa (Dn (Ah k))) λ_ _ x=>x)) (λv c z=>?_) λ_ _ z=>z)
 ·obtain⟨rfl,i⟩:=i
  unfold callWith;refine Aa (Bw (At i (λa b z=>Aa (Dn ?_)) λ_ _ x=>x));obtain⟨u,rfl,L,l,G,R,j,y,B,S,tl,I,P,W,z⟩:=z;obtain⟨F,g,d,tk,os⟩:=b;simp only[pl];refine Aa (wpAny_keeperOf_exc j (Aa (me (mg:=mg) m L l G R j y B S tl I P W λh' e tk M=>Aa (Bw (wpAny_point (Ah ?_))))));obtain⟨t,D,p,_⟩:=M.there;exact⟨e,t,b3 D,rfl,M.keeps _ _ j,p,z h' e tk M⟩
 ·obtain⟨e,t,D,rfl,j,r,O⟩:=z
  obtain⟨F,g,d,tk,os⟩:=c;repeat (first|with_reducible refine Hb r ?_|with_reducible refine Hb j ?_|(with_reducible refine Ny j ?_;rw[T])|wp_step)
  exact wpAny_raiseNew_none H O
end
end L2
namespace L2
open PySem PySem.Spec PyProof.Rows
def J0(f b d e a:Uj)(g h:List Uj)(scope:Ut)(pos:Pos)(it acc:Uc)(env:Env):Qz (.ListComp f [⟨b,d,g,0⟩,⟨e,a,h,0⟩] scope pos) 0 it acc env=(do
   Mk d.pos
   match<-pyNext it with
   |none=>pure (.done .next)
   |some v=>
    Ff b it v
    Fk b env v
    let mut ok:=b8
    for c in g do
     if ok then ok<-isTrue c env (eval c env)
    if ok then
     let x<-eval a env
     Mk a.pos
     let x<-Uo a env x
     let _<-runOwn (.compStart (.ListComp f [⟨b,d,g,0⟩,⟨e,a,h,0⟩] scope pos) 1 (<-Ss [x] (Rj x)) acc env) env
    Tx (.compLoop (.ListComp f [⟨b,d,g,0⟩,⟨e,a,h,0⟩] scope pos) 0 it acc env)):=by rfl
section
variable{X:Cx}{K:Aj}{ml:List Nat}{e a b c:Uj}{es:List Uj}{pi pt pe pi2 pt2 pu bt bi ps bs:Bool}{f:VF}{B B':Bs}{O:Nat->Option Ud}{H H0 H1 H':Hp}{σ:St}{δ δ':Ev}{v:V}{d:cF}{p:Ud}{pos:Pos}{ix:List Nat}{nl:Nat}
end
section
variable{X:Cx}{K:Aj}{ml:List Nat}{pi pt pe pi2 pt2 pu:Bool}{pos:Pos}{ix:List Nat}{nl:Nat}{f:VF}
end
theorem comp_stop {prog : Program} {w : World} {A : Around} {s : Shared} {elt tg1 it1 tg2 it2 : Expr} {ifs1 ifs2 : List Expr} {scope : Scope} {pos : Pos} {it acc : Value} {env : Env} {R : Result → Shared → Prop}
    (h : wpAny (model prog w) A (pyNext it) (fun r s₁ => r = none ∧ R (.ok .next) s₁) (fun _ _ => False) s) : codeAny (model prog w) A (.compLoop (.ListComp elt [⟨tg1, it1, ifs1, 0⟩, ⟨tg2, it2, ifs2, 0⟩] scope pos) 0 it acc env) R s := by
  refine codeAny_loop rfl (fun _ s' => s' = s) (fun n s' hI => ?_) 0 rfl
  subst hI
  show wpAny _ A ((compTurn (.ListComp elt [⟨tg1, it1, ifs1, 0⟩, ⟨tg2, it2, ifs2, 0⟩] scope pos) 0 it acc env).onRaise (fun x => do noteFrame x env; theTreesLotGoes x)) _ _ s'
  refine wpAny_noted ?_
  rw [J0]
  refine wpAny_bind (wpAny_standAt (wpAny_bind (wpAny_mono h (fun r s₁ h₁ => ?_) fun _ _ h' => h'.elim)))
  obtain ⟨rfl, h₁⟩ := h₁
  exact wpAny_pure h₁
theorem comp_core0 {X : Cx} {pins : List (Addr × Obj)} {σ : St} {H2 : Hp} {s2 : Shared} {E : Value → Shared → Prop} {tg iter tg2 it2 elt : Expr} {ifs ifs2 : List Expr} {scope : Scope} {pos : Pos}
    {cl : List (Str × Addr)} {J : It} {fp : List Addr} {it : Addr} {tn : Nat → Heap → Prop} {Q : V → Hp → Prop} {RR : Value → Addr → Result → Shared → Prop}
    (hc : X.calm = true) (I2 : bM X pins σ H2 s2) (T : D8 X.prog X.w X.K tg J fp it tn) (st2 : tn 0 s2.heap) (f2 : ∀ b ∈ fp, NB X pins H2 b)
    (h : ∀ D, H2 D = none → J.stop 0 (upd H2 D (.lst [])) ∧ Q (.ref D) (upd H2 D (.lst [])))
    (fin : ∀ (D C : Addr) (s' : Shared) (H' : Hp), bM X pins σ H' s' → (∃ m, s'.heap.Ns C m) → C ≠ X.env.locals → (∀ x c, X.env.cells.lookup x = some c → c ≠ C) →
      (∀ (σ' : St) (s'' : Shared) (h'' : Heap), bM X pins σ' H' s'' → Heap.SameBut C s''.heap h'' → bM X pins σ' H' { s'' with heap := h'' }) → Q (.ref D) H' → RR (.ref D) C (.ok .next) s') :
    wpAny (model X.prog X.w) X.A (newList []) (fun acc s₃ => wpAny (model X.prog X.w) X.A (newFunctionEnv scope X.env.globals cl [] X.env.qual none .none (some X.env)) (fun cenv s₄ =>
      codeAny (model X.prog X.w) X.A (.compStart (.ListComp elt [⟨tg, iter, ifs, 0⟩, ⟨tg2, it2, ifs2, 0⟩] scope pos) 0 (.ref it) acc { cenv with scope := relabel scope X.env }) (RR acc cenv.locals) s₄) E s₃) E s2 := by
  refine wpAny_newObj_type (M3 ?_)
  dsimp only
  have I1 : bM X pins σ (upd H2 s2.heap.objs.size (.lst [])) { s2 with heap := s2.heap.push { cls := .type "list", dict := none, data := .seq ([] : List Value).toArray } } :=
    I2.lnew (t' := s2.toks) (ys := []) (its := []) .nil (Nat.zero_le _)
  obtain ⟨stop, q⟩ := h _ (I2.hok.fresh (Nat.le_refl _))
  generalize hs1 : ({ s2 with heap := s2.heap.push { cls := .type "list", dict := none, data := .seq ([] : List Value).toArray } } : Shared) = s1 at I1
  have hheap : s2.heap.push { cls := .type "list", dict := none, data := .seq ([] : List Value).toArray } = s1.heap := by rw [← hs1]
  rw [hheap]
  have old : ∀ b o, s1.heap.get? b = some o → (pushCells (s1.heap.push { cls := .type "dict", data := .dict #[] }) scope.names).get? b = some o := fun b o e => pushCells_keeps _ _ _ _ (Heap.get?_push_of_some _ e)
  have hns₁ : (pushCells (s1.heap.push { cls := .type "dict", data := .dict #[] }) scope.names).Ns s1.heap.objs.size (fun _ => none) := (Heap.Ns.new s1.heap (.type "dict")).keeps fun b o e => pushCells_keeps _ _ _ _ e
  generalize hz1 : pushCells (s1.heap.push { cls := .type "dict", data := .dict #[] }) scope.names = h₁ at old hns₁
  have hsz1 : s1.heap.objs.size = s2.heap.objs.size + 1 := by rw [← hheap, Heap.size_push]
  have fpIn : ∀ b ∈ fp, b < s2.heap.objs.size := fun b hb => by
    obtain ⟨o, e, _⟩ := T.obj _ _ st2 b hb
    exact Heap.lt_size e
  have st1 : tn 0 h₁ := T.keep 0 s2.heap h₁ st2 fun b hb o e => old b o (by rw [← hheap]; exact Heap.get?_push_of_some _ e)
  have loop : ∀ s₃ : Shared, s₃ = { s1 with heap := h₁ } → ∀ env acc, acc = .ref s2.heap.objs.size →
      codeAny (model X.prog X.w) X.A (.compLoop (.ListComp elt [⟨tg, iter, ifs, 0⟩, ⟨tg2, it2, ifs2, 0⟩] scope pos) 0 (.ref it) acc env) (RR (.ref s2.heap.objs.size) s1.heap.objs.size) s₃ := by
    rintro s₃ rfl env acc rfl
    obtain ⟨o, es, ep, ho, hd, hr⟩ := hns₁
    have fC := I1.fpOk (Nat.le_refl _) (I1.hok.fresh (Nat.le_refl s1.heap.objs.size))
    have IP := (I1.kept (t' := s1.toks) old).pinned (fp := [s1.heap.objs.size]) (fun b hb => by rw [List.mem_singleton.mp hb]; exact fC) (fun b hb => by rw [List.mem_singleton.mp hb]; exact ⟨o, ho, fun v z => by rw [hd] at z; cases z⟩)
    refine comp_stop (wpAny_mono (T.done X rfl rfl rfl hc 0 _ _ σ _ (fun _ _ => False) IP (fun b hb => ?_) st1 stop) (fun r s4 ⟨hr', I4⟩ => ⟨hr', ?_⟩) fun _ _ z => z)
    · obtain ⟨a1, a2, a3, a4, a5, a6⟩ := f2 b hb
      refine ⟨by rw [bA (Nat.ne_of_lt (fpIn b hb))]; exact a1, a2, a3, a4, a5, fun p hp z => ?_⟩
      rcases List.mem_append.mp hp with hp | hp
      · exact a6 p (List.mem_append_left _ hp) z
      · rcases List.mem_append.mp hp with hp | hp
        · exact a6 p (List.mem_append_right _ hp) z
        · rw [List.mem_singleton.mp (lh hp).1] at z
          have := fpIn b hb
          lia
    · have pC := I4.pin (s1.heap.objs.size, o) (List.mem_append_right _ (List.mem_append_right _ (X7 (List.mem_singleton.mpr rfl) ho)))
      exact fin _ _ s4 _ I4.unpinned ⟨_, o, es, ep, pC.1, hd, hr⟩ (Nat.ne_of_gt I1.lt) (fun x c e z => fC.2.2.2.2.1 x c e z) (fun σ'' s'' h'' I'' sb => bM.offNew I1 I'' pC.2.1 fun b o hb e => (sb.2 b hb).trans e) q
  have e2 : ({ s2 with heap := h₁ } : Shared) = { s1 with heap := h₁ } := by rw [← hs1]
  exact codeAny_compStart_list (loop _ e2 _ _ rfl) (T.self _ 0 _ _ _ st1 (loop _ e2 _ _ rfl))
def fComp0 (fi : VI) : VF := fun δ => (fi δ).bind fun p => if p.1.isEmpty = true then some (.lst [], p.2) else none
def tComp0 (wi : TI) : TE := fun σ H Q => wi σ H fun J H0 => ∀ D, H0 D = none → J.stop 0 (upd H0 D (.lst [])) ∧ Q (.ref D) (upd H0 D (.lst []))
section
variable {X : Cx} {K : PySem.W.Frag} {ml : List Nat} {pi pu : Bool} {pos : Pos} {ix : List Nat} {σ : St} {H : Hp}
theorem tv_comp0 {fi : VI} {Q : VK} (h : TN K ml pi (fComp0 fi) σ H Q) : tComp0 (TIV K ml pi fi) σ H Q := by
  obtain ⟨B, O, δ, d, δ2, S, q, k⟩ := h
  unfold fComp0 at q
  obtain ⟨⟨ds, δ1⟩, h1, q⟩ := Option.bind_eq_some_iff.mp q
  dsimp only at q
  split at q
  · rename_i hz
    cases q
    have e : ds = [] := List.isEmpty_iff.mp hz
    subst e
    exact ⟨B, O, δ, [], _, S, h1, fun J kps H0 S0 f0 p0 wk D hD => ⟨(wk _ _ fun p hp => (S0.same (bZ hD)).kep p (List.mem_append_left _ hp)).2, k D _ (mkN S0.unkeep f0 p0 hD .nil)⟩⟩
  · cases q
theorem vs_setC0 {i : Nat} {y : Str} {py spos : Pos} {tg iter tg2 it2 elt : Expr} {ifs ifs2 : List Expr} {scope : Scope} (N' : List Str) (ix : List Nat) {fi : VI} (o : Bool)
    (hN : X.N.Nodup) (hi : PI X tg iter (TIV K ml pi fi)) (hi' : X.N[i]? = some y := by rfl) (hy : X.env.scope.names.lookup y = some .local := by rfl)
    (hc : X.calm = true := by rfl) (hk : scope.kind = .function := by rfl) (hok : NF X.N N' ix scope.names X.env.kindOf = true := by rfl) (hm : i ∉ ml := by decide)
    (hsw : swapsWith (.ListComp elt [⟨tg, iter, ifs, 0⟩, ⟨tg2, it2, ifs2, 0⟩] scope pos) (some (.Name y py)) spos.line X.env = pure true := by rfl)
    (hs : ∀ x, foldedSetIterable iter X.env x = pure x := by intro _; rfl) : PS X (.Assign [.Name y py] (.ListComp elt [⟨tg, iter, ifs, 0⟩, ⟨tg2, it2, ifs2, 0⟩] scope pos) spos) (U7 K ml (ZZ i (if o then xO (fComp0 fi) else xV (fComp0 fi)))) := by
  refine PS.imp (t := tAsg (tComp0 (TIV K ml pi fi)) (EO i)) ?_ fun D σ H h => DS (fun σ H Q z => tv_comp0 (Ve (pu := pi) z)) hm h
  have S := WM hk hok
  intro pins s σ H D I h
  rw [exec_Assign_Name_used _ _ _ _ hsw]
  refine wpAny_bind (wpAny_standAt (wpAny_bind ?_))
  show wpAny _ X.A (do let _ ← comprehension (.ListComp elt [⟨tg, iter, ifs, 0⟩, ⟨tg2, it2, ifs2, 0⟩] scope pos) scope X.env _ (newList []) false (eval iter X.env) (some (assign (.Name y py) X.env))) _ _ s
  obtain ⟨cl, e1, e2, e3⟩ := GK (env := X.env) (scope := scope) fun y hy hf => I.ok.has y.1 (S.free y hy hf)
  refine wpAny_bind (wpAny_mono (wpAny_comprehension_free (use := some (assign (.Name y py) X.env)) (cl := cl) (Q := fun _ s' => SP X pins D .next s') rfl hs e1 S.kind S.names
    (wpAny_mono (hi pins s σ H _ I h) (fun xv s₁ h₁ => wpAny_mono h₁ (fun itv s₂ h₂ => ?_) fun _ _ e => e) fun _ _ e => e)) (fun _ s' hq => wpAny_pure (wpAny_pure hq)) fun _ _ e => e)
  obtain ⟨it, fp, tn, J, H2, e, I2, T, st2, f2, q⟩ := h₂
  subst e
  refine comp_core0 (Q := fun v H' => D.nx (σ.set i (some v)) H') (RR := fun acc C => compPost (model X.prog X.w) X.A X.xe (some (assign (.Name y py) X.env)) (fun _ s' => SP X pins D .next s') acc C) hc I2 T st2 f2 q ?_
  intro Dl C s' H' I' hm hC1 hC2 hb hq
  obtain ⟨m, hm⟩ := hm
  show wpAny _ X.A (assign (.Name y py) X.env (.ref Dl)) _ _ _
  refine wpAny_assign_Name (NY I' hN hi' (.inl hy) (v := .ref Dl) rfl (fun s'' I'' ⟨a, hsb, ha⟩ => ?_) (.inr hy))
  have hCa : C ≠ a := by
    rcases ha with z | z
    · rw [z]; exact hC1
    · exact Ne.symm (hC2 y a z)
  exact ⟨m, hm.sameBut hsb hCa, fun h'' sb => ⟨_, H', hb _ s'' h'' I'' sb, hq⟩⟩
end
end L2
namespace TS
open PySem PySem.W PyProof.Rows
structure En where
 prog:Be
 w:Ul
 A:Bx
 s:Ae
 κ:Rb
 it:Array Keyed
def En.Ok(n:Nat)(ck:Nat->Nat->Bool)(e:En):Prop:=∀i j,i<n->j<n->∀C:Bool->Ae->Prop,C (ck i j) e.s->kas_cmp e.prog e.w e.A e.κ e.it i j C e.s
abbrev En.at(e:En)(i:Nat):Keyed:=Lr e.it i
abbrev En.of(e:En)(p:Array Nat):Array Keyed:=p.map (Lr e.it)
structure Pu where
 p:Array Nat
 pd:Array (Nat×Nat×Nat)
 g:Nat
def stO(e:En)(x:Pu):Jg:=Ld e.κ (e.of x.p) x.pd x.g b4
section
variable{n:Nat}{ck:Nat->Nat->Bool}
def D(n:Nat)(ck:Nat->Nat->Bool){α:Type}(f:En->StateT Jg Ux α)(x:Pu)(a:En->α)(y:Pu):Prop:=
 ∀e:En,e.Ok n ck->∀(E:Uc->Ae->Prop) (Q:α->Jg->Ae->Prop),Q (a e) (stO e y) e.s->kasC (Uf e.prog e.w) e.A E (f e) Q (stO e x) e.s
def X(n:Nat)(ck:Nat->Nat->Bool){α a:Type}(f:En->StateT Jg Ux α)(x:Pu)(v:a->En->α)(R:a->Pu->Prop):Prop:=∃t y,R t y/\D n ck f x (v t) y
def D.pure{α:Type}{a:En->α}{x:Pu}:D n ck (λe=>Ru (a e)) x a x:=λe _ E Q h=>kasC_pure h
def D.bind{α β:Type}{f:En->StateT Jg Ux α}{k:En->α->StateT Jg Ux β}{x y z:Pu}{a:En->α}{b:En->β}(h1:D n ck f x a y)(h2:D n ck (λe=>k e (a e)) y b z):D n ck (λe=>f e>>=k e) x b z:=
 λe o E Q h=>Rv (h1 e o E _ (h2 e o E Q h))
def D.get{x:Pu}:D n ck (λ_=>MonadState.get) x (λe=>stO e x) x:=λe _ E Q h=>kasC_get h
def D.modify{F:En->Jg->Jg}{x y:Pu}(h:∀e,F e (stO e x)=stO e y):D n ck (λe=>modify (F e)) x (λ_=>⟨⟩) y:=λe _ E Q q=>Rw (by rw[h e];exact q)
def D.rule{r:String}{x:Pu}:D n ck (λ_=>(liftM (PySem.rule r):StateT Jg Ux Unit)) x (λ_=>()) x:=λe _ E Q q=>kasC_lift (Gy q)
theorem D.elem{q:Array Nat}{i:Nat}{x:Pu}(hi:i<q.size):D n ck (λe=>elem' (e.of q) i) x (λe=>e.at (q.getD i 0)) x:=λe _ E Q h=>by
 have b:(e.of q)[i]?=b3 (e.at (q.getD i 0)):=by
  have a:q.getD i 0=q[i]:=by simp[Array.getD,hi]
  rw[a];simp[En.of,En.at,hi]
 show kasC _ _ _ (elem' (e.of q) i) Q _ _;rw[elem'_eq,b];exact kasC_pure h
theorem D.lt{i j:Nat}{x:Pu}(hi:i<n)(a:j<n):D n ck (λe=>lt' (e.at i) (e.at j)) x (λ_=>b3 (ck i j)) x:=λe o E Q h=>by show kasC _ _ _ (lt' (e.at i) (e.at j)) Q _ _;rw[lt'_eq];refine Rv (kasC_get ?_);refine Rv (kasC_lift (Lo (At (o i j hi a (λc s'=>c=ck i j/\s'=e.s) ⟨rfl,rfl⟩) (λc s' hc=>?_) λ_ _ b=>b.elim)));obtain⟨rfl,rfl⟩:=hc;exact kasC_pure h
theorem D.ltAt{i j:Nat}{x:Pu}(hi:i<x.p.size)(a:j<x.p.size)(bi:x.p.getD i 0<n)(b:x.p.getD j 0<n):D n ck (λ_=>ltAt' i j) x (λ_=>b3 (ck (x.p.getD i 0) (x.p.getD j 0))) x:=λe o E Q h=>by show kasC _ _ _ (ltAt' i j) Q _ _;rw[ltAt'_eq];refine Rv (kasC_get ?_);exact(D.bind (D.elem hi) (D.bind (D.elem a) (D.lt bi b)):D n ck (λe=>elem' (e.of x.p) i>>=λu=>elem' (e.of x.p) j>>=λv=>lt' u v) x _ x) e o E Q h
def D.rev{i j:Nat}{x:Pu}:D n ck (λ_=>reverseSlice' i j) x (λ_=>()) {x with p:=kas_rev x.p i j}:=λe o E Q h=>by show kasC _ _ _ (reverseSlice' i j) Q _ _;rw[reverseSlice'_eq];refine Rw ?_;have a:mirror (e.of x.p) i j ((j-i)/2)=e.of (mirror x.p i j ((j-i)/2)):=kas_swaps_map (Lr e.it) (λk=>i+k) (λk=>j-1-k) _ x.p;show Q () (Ld e.κ (mirror (e.of x.p) i j ((j-i)/2)) x.pd x.g b4) e.s;rw[a];exact h
def D.move{k l:Nat}{x:Pu}:D n ck (λ_=>moveDown' k l) x (λ_=>()) {x with p:=bubble x.p k (k-l)}:=λe o E Q h=>by show kasC _ _ _ (moveDown' k l) Q _ _;rw[moveDown'_eq];refine Rw ?_;have a:bubble (e.of x.p) k (k-l)=e.of (bubble x.p k (k-l)):=kas_swaps_map (Lr e.it) (λi=>k-i) (λi=>k-i-1) _ x.p;show Q () (Ld e.κ (bubble (e.of x.p) k (k-l)) x.pd x.g b4) e.s;rw[a];exact h
def X.ret{α b:Type}{a:En->α}{x:Pu}{v:b->En->α}{R:b->Pu->Prop}(t:b)(h:R t x)(c:∀e,a e=v t e:=by intro e;rfl):X n ck (λe=>Ru (a e)) x v R:=
 ⟨t,x,h,by rw[show a=v t from funext c];exact D.pure⟩
def X.go{α β b:Type}{f:En->StateT Jg Ux α}{k:En->α->StateT Jg Ux β}{x y:Pu}{a:En->α}{v:b->En->β}{R:b->Pu->Prop}(h1:D n ck f x a y)(h2:X n ck (λe=>k e (a e)) y v R):X n ck (λe=>f e>>=k e) x v R:=by obtain⟨t,z,h,d⟩:=h2;exact⟨t,z,h,D.bind h1 d⟩
def X.bind{α β b a:Type}{f:En->StateT Jg Ux α}{k:En->α->StateT Jg Ux β}{x:Pu}{u:a->En->α}{S:a->Pu->Prop}{v:b->En->β}{R:b->Pu->Prop}(h1:X n ck f x u S)(h2:∀t y,S t y->X n ck (λe=>k e (u t e)) y v R):X n ck (λe=>f e>>=k e) x v R:=by obtain⟨t,y,h,d⟩:=h1;exact X.go d (h2 t y h)
noncomputable def sv{β a:Type}(v:a->En->β):a ⊕ a->En->ForInStep β
 |.inl t,e=>.yield (v t e)
 |.inr t,e=>.done (v t e)
def sR{a:Type}(I J:a->Pu->Prop):a ⊕ a->Pu->Prop
 |.inl t,x=>I t x
 |.inr t,x=>J t x
theorem X.loop{β a:Type}{v:a->En->β}{I:Nat->a->Pu->Prop}{J:a->Pu->Prop}{f:En->Nat->β->StateT Jg Ux (ForInStep β)}(c:∀t x,I 0 t x->J t x):∀(l:List Nat) (t:a) (x:Pu),(∀i∈l,∀(k:Nat) (t:a) (x:Pu),I (k+1) t x->X n ck (λe=>f e i (v t e)) x (sv v) (sR (I k) J))->I l.length t x->X n ck (λe=>forIn l (v t e) (f e)) x v J
 |[],t,x,_,h=>⟨t,x,c t x h,λe o E Q q=>kasC_nil q⟩
 | i :: l,t,x,hs,h => by
  obtain⟨r,y,b,d⟩:=hs i Bb l.length t x h;cases r with
  |inr t'=>exact⟨t',y,b,λe o E Q q=>kasC_cons (d e o E _ q)⟩
  |inl t'=>
   obtain⟨u,z,g,j⟩:=X.loop c l t' y (λi hi=>hs i (Aq _ hi)) b;exact⟨u,z,g,λe o E Q q=>kasC_cons (d e o E _ (j e o E Q q))⟩
def X.range{β g:Type}{v:g->En->β}{I:Nat->g->Pu->Prop}{J:g->Pu->Prop}{f:En->Nat->β->StateT Jg Ux (ForInStep β)}{a b:Nat}{t:g}{x:Pu}{c:En->β}(j:∀t x,I 0 t x->J t x)(l:I (b-a) t x)(hs:∀i,a<=i->i<b->∀(k:Nat) (t:g) (x:Pu),I (k+1) t x->X n ck (λe=>f e i (v t e)) x (sv v) (sR (I k) J))(hc:∀e,c e=v t e:=by intro e;rfl):X n ck (λe=>forIn [a:b] (c e) (f e)) x v J:=by
 rw[show c=v t from funext hc];obtain⟨u,z,h,d⟩:=X.loop j (List.range' a (b-a)) t x (λi hi=>by
  have:=List.mem_range'_1.mp hi
  exact hs i this.1 (by omega)) (by rw[List.length_range'];exact l)
 exact⟨u,z,h,λe o E Q q=>kasC_range (d e o E Q q)⟩
def X.yield{β b:Type}{v:b->En->β}{I J:b->Pu->Prop}{a:En->β}{x:Pu}(t:b)(h:I t x)(c:∀e,a e=v t e:=by intro e;rfl):X n ck (λe=>Ru (Df (a e))) x (sv v) (sR I J):=
 X.ret (.inl t) h λe=>by rw[c e];rfl
def X.done{β b:Type}{v:b->En->β}{I J:b->Pu->Prop}{a:En->β}{x:Pu}(t:b)(h:J t x)(c:∀e,a e=v t e:=by intro e;rfl):X n ck (λe=>Ru (ForInStep.done (a e))) x (sv v) (sR I J):=
 X.ret (.inr t) h λe=>by rw[c e];rfl
end
section
variable{n:Nat}{ck:Nat->Nat->Bool}
def X.ite{α d:Type}{c:Prop}{f:En->Decidable c}{a b:En->StateT Jg Ux α}{x:Pu}{v:d->En->α}{R:d->Pu->Prop}(h1:c->X n ck a x v R)(h2:¬c->X n ck b x v R):X n ck (λe=> @_root_.ite _ c (f e) (a e) (b e)) x v R:=by
 by_cases h:c
 ·simpa only[if_pos h]using h1 h
 ·simpa only[if_neg h]using h2 h
def Pm(n:Nat)(p:Array Nat):Prop:=p.toList.Perm (Az n)
def Pm.sz{p:Array Nat}(h:Pm n p):p.size=n:=by
 have:=h.length_eq
 simpa using this
def Pm.lt{p:Array Nat}(h:Pm n p){i:Nat}(hi:i<n):p.getD i 0<n:=by
 have hs:=h.sz;have a:i<p.size:=by lia
 have e:p.getD i 0=p[i]:=by simp[Array.getD,a]
 rw[e];exact Cv.mp (h.mem_iff.mp (by simp))
def Pm.rev{p:Array Nat}(h:Pm n p)(i j:Nat):Pm n (kas_rev p i j):=Rx (Kj.mp (mirror_perm p i j _)) h
def Pm.move{p:Array Nat}(h:Pm n p)(i j:Nat):Pm n (bubble p i j):=Rx (Kj.mp (bubble_perm p i j)) h
def Pm.cmp{x:Pu}(h:Pm n x.p){i j:Nat}(hi:i<n)(a:j<n):D n ck (λ_=>ltAt' i j) x (λ_=>b3 (ck (x.p.getD i 0) (x.p.getD j 0))) x:=
 D.ltAt (by rw[h.sz];exact hi) (by rw[h.sz];exact a) (h.lt hi) (h.lt a)
def X.st{α a:Type}{f:En->StateT Jg Ux α}{x z:Pu}{v:a->En->α}{R:a->Pu->Prop}{P:Pu->Pu->Prop}(h:∀z,P x z->X n ck f z v R)(hz:P x z):X n ck f z v R:=h z hz
def Kp(n:Nat)(x y:Pu):Prop:=Pm n y.p/\y.pd=x.pd
def count{lo m:Nat}{x:Pu}(d:Pm n x.p)(h1:1<=m)(e:lo+m<=n):X n ck (λ_=>countRun' lo m) x (λt _=>b3 t) (λt y=>1<=t/\t<=m/\Kp n x y):=by
 refine X.bind (u:=λ(t:Nat) _=>(b4,t)) (S:=λt y=>1<=t/\t<=m/\y=x) ?_ ?_
 ·refine X.range (I := λk t y => 1 <= t /\ t + k = m /\ y = x) (t := 1) (λt y h => ⟨h.1,by lia,h.2.2⟩) ⟨by lia,by lia,rfl⟩ λi _ _ k t y ⟨b,c,a⟩ => ?_
  subst a;refine X.go (d.cmp (by lia) (by lia)) ?_;refine X.ite (λ_=>X.done t ⟨b,by lia,rfl⟩) λ_=>X.yield (t+1) ⟨by lia,by lia,rfl⟩
 ·rintro t y ⟨b,c,rfl⟩
  have k0:Kp n y y:=⟨d,rfl⟩;refine X.ite (λ_=>X.ret t ⟨b,c,k0⟩) λq0=>?_;have q1:t+1<=m:=by
   have:t≠m:=λz=>q0 (by rw[z];exact beq_self_eq_true _)
   lia
  refine X.ite (λq2=>X.go (d.cmp (by lia) (by lia)) (X.ite (λ_=>X.ret t ⟨b,c,k0⟩) λ_=>X.go D.rev (X.st (P:=Kp n) (x:=y) ?_ ⟨d.rev _ _,rfl⟩))) λq2=>X.st (P:=Kp n) (x:=y) ?_ k0
  all_goals
   intro z hz;refine X.go D.rule ?_;refine X.bind (u:=λ(t:Nat×Nat) _=>(b4,t)) (S:=λt z=>1<=t.1/\t.1<=m/\Kp n y z) ?_ ?_
   ·refine X.range (I := λk t z => 1 <= t.1 /\ t.1 + k = m /\ Kp n y z) (t := (t + 1,0)) (λt y h => ⟨h.1,by lia,h.2.2⟩) ⟨by lia,by dsimp only;lia,hz⟩ λi _ _ k t y ⟨b,c,a⟩ => ?_
    obtain⟨t,q⟩:=t;dsimp only at b c;refine X.go (a.1.cmp (by dsimp only;lia) (by dsimp only;lia)) ?_;refine X.ite (λ_=>X.ite (λ_=>X.go D.rev (X.yield (t+1,0) ⟨by dsimp only;lia,by dsimp only;lia,a.1.rev _ _,a.2⟩)) λ_=>X.yield (t+1,0) ⟨by dsimp only;lia,by dsimp only;lia,a⟩) λ_=>?_;refine X.go (a.1.cmp (by dsimp only;lia) (by dsimp only;lia)) ?_;exact X.ite (λ_=>X.done (t,q) ⟨b,by dsimp only;lia,a⟩) λ_=>X.yield (t+1,q+1) ⟨by dsimp only;lia,by dsimp only;lia,a⟩
   ·rintro ⟨t,q⟩ z ⟨b,c,a⟩
    dsimp only at b c;refine X.ite (λ_=>X.go D.rev (X.st (P:=Kp n) (x:=y) ?_ ⟨a.1.rev _ _,a.2⟩)) λ_=>X.st (P:=Kp n) (x:=y) ?_ a
    all_goals
     intro z hz;refine X.go D.rev ?_;refine X.bind (u:=λ(t:Nat) _=>(b4,t)) (S:=λt z=>1<=t/\t<=m/\Kp n y z) ?_ λt z h=>X.ret t h;refine X.range (I:=λk t z=>1<=t/\t+k=m/\Kp n y z) (t:=t) (λt y h=>⟨h.1,by lia,h.2.2⟩) ⟨by lia,by dsimp only;lia,hz.1.rev _ _,hz.2⟩ λi _ _ k t y ⟨b,c,a⟩=>?_;refine X.go (a.1.cmp (by lia) (by lia)) ?_;exact X.ite (λ_=>X.done t ⟨b,by lia,a⟩) λ_=>X.yield (t+1) ⟨by lia,by lia,a⟩
def bin{lo m ok:Nat}{x:Pu}(c:Pm n x.p)(g:lo+m<=n):X n ck (λ_=>binarySort' lo m ok) x (λ(_:Unit) _=>b8) (λ_ y=>Kp n x y):=by
 refine X.bind (u:=λ(_:Unit) _=>(b4,())) (S:=λ_ y=>Kp n x y) ?_ λt z h=>X.ret () h;refine X.range (I:=λ_ _ z=>Kp n x z) (t:=()) (λt y h=>h) ⟨c,rfl⟩ λj f e k t y b=>?_;refine X.bind (u:=λ(t:Nat×Nat) _=>(b4,t)) (S:=λt z=>t.2<=j/\z=y) ?_ ?_
 ·refine X.range (I := λ_ t z => t.2 <= j /\ z = y) (t := (0,j)) (λt y h => h) ⟨Am _,rfl⟩ λi _ _ k t z ⟨a,d⟩ => ?_
  obtain⟨l,r⟩:=t;dsimp only at a;subst d;refine X.ite (λ_=>X.done (l,r) ⟨a,rfl⟩) λq=>?_;refine X.go (b.1.cmp (by dsimp only at q⊢;lia) (by dsimp only at q⊢;lia)) ?_;exact X.ite (λ_=>X.yield (l,(l+r)/2) ⟨by dsimp only at q⊢;lia,rfl⟩) λ_=>X.yield ((l+r)/2+1,r) ⟨a,rfl⟩
 ·rintro ⟨l,r⟩ z ⟨a,rfl⟩
  exact X.go D.move (X.yield () ⟨b.1.move _ _,b.2⟩)
end
section
variable{n:Nat}{ck:Nat->Nat->Bool}
def lv(e:En)(o:Array Nat):(e.of o).size=o.size:=by simp[En.of]
end
def Pm.id(n:Nat):Pm n (Az n).toArray:=by unfold Pm;simp
def xS(n:Nat):Pu:=⟨(Az n).toArray,#[],7⟩
section
variable{prog:Be}{w:Ul}{A:Bx}{E:Uc->Ae->Prop}{s:Ae}
def jR(vs:List Uc):(Az vs.length).map (λi=>vs.getD i Value.none)=vs:=by
 refine Kz λi=>?_;by_cases h:i<vs.length
 ·simp[h]
 ·simp[h]
end
section
variable{prog:Be}{w:Ul}{A:Bx}{E:Uc->Ae->Prop}{s:Ae}
def EX(p q:Int×Int):Bool:=if p.1=q.1 then decide (p.2<q.2)else decide (p.1<q.1)
def jO{x y:Ud}{a b c d:Int}{t u t' j:Uz}{C:Bool->Ae->Prop}(i:IsTup s.heap x #[.int a t,.int b u])(g:IsTup s.heap y #[.int c t',.int d j])(h:C (EX (a,b) (c,d)) s):Ue (Uf prog w) A (keyLt' (tuples' b8) (.ref x) (.ref y)) C E s:=by
 obtain⟨o,i,_,n,dx⟩:=i;obtain⟨l,g,_,m,k⟩:=g;refine kat_lt i dx g k ?_;refine kat_cons (Lu (kat_go (λe=>kat_yes ?_) λe=>kat_no ?_))
 ·have e : a = c := by simpa using e
  refine kat_cons (Lu (kat_go (λf=>kat_yes (kat_nil ?_)) λf=>kat_no ?_))
  ·have f : b = d := by simpa using f
   have:EX (a,b) (c,d)=ba:=by simp[EX,e,f]
   rw[this]at h;exact h
  ·refine kat_one _ _ (lt_int ?_)
   have:EX (a,b) (c,d)=decide (b<d):=by simp[EX,e]
   rw[this]at h;exact h
 ·have e : ¬ a = c := by simpa using e
  have:EX (a,b) (c,d)=decide (a<c):=by simp[EX,e]
  rw[this]at h;exact oneLt_int h
def PrI(h:Um):List Uc->List (Int×Int)->Prop
 |[],[]=>True
 |v::vs,p::ps=>(∃a t u,v=.ref a/\IsTup h a #[.int p.1 t,.int p.2 u])/\PrI h vs ps
 |_,_=>False
theorem PrI.keep{h h':Um}(k:∀b o,h.get? b=b3 o->h'.get? b=b3 o):∀{vs:List Uc}{ps:List (Int×Int)},PrI h vs ps->PrI h' vs ps
 |[],[],_=>trivial
 |_::_,_::_,⟨⟨a,t,u,e,q⟩,r⟩=>⟨⟨a,t,u,e,q.keeps k⟩,PrI.keep k r⟩
 |[],_::_,r=>r.elim
 |_::_,[],r=>r.elim
theorem PrI.at{h:Um}:∀{vs:List Uc}{ps:List (Int×Int)}{i:Nat},PrI h vs ps->i<vs.length->∃a t u,vs.getD i Value.none=.ref a/\IsTup h a #[.int (ps.getD i (0,0)).1 t,.int (ps.getD i (0,0)).2 u]
 |[],[],i,_,hi=>by simp at hi
 |_::_,_::_,0,r,_=>r.1
 |v::vs,p::ps,i+1,r,hi=>by
  have:=PrI.at (i:=i) r.2 (by simpa using hi)
  simpa using this
 |[],_::_,i,r,_=>r.elim
 |_::_,[],i,r,_=>r.elim
theorem PrI.tups{h:Um}:∀{vs:List Uc}{ps:List (Int×Int)},PrI h vs ps->∃fs,KatTups h vs fs/\fs.length=vs.length/\∀v∈fs,∃i t,v=.int i t
 |[],[],_=>⟨[],trivial,rfl,λ_ h=>by cases h⟩
 |_::_,_::_,⟨⟨a,t,u,e,o,d,c,n,hd⟩,r⟩=>by
  obtain⟨fs,h1,h2,f⟩:=PrI.tups r;subst e;refine⟨.int _ t::fs,KatTups.cons d c hd rfl h1,by simp[h2],λv b=>?_⟩;rcases Ai.mp b with rfl|b
  ·exact⟨_,_,rfl⟩
  ·exact f v b
 |[],_::_,r=>r.elim
 |_::_,[],r=>r.elim
def ckP(ps:List (Int×Int))(i j:Nat):Bool:=EX (ps.getD i (0,0)) (ps.getD j (0,0))
end
end TS
namespace L2
open PySem PySem.Spec PyProof.Rows
variable{X:Cx}{K:Aj}
noncomputable def prD:cF->Option (Int×Int)
 |.tup [.int a,.int b]=>b3 (a,b)
 |_=>b4
def LB:List cF->Option (List (Int×Int))
 |[]=>b3 []
 |d::ds=>(prD d).bind λp=>(LB ds).map λps=>p::ps
def PrV(K:Aj)(H:Hp):List V->List (Int×Int)->Prop
 |[],[]=>True
 |v::vs,p::ps=>(∃a,v=.ref a/\U6 K H a [.int p.1,.int p.2])/\PrV K H vs ps
 |_,_=>False
def mV{d:cF}{p:Int×Int}(h:prD d=b3 p):d=.tup [.int p.1,.int p.2]:=by
 unfold prD at h;split at h
 ·cases h;rfl
 ·cases h
theorem A9{H:Hp}{N:Ud->Prop}:∀{xs:List V}{ds:List cF}{ps:List (Int×Int)},bD K N H xs ds->LB ds=b3 ps->PrV K H xs ps
 |_,_,_,.nil,h=>by cases h;trivial
 | _,_,ps,@bD.cons _ _ _ v vs d ds h t,e => by
  have e:(prD d).bind (λp=>(LB ds).map λps=>p::ps)=b3 ps:=e;cases h1:prD d with
  |none=>rw[h1]at e;cases e
  |some p=>
   rw[h1]at e;have e:(LB ds).map (λps=>p::ps)=b3 ps:=e;cases h2:LB ds with
   |none=>rw[h2]at e;cases e
   |some c=>
    rw[h2]at e;cases e;have:=mV h1
    subst this;refine⟨?_,A9 t h2⟩;cases h.onT with
    |tup sq r=>
     cases r with
     |cons b r=>
      cases b.onI;cases r with
      |cons a r=>
       cases a.onI;cases r;exact⟨_,rfl,sq⟩
theorem PrV.prI{H:Hp}{aa:List (Ud×Uq)}{σ:St}{s:Ae}(I:bM X aa σ H s):∀{xs:List V}{c:List Uc}{ps:List (Int×Int)},PrV X.K H xs ps->aK xs c->TS.PrI s.heap c ps
 |[],_,[],_,.nil=>trivial
 | _ :: _,_,_ :: _,⟨⟨a,e,q⟩,r⟩,.cons h t => by
  subst e;cases h;obtain⟨its,b,j,_⟩:=I.tuple q;cases b with
  |cons i b=>
   obtain⟨f,rfl⟩:=i;cases b with
   |cons g b=>
    obtain⟨d,rfl⟩:=g;cases b;exact⟨⟨a,f,d,rfl,j⟩,PrV.prI I r t⟩
 |[],_,_::_,h,_=>h.elim
 |_::_,_,[],h,_=>h.elim
theorem PrV.len{H:Hp}:∀{xs:List V}{ps:List (Int×Int)},PrV K H xs ps->xs.length=ps.length
 |[],[],_=>rfl
 |_::_,_::_,r=>by simp[PrV.len r.2]
 |[],_::_,r=>r.elim
 |_::_,[],r=>r.elim
theorem JT{xs:List V}{a:List Uc}(r:aK xs a):∀l:List Nat,(∀i∈l,i<xs.length)->aK (l.map λi=>xs.getD i .non) (l.map λi=>a.getD i Value.none)
 |[],_=>.nil
 |i::l,h=>by
  have hi:=h i Bb;obtain⟨u,h1,h2⟩:=aK.get (i:=i) (x:=xs[i]) r (by simp[hi]);refine .cons ?_ (JT r l λj b=>h j (Aq _ b));have d:xs.getD i .non=xs[i]:=by simp[hi]
  have c:a.getD i Value.none=u:=by simp[h1]
  show aG (xs.getD i .non) (a.getD i Value.none);rw[d,c];exact h2
theorem JI{H:Hp}{N:Ud->Prop}{xs:List V}{ds:List cF}(r:bD K N H xs ds):∀l:List Nat,bD K N H (l.map λi=>xs.getD i .non) (l.map λi=>ds.getD i .non)
 |[]=>.nil
 | i :: l => by
  have one:∀{xs:List V}{ds:List cF}(i:Nat),bD K N H xs ds->aD K N H N (xs.getD i .non) (ds.getD i .non):=by
   intro xs ds i r;induction r using bD.rec (motive_1:=λ_ _ _ _=>True) generalizing i with
   |nil=>simpa using aD.non
   |cons h t _ a=>cases i with
    |zero=>simpa using h
    |succ i=>simpa using a i
   |_=>trivial
  exact .cons (one i r) (JI r l)
def mo:typeLookup (.type "list") ("keys":Ug)=pure b4:=am_miss_of_fast (by decide+kernel)
section
variable{prog:Be}{w:Ul}{A:Bx}{E:Uc->Ae->Prop}{s:Ae}
def oa{a:Ud}{o:Uq}{xs:Array Uc}{k:Nat}{Q:Option Uc->Ae->Prop}(l:s.heap.get? a=b3 o)(hc:o.cls=.type "list")(n:o.data=.seq xs k)(hd:o.dict=b4)(q:A.handled=b4)(h:∀h' tk,(∀b j,s.heap.get? b=b3 j->h'.get? b=b3 j)->Q b4 {s with heap:=h',toks:=tk}):Ue (Uf prog w) A (Te (.ref a) "keys") Q E s:=by
 obtain⟨c,dct,r,sl⟩:=o;simp only at hc n hd;subst hc n hd;obtain⟨p,g,d,tk,os⟩:=s;have m:∀f,(⟨p,g,d,f,os⟩:Ae).TypeIs (.ref a) "list":=λ_=>⟨_,l,rfl⟩;have f1:=sub_AttributeError;have f3:=F.slot_list_getattribute.lookup;have y:=F.slot_list_getattribute.bind (.ref a);have x:=am_list_getattr_none;unfold Te getAttrBy? getAttrBy
 (repeat (any_goals (first|assumption|exact m _|((with_reducible show Ue _ _ (call (Tc "list.__getattribute__") _ _) _ _ _);refine Gb F.slot_list_getattribute (m _) am_entry_list_getattribute (F.args_list_getattribute_2 _ _) (meets_getattribute_miss_list a xs k sl "keys" _ mo (by decide) (by size_fits)) ⟨l,q,λh' f e i=>?_⟩)|wp_step)))
 obtain⟨u,t,v⟩:=i.there;show(Ue _ _ (Ow _ _ _ _ _ _ _) _ _ _);unfold Ow
 (repeat (any_goals (first|assumption|wp_step)))
 exact h _ _ i.keeps
end
def II:entryFor table "dict.update.loop"=b3 Fe.«dict.update.loop» :=entryFor_of_tree (by kernel_rfl)
def Q7:plainId "dict.update.loop"=b8:=by decide+kernel
def PrK(prog:Be)(w:Ul)(h:Um):List Uc->List (Z8×Uc)->Prop
 |[],[]=>True
 |v::vs,p::ps=>(∃a key,v=.ref a/\IsTup h a #[key,p.2]/\(Z5 prog w).is p.1 key=b8)/\PrK prog w h vs ps
 |_,_=>False
section
variable{prog:Be}{w:Ul}{A:Bx}{E:Uc->Ae->Prop}{s:Ae}
theorem PrK.keep{h h':Um}{C:Ud->Prop}(k:∀b o,C b->h.get? b=b3 o->h'.get? b=b3 o):∀{vs:List Uc}{ps:List (Z8×Uc)},(∀a,Bo a∈vs->C a)->PrK prog w h vs ps->PrK prog w h' vs ps
 |[],[],_,_=>trivial
 |_::_,_::_,c,⟨⟨a,key,e,⟨o,f,r⟩,q⟩,d⟩=>⟨⟨a,key,e,⟨o,k a o (c a (by rw[e];exact Bb)) f,r⟩,q⟩,PrK.keep k (λa g=>c a (Aq _ g)) d⟩
 |[],_::_,_,r=>r.elim
 |_::_,[],_,r=>r.elim
def C7{a:Ud}{k v:Uc}{Q:List Uc->Ae->Prop}(h:IsTup s.heap a #[k,v])(q:Q [k,v] s):Ue (Uf prog w) A (Mg (.ref a)) Q E s:=by obtain⟨o,b,hc,n,hd⟩:=h;unfold Mg;refine(Aa (Kl (T:= "tuple") ⟨o,b,hc⟩ ?_));rw[if_pos (by decide)];exact(Aa (Fc b hd (Ah q)))
theorem Wk{R:Oe->Ae->Prop}{I D:Ud}{fp d:List Ud}{items:Array Uc}{St:Nat->Um->Prop}(W:Walks prog w A.in1 I fp d items.size (λi v=>items[i]?=b3 v) St)(c:D∉fp):∀(vs:List Uc) (ps:List (Z8×Uc)) (j:Nat) (i:Int) (s:Ae) (kvs:List (Z8×Uc)),items.toList.drop j=vs->j+vs.length=items.size->St j s.heap->s.heap.DictOf (Z5 prog w) D kvs->kvs.length+vs.length<=sizeLine->PrK prog w s.heap vs ps->(∀a,Bo a∈vs->a∉d/\a≠D)->(∀g tk,g.DictOf (Z5 prog w) D (ps.foldl (λl p=>Tk l p.1 p.2) kvs)->(∀b o,b∉d->b≠D->s.heap.get? b=b3 o->g.get? b=b3 o)->R (.ok (.ret .none)) {s with heap:=g,toks:=tk})->Fl (Uf prog w) A (.builtin "dict.update.loop" ⟨[.ref D,.ref I,rawInt i,.none],[]⟩) R s
 | [],ps,j,i,s,kvs,e,F,k,hd,hz,n,x,J => by
  have f:D∉d:=λz=>c (W.sub _ z);cases ps with
  |cons p ps=>exact n.elim
  |nil=>
   refine Mw II (by rw[Nd Q7 _];show(Ue _ A.in1 (pyNext (.ref I)>>=_) _ _ s);refine(Aa (W.done s _ _ (by rw[show items.size=j by simpa using F.symm];exact k) λg tk kept=>?_));show(Ue _ A.in1 (Builtin.Dict.addKeywords D []>>=_) _ _ _);refine(Aa (Ah (Ah ?_)));obtain⟨o,es,K,E,r⟩:=hd;exact J g tk ⟨o,es,K,kept _ _ f E,r⟩ λb o m _ e=>kept b o m e)
 | v :: vs,ps,j,i,s,kvs,e,F,k,hd,hz,n,x,J => by
  have f:D∉d:=λz=>c (W.sub _ z);cases ps with
  |nil=>exact n.elim
  |cons p ps=>
   obtain⟨⟨a,key,rfl,S,T⟩,n⟩:=n;obtain⟨O,Z⟩:=x a Bb;simp only[Br]at F hz;have X:items[j]?=b3 (.ref a):=by
    have:=congrArg (λl=>l[0]?) e
    simpa using this
   have Y:items.toList.drop (j+1)=vs:=by
    have:=congrArg List.tail e
    simpa using this
   refine Mw II (by
    rw[Nd Q7 _];show(Ue _ A.in1 (pyNext (.ref I)>>=_) _ _ s);refine(Aa (W.item j s _ _ (by lia) k λv g tk pv P kept=>?_));obtain rfl:v=.ref a:=by rw[X]at pv;cases pv;rfl
    obtain⟨o,E,r⟩:=S;obtain⟨N,es,K,B,M⟩:=hd;refine(Aa (Bw (Aa (wpAny_tryCatch (C7 (s:={s with heap:=g,toks:=tk}) ⟨o,kept _ _ O E,r⟩ ?_)))));refine(Bw (wpAny_dictSet_pairs (s:={s with heap:=g,toks:=tk}) (kvs:=kvs) T ⟨N,es,K,kept _ _ f B,M⟩ (λV H q=>?_) (by lia)));have L:∀b o,b∉d->b≠D->s.heap.get? b=b3 o->V.get? b=b3 o:=λb o m t e=>(q.2 b t).trans (kept b o m e);refine(Ah ⟨plainId_quiet Q7 _,Wk W c vs ps (j+1) (i+1) _ (Tk kvs p.1 p.2) Y (by lia) (W.frame _ _ _ P λb u o e=>(q.2 b (λz=>c (by rw[<-z];exact u))).trans e) H ?_ (PrK.keep (C:=λb=>b∉d/\b≠D) (λb o u e=>L b o u.1 u.2 e) (λa h=>x a (Aq _ h)) n) (λa h=>x a (Aq _ h)) ?_⟩)
    ·have:=stored_length_le kvs p.1 p.2
     lia
    ·exact λU y G Q=>J U y G λb o m t e=>Q b o m t (L b o m t e))
end
section
variable{prog:Be}{w:Ul}{A:Bx}{E:Uc->Ae->Prop}{s:Ae}
def CK{l:Ud}{vs:List Uc}{ps:List (Z8×Uc)}{Q:Uc->Ae->Prop}(K:A.handled=b4)(pl:PlainL s.heap l vs.toArray)(hz:vs.length<=sizeLine)(u:PrK prog w s.heap vs ps)(h:∀g tk,g.DictOf (Z5 prog w) s.heap.objs.size (ps.foldl (λl p=>Tk l p.1 p.2) [])->(∀b o,s.heap.get? b=b3 o->g.get? b=b3 o)->Q (.ref s.heap.objs.size) {s with heap:=g,toks:=tk}):Ue (Uf prog w) A (call (.type "dict") [.ref l]) Q E s:=by
 refine(callType_codes (Q₁:=λobj d=>obj=.ref s.heap.objs.size/\d={s with heap:=s.heap.push {cls:=.type "dict",data:=.dict #[]}}) F.kt_called_dict (F.kt_typeCall_dict_1 _) F.entry_dict_init (kt_code_dict_new _ ⟨rfl,rfl⟩) ?_);rintro obj d ⟨rfl,rfl⟩;have H:(s.heap.push {cls:=.type "dict",data:=.dict #[]}).DictOf (Z5 prog w) s.heap.objs.size []:=Rn s.heap;obtain⟨o,n,J,hc,hd,L⟩:=pl;have r:(s.heap.push {cls:=.type "dict",data:=.dict #[]}).get? l=b3 o:=Ad _ J;refine⟨H.typeIs,F.args_dict_init_2 _ _,?_⟩;unfold Fe.«dict.__init__»;refine(Aa ?_);unfold Builtin.Dict.selfAndRest;refine(Aa (wpAny_notOrdered_dict H.typeIs ?_));show(Ue _ _ (pure (s.heap.objs.size,[Bo l])) _ _ _);refine(Ah ?_);show(Ue _ _ (Ls "dict.__init__" s.heap.objs.size (.ref l) [] .none) _ _ _);unfold Ls;refine(Aa (Kl (T:= "list") ⟨o,r,hc⟩ ?_));rw[if_pos (by decide)];refine(Aa (oa r hc L hd (by simp[K]) λf y k1=>?_));simp only[Option.isNone_none,if_true];refine(Aa (Gy ?_));have O:f.get? l=b3 o:=k1 _ _ r;have od:f.get? s.heap.objs.size=b3 {cls:=.type "dict",data:=.dict #[]}:=k1 _ _ (Ba _ rfl);have j:s.heap.objs.size<f.objs.size:=Al od;have k:l<s.heap.objs.size:=Al J;have x:f.IsList l vs.toArray:=⟨o,O,hc,n,L⟩;have I:∀b c,s.heap.get? b=b3 c->f.get? b=b3 c:=λb c q=>k1 b c (Ad _ q);have i:∀b c,s.heap.get? b=b3 c->b∉[f.objs.size]/\b≠s.heap.objs.size:=λb c q=>by
  have:=Al q
  exact⟨λz=>by rw[Ar.mp z]at this;exact absurd (Qd this j) (Bu _),λz=>by rw[z]at this;exact Bu _ this⟩
 have D:∀{vs:List Uc}{ps:List (Z8×Uc)},PrK prog w s.heap vs ps->∀a,Bo a∈vs->∃c,s.heap.get? a=b3 c:=by
  intro vs;induction vs with
  |nil=>intro ps _ a t;cases t
  |cons v vs P=>
   intro ps u a t;cases ps with
   |nil=>exact u.elim
   |cons p ps=>
    rcases Ai.mp t with e|t
    ·obtain⟨⟨b,key,S,⟨c,m,_⟩,_⟩,_⟩:=u
     rw[S]at e;cases e;exact⟨c,m⟩
    ·exact P u.2 a t
 refine(Aa (Gz (s:={s with heap:=f,toks:=y}) x ?_));have W:=Walks.list (prog:=prog) (w:=w) (A:=A.in1.in1) (by simp[K]) f.objs.size l (Bf (Qd k j)) vs.toArray;refine(Ah ⟨plainId_quiet Q7 _,Wk (A:=A.in1) W (λz=>?_) vs ps 0 0 _ [] (by simp) (by simp) ⟨⟨_,Ba _ rfl,rfl,rfl⟩,x.push _⟩ ?_ (by simpa using hz) (PrK.keep (C:=λ_=>True) (λb c _ q=>Ad _ (I b c q)) (λ_ _=>trivial) u) (λa t=>?_) λg tk G kept=>⟨rfl,h g tk G λb c q=>?_⟩⟩)
 ·rcases Ai.mp z with z|z
  ·exact absurd j (by rw[<-z];exact Bu _)
  ·rw[<- Ar.mp z]at k
   exact Bu _ k
 ·obtain⟨N,es,R,B,M⟩:=H
  exact⟨N,es,R,Ad _ (k1 _ _ B),M⟩
 ·obtain⟨c,m⟩:=D u a t
  exact i a c m
 ·exact kept b c (i b c q).1 (i b c q).2 (Ad _ (I b c q))
end
variable{X:Cx}{K:Aj}{H:Hp}{σ:St}{s:Ae}{aa:List (Ud×Uq)}{ml:List Nat}{pa ta ia:Bool}{fa:VF}{a:Uj}{p' pos:Pos}
def kprD:cF->Option (Z8×cF)
 |.tup [k,v]=>(V2 k).map λa=>(a,v)
 |_=>b4
def OU:List cF->Option (List (Z8×cF))
 |[]=>b3 []
 |d::ds=>(kprD d).bind λp=>(OU ds).map λps=>p::ps
def F7(K:Aj)(H:Hp):List V->List (Z8×V)->Prop
 |[],[]=>True
 |v::vs,p::ps=>(∃a,v=.ref a/\U6 K H a [kV p.1,p.2])/\F7 K H vs ps
 |_,_=>False
def jL{d:cF}{p:Z8×cF}(h:kprD d=b3 p):∃k,d=.tup [k,p.2]/\V2 k=b3 p.1:=by
 unfold kprD at h;split at h
 ·rename_i k v
  cases e:V2 k with
  |none=>rw[e]at h;cases h
  |some a=>rw[e]at h;cases h;exact⟨k,rfl,e⟩
 ·cases h
theorem EV{N:Ud->Prop}:∀{xs:List V}{ds:List cF}{kds:List (Z8×cF)},bD K N H xs ds->OU ds=b3 kds->∃kvs:List (Z8×V),F7 K H xs kvs/\kvs.map Ch=kds.map Ch/\bD K N H (kvs.map Dg) (kds.map Dg)
 |_,_,_,.nil,h=>by cases h;exact⟨[],trivial,rfl,.nil⟩
 | _,_,kds,@bD.cons _ _ _ v vs d ds h t,e => by
  have e:(kprD d).bind (λp=>(OU ds).map λps=>p::ps)=b3 kds:=e;obtain⟨p,h1,e⟩:=Ac.mp e;have e:(OU ds).map (λps=>p::ps)=b3 kds:=e;obtain⟨l,h2,e⟩:=As.mp e;cases e;obtain⟨kvs,g,f,c⟩:=EV t h2;obtain⟨k,rfl,i⟩:=jL h1;cases h.onT with
  |tup sq r=>
   cases r with
   |cons b r=>
    cases r with
    |cons a r=>
     cases r;have j:=b.key i;subst j;exact⟨(p.1,_)::kvs,⟨⟨_,rfl,sq⟩,g⟩,by simp[f],.cons a c⟩
theorem F7.prK(I:bM X aa σ H s):∀{xs:List V}{c:List Uc}{kvs:List (Z8×V)},F7 X.K H xs kvs->aK xs c->∃ps:List (Z8×Uc),KV kvs ps/\PrK X.prog X.w s.heap c ps
 |[],_,[],_,.nil=>⟨[],.nil,trivial⟩
 | _ :: _,_,p :: _,⟨⟨b,e,q⟩,r⟩,.cons h t => by
  subst e;cases h;obtain⟨ps,i,g⟩:=F7.prK I r t;obtain⟨its,a,j,_⟩:=I.tuple q;cases a with
  |cons f a=>
   cases a with
   |cons d a=>
    cases a;exact⟨(p.1,_)::ps,.cons ⟨rfl,d⟩ i,⟨b,_,rfl,j,K2 f⟩,g⟩
 |[],_,_::_,h,_=>h.elim
 |_::_,_,[],h,_=>h.elim
theorem F7.len:∀{xs:List V}{ps:List (Z8×V)},F7 K H xs ps->xs.length=ps.length
 |[],[],_=>rfl
 |_::_,_::_,r=>by simp[F7.len r.2]
 |[],_::_,r=>r.elim
 |_::_,[],r=>r.elim
def Xc(K:Aj):RC:=λxs H Q=>∃(p:Ud) (ys:List V) (kvs:List (Z8×V)),xs=[.ref p]/\WW K H p ys/\F7 K H ys kvs/\(kvs.map Ch).Nodup/\∀l:Ud,H l=b4->Q (.ref l) (upd H l (.dK kvs))
def jU(hc:X.calm=b8)(h:X.K=K:=by rfl):ZH X (.type "dict") (Xc K):=by subst h;intro aa s σ H xs n Q I r h;obtain⟨p,ys,kvs,rfl,k,d,j,q⟩:=h;obtain⟨u,rfl,e⟩:=SQ r;cases e;obtain⟨its,c,pl,hz⟩:=I.list k;have t:=c.length;have l:=d.len;obtain⟨ps,i,f⟩:=d.prK I c;refine CK (I.ok.hd hc) pl (by lia) f λg tk hd kept=>?_;have m:UR [] kvs=kvs:=NR (acc:=[]) (by simpa using j);have b:=KV.merge i (kvs:=[]) (vs:=[]) .nil;rw[m]at b;exact⟨.ref s.heap.objs.size,_,I.laid (a:=s.heap.objs.size) (o:=.dK kvs) (t':=tk) kept (Am _) (CL (by lia) (beq_eq_false_iff_ne.mpr (Ck (Bf I.big))) b hd),rfl,q _ (I.hok.fresh (Am _))⟩
def AW:cF->Option cF
 |.lst ds=>(OU ds).bind λkds=>if(kds.map Ch).Nodup then b3 (.dct (kds.map Ch) (kds.map Dg))else b4
 |_=>b4
def CalD(K:Aj)(r:RC)(o:cF->Option cF):Prop:=∀(H:Hp) (N M:Ud->Prop) (x:V) (d c:cF) (Q:VK),aD K N H M x d->o d=b3 c->
 (∀p (kvs:List (Z8×V)) ds,H p=b4->bD K N H (kvs.map Dg) ds->c=.dct (kvs.map Ch) ds->Q (.ref p) (upd H p (.dK kvs)))->r [x] H Q
def oq:CalD K (Xc K) AW:=by
 intro H N M x d c Q j h k;cases d with
 |lst ds=>
  have h:((OU ds).bind λkds=>if(kds.map Ch).Nodup then b3 (cF.dct (kds.map Ch) (kds.map Dg))else b4)=b3 c:=h;obtain⟨kds,h1,h⟩:=Ac.mp h;have h:(if(kds.map Ch).Nodup then b3 (cF.dct (kds.map Ch) (kds.map Dg))else b4)=b3 c:=h;split at h
  ·rename_i i
   cases h;obtain⟨a,xs,rfl,sq,r⟩:=j.lstE;obtain⟨kvs,g,e,f⟩:=EV r h1;exact⟨a,xs,kvs,rfl,sq,g,by rw[e];exact i,λl b=>k l kvs _ b f (by rw[e])⟩
  ·cases h
 |_=>cases h
def mkDK{B:Bs}{O:Nat->Option Ud}{H1:Hp}{δ':Ev}{p:Ud}{pu:Bool}{kvs:List (Z8×V)}{ds:List cF}(S:ZX K ml B O H1 σ δ')(f:Fr (OA O) H H1)(s:pu=b8->Z6 H H1)(a:H1 p=b4)(r:bD K (Nn B O) H1 (kvs.map Dg) ds):ResN K ml B O H σ pu (upd H1 p (.dK kvs)) δ' p (.dct (kvs.map Ch) ds):=
 ⟨S.laid a,f.trans (bZ a).fr,λz=>(s z).trans (bZ a),.dct bK ((r.away a _ _ U1).same (bZ a)),S.new a,S.fresh a⟩
def Zg(r:X.K=K)(hc:X.calm=b8)(n:Gl X "dict")(m:X.mg "dict"=b4)(g:Bp "dict"=b3 (.type "dict"))(o:PE X a (TV K ml pa ta b8 fa))(l:("dict":Ug)≠ "__name__":=by decide)(e:(("dict":Ug)==("__debug__":Ug))=ba:=by decide)(b:SE X a []:=by rfl):PE X (.Call (.Name "dict" p') [a] [] pos) (TN K ml pa (f1 AW fa)):=
 (VQ (jU hc r) n m g (aW o ZB b) l e b).imp λσ H Q h=>by obtain⟨B,O,δ,d,δ',S,q,k⟩:=h;obtain⟨x,h1,h2⟩:=PV q;refine⟨B,O,δ,x,δ',S,h1,λf H1 c=>oq H1 _ _ f x d Q c.rep h2 λp kvs ds j i b=>?_⟩;subst b;exact k p _ (mkDK c.sta c.frm c.pur j i)
def Y7.alive{P:Be}{w:Ul}{H:Hp}{h:Um}{a:Ud}{o:HO}(x:Y7 P w H h a o):∃u,h.get? a=b3 u:=by
 cases o with
 |lst xs=>obtain⟨_,_,_,_,e⟩:=x;exact⟨_,e⟩
 |tup xs=>obtain⟨_,_,_,b,e,_⟩:=x;exact⟨_,e⟩
 |dK kvs=>obtain⟨_,_,_,_,o,_,_,e,_⟩:=x;exact⟨_,e⟩
 |dT kvs=>obtain⟨_,_,_,_,o,_,_,e,_⟩:=x;exact⟨_,e⟩
 |set S n=>obtain⟨o,_,_,_,e,_⟩:=x;exact⟨_,e⟩
 |ins C dx fs=>obtain⟨_,_,_,e,_⟩:=x;exact⟨_,e⟩
 |own y=>exact x
 |xd fs=>obtain⟨_,⟨_,_,_,e,_⟩,_⟩:=x;exact⟨_,e⟩
 |rng lo hi=>obtain⟨_,_,_,e⟩:=x;exact⟨_,e⟩
 |frz b u=>obtain⟨e,_⟩:=x;exact⟨_,e⟩
 |tbl ps=>exact⟨_,(show h.get? a=b3 _ from x)⟩
 |met f y=>exact⟨_,(show h.get? a=b3 _ from x)⟩
 |ext c=>exact x.2.1
structure XP(K:Aj)(C Cp:Ud):Prop where
 at_:Fg K Ui "PackError"=b3 (b3 (.ref Cp))
 ty:W.typeIn K (.ref Cp)=b3 (.type "type")
 cls:(Ry K Cp).isSome=b8
 base:Pr K (.ref Cp) (.type "BaseException")=b3 b8
 sub:Pr K (.ref C) (.ref Cp)=b3 b8
structure XC(K:Aj)(x:Ug)(C:Ud):Prop where
 at_:Fg K Ui x=b3 (b3 (.ref C))
 att:XA K C
 cls:(Ry K C).isSome=b8
 pk:∃Cp,XP K C Cp
structure XE(K:Aj)(x:Ug)(C:Ud):Prop where
 xc:XC K x C
 exc:W.excIn K C vbs "ValueError.__new__"=b8
def ExcF(l:List Env)(g:Um)(H:Hp)(C:Ud)(p:Option Ud)(e:Uc)(h:Um):Prop:=
 ∃a a0 B,e=.ref a/\Ko B l a (.ref C) a0 h/\Dc a p h/\(∀b o,g.get? b=b3 o->b∉SK l->∃o',h.get? b=b3 o'/\B.get? b=b3 o')/\∀b u,H b=b3 u->∃o,h.get? b=b3 o/\B.get? b=b3 o
def CXv(P:Be)(w:Ul):CXT:=λouter H s E e s'=>∃C p H1,s'.os=s.os/\Lh s'.gens/\Un (SK outer) [] H H1 s.heap s'.heap/\QR P w H1 s'.heap/\ExcF outer s.heap H1 C p e s'.heap/\E (.ref C) p H1
def AH{P:Be}{w:Ul}{H:Hp}{h h' B:Um}(ok:QR P w H h)(st:B.StaysIn h')(i:∀b u,H b=b3 u->∃o,h.get? b=b3 o/\B.get? b=b3 o):QR P w H h':=λb u e=>
 (ok b u e).stay (λc v hc q => by
  have:∃u,H c=b3 u:=by
   rcases hc with rfl|hc
   ·exact⟨u,e⟩
   ·exact⟨_,hc⟩
  obtain⟨d,g⟩:=this;obtain⟨o,a,f⟩:=i c d g;rw[q]at a;cases a;exact st c v f) (λ_ q=>q) λ_ _ q=>q
section
variable{X:Cx}{aa:List (Ud×Uq)}{σ:St}{H H1:Hp}{s s':Ae}{g h' B:Um}{C a:Ud}{a0:Uc}
def bM.fly(I:bM X aa σ H s)(st:B.StaysIn h')(w:s.heap.UpToSlots h')(G:∀b o,X.s₀.heap.get? b=b3 o->b∉SK X.stack->∃o',s.heap.get? b=b3 o'/\B.get? b=b3 o')(N:∀p∈X.pn++aa,B.get? p.1=b3 p.2)(O:∀b u,H b=b3 u->∃o,s.heap.get? b=b3 o/\B.get? b=b3 o):bM X aa σ H {s with heap:=h'}:=by
 have A:∀b o,X.s₀.heap.get? b=b3 o->b≠X.env.locals:=λb o e=>Bf (Ay (Al e) I.ok.above);have j:∀b o,X.s₀.heap.get? b=b3 o->b∉X.fs->b∉SK X.stack:=λb o e a z=>(Ai.mp (I.stkSub b z)).elim (A b o e) a;have F:∀b∈X.fs,∀o,s.heap.get? b=b3 o->∃sl,h'.get? b=b3 {o with slots:=sl}:=λb a o e=>by obtain⟨_,o',D,y⟩:=I.funs.mem a;rw[e]at D;cases D;exact w b o e y
 have E:∀x c,X.env.cells.lookup x=b3 c->∀v,s.heap.IsCell c v->h'.IsCell c v:=λx c _ v q0=>by
  obtain⟨o,K,hd⟩:=q0;obtain⟨sl,e⟩:=w c o K λvs q=>by rw[hd]at q;cases q
  exact⟨_,e,hd⟩
 refine⟨I.ok,I.os,I.bare,⟨λb o e n a t=>?_,λb o e n a t=>?_,I.base.free,λb o e t=>?_,I.base.tups,I.base.frzs,I.base.tbls⟩,?_,λx c e=>?_,I.free,I.freeC,λp C=>?_,AH I.hok st O,I.len⟩
 ·obtain⟨o',g,f⟩:=G b o e (j b o e a)
  rw[I.base.keep b o e n a t]at g;cases g;exact st b o f
 ·obtain⟨sl,g⟩:=I.base.slot b o e n a t
  obtain⟨h,f⟩:=F b a _ g;exact⟨h,f⟩
 ·by_cases a:b∈X.fs
  ·obtain⟨o',g⟩:=I.base.there b o e t
   obtain⟨h,f⟩:=F b a _ g;exact⟨_,f⟩
  ·obtain⟨o',g,f⟩:=G b o e (j b o e a)
   exact⟨o',st b o' f⟩
 ·obtain⟨m,L,hl⟩:=I.loc
  refine⟨m,w.ns L,λi x v g f M=>?_⟩;obtain⟨u,r,l⟩:=hl i x v g f M;refine⟨u,r,?_⟩;rcases l with l|⟨k,c,e,z⟩
  ·exact .inl l
  ·exact .inr ⟨k,c,e,E x c e _ z⟩
 ·obtain⟨v,z⟩:=I.cell x c e
  exact⟨v,E x c e v z⟩
 ·obtain⟨e,n,J,y,d⟩:=I.pin p C
  exact⟨st _ _ (N p C),n,J,y,d⟩
structure Low(X:Cx)(aa:List (Ud×Uq))(g:Um):Prop where
 s0:∀b o,X.s₀.heap.get? b=b3 o->b∉SK X.stack->∃o',g.get? b=b3 o'
 pin:∀p∈X.pn++aa,∃o,g.get? p.1=b3 o
def bM.low(I:bM X aa σ H s)(a:X.ex=[]):Low X aa s.heap:=
 ⟨λb o e _=>I.base.there b o e (by rw[a];simp),λp c=>⟨_,(I.pin p c).1⟩⟩
def bM.flyG(I:bM X aa σ H s)(lo:Low X aa g)(st:B.StaysIn h')(h:s.heap.UpToSlots h')(f:∀b o,g.get? b=b3 o->b∉SK X.stack->∃o',s.heap.get? b=b3 o'/\B.get? b=b3 o')(n:∀b u,H b=b3 u->∃o,s.heap.get? b=b3 o/\B.get? b=b3 o):bM X aa σ H {s with heap:=h'}:=by
 refine I.fly st h (λb o e c=>?_) (λp a=>?_) n
 ·obtain⟨o',m⟩:=lo.s0 b o e c
  exact f b o' m c
 ·obtain⟨o,e⟩:=lo.pin p a
  obtain⟨l,_,j,i,_⟩:=I.pin p a;obtain⟨o',d,k⟩:=f p.1 o e λz=>(Ai.mp (I.stkSub _ z)).elim j i;rw[l]at d;cases d;exact k
def RzF(X:Cx)(R:Ug->Option Ud->St->Hp->Prop):Prop:=∀(aa:List (Ud×Uq)) (x:Ug) (C:Ud) (p:Option Ud) (σ:St) (H1:Hp) (e:Uc) (s':Ae) (g:Um),XC X.K x C->bM X aa σ H1 s'->ExcF X.stack g H1 C p e s'.heap->Low X aa g->R x p σ H1->X.xe e s'
def RzM(X:Cx)(R:Ug->Option Ud->St->Hp->Prop):Prop:=∀(aa:List (Ud×Uq)) (x:Ug) (C a:Ud) (args:List Uc) (σ:St) (H1:Hp) (h:Um) (s':Ae),XC X.K x C->bM X aa σ H1 {s' with heap:=h}->Heap.MadeExcOf h s'.heap a (.ref C) args->R x b4 σ H1->X.xe (.ref a) s'
def RzP(X:Cx)(R:Ug->Option Ud->St->Hp->Prop):Prop:=∀(aa:List (Ud×Uq)) (x nm:Ug) (C a:Ud) (v:V) (u:Uc) (σ:St) (H1:Hp) (h:Um) (s':Ae),XC X.K x C->bM X aa σ H1 {s' with heap:=h}->Vb h s'.heap a C nm u->aG v u->(∀D,H1 D=b4->R x (b3 D) σ (upd H1 D (.xd [(nm,v)])))->X.xe (.ref a) s'
end
section
variable{P:Be}{w:Ul}{K:Aj}{mg:Ug->Option Uc}{base:Um}{N:List Ug}{qual:Ug}{scope:Ut}{f:Ud}{cd:Uc}{A:Bx}{outer:List Env}{s:Ae}{H:Hp}{E:XK}
def rE(K:Aj)(E:XK):Ug->Option Ud->St->Hp->Prop:=λx p _ H1=>∀C,XC K x C->E (.ref C) p H1
def A5{aa:List (Ud×Uq)}{σ:St}{H1:Hp}{s':Ae}{g h' B:Um}{C a:Ud}{p:Option Ud}{a0:Uc}{d:Drawn}{tk:Nat}(M:Dc a p h')(I:bM (RK (CXv P w) P w K mg base N qual scope f cd A outer s H E) aa σ H1 s')(lo:∀b o,s.heap.get? b=b3 o->b∉SK (envOfC qual scope s.heap.objs.size f cd::outer)->∃o',g.get? b=b3 o')(k:Ko B outer a (.ref C) a0 h')(F:s'.heap.UpToSlots h')(O:∀b o,g.get? b=b3 o->b∉SK (envOfC qual scope s.heap.objs.size f cd::outer)->∃o',s'.heap.get? b=b3 o'/\B.get? b=b3 o')(D:∀b u,H1 b=b3 u->∃o,s'.heap.get? b=b3 o/\B.get? b=b3 o)(L:E (.ref C) p H1):CXv P w outer H s E (.ref a) {s' with heap:=h',drawn:=d,toks:=tk}:=by
 have bs:Un (SK outer) [] H H1 s.heap s'.heap:=I.base;have r:s'.heap.FunFrames base (envOfC qual scope s.heap.objs.size f cd::outer):=I.stack;have j:∀b o,s.heap.get? b=b3 o->b∉SK outer->∃o',s'.heap.get? b=b3 o'/\B.get? b=b3 o':=λb o q c=>by
  have v:b∉SK (envOfC qual scope s.heap.objs.size f cd::outer):=λz=>by
   rcases Ai.mp (show b∈s.heap.objs.size::SK outer from z)with z|z
   ·have:=Al q
    rw[z]at this;exact absurd this (Bu _)
   ·exact c z
  obtain⟨o',e⟩:=lo b o q v;exact O b o' e v
 have y:∀b∈SK outer,∀o,s'.heap.get? b=b3 o->∃sl,h'.get? b=b3 {o with slots:=sl}:=λb c o e=>by obtain⟨_,o',x,G⟩:=r.mem (Aq _ c:b∈s.heap.objs.size::SK outer);rw[e]at x;cases x;exact F b o e G
 refine⟨C,p,H1,I.os,I.bare,⟨λb o q n c m=>?_,λb o q n c m=>?_,bs.free,λb o q m=>?_,bs.tups,bs.frzs,bs.tbls⟩,AH I.hok k.1 D,⟨a,a0,B,rfl,k,M,λb o e J=>?_,λb u e=>?_⟩,L⟩
 ·obtain⟨o',i,h⟩:=j b o q c
  rw[bs.keep b o q n c m]at i;cases i;exact k.1 b o h
 ·obtain⟨sl,i⟩:=bs.slot b o q n c m
  obtain⟨l,t⟩:=y b c _ i;exact⟨l,t⟩
 ·by_cases c:b∈SK outer
  ·obtain⟨o',i⟩:=bs.there b o q m
   obtain⟨l,t⟩:=y b c _ i;exact⟨_,t⟩
  ·obtain⟨o',i,h⟩:=j b o q c
   exact⟨o',k.1 b o' h⟩
 ·obtain⟨o',i,h⟩:=j b o e J
  exact⟨o',k.1 b o' h,h⟩
 ·obtain⟨o,i,h⟩:=D b u e
  exact⟨o,k.1 b o h,h⟩
def HG:RzM (RK (CXv P w) P w K mg base N qual scope f cd A outer s H E) (rE K E):=by
 intro aa x C a args σ H1 h s' n I M r;have i:h.FunFrames base (envOfC qual scope s.heap.objs.size f cd::outer):=I.stack;have j:∀env∈(envOfC qual scope s.heap.objs.size f cd::outer),∀b,env.frame=b3 b->b∈SK (envOfC qual scope s.heap.objs.size f cd::outer):=λenv p b k=>Hv.mpr ⟨env,p,k⟩;have y:Dc a b4 s'.heap:=by obtain⟨t,e,_⟩:=M.there;exact Dc.of e
 refine KH (KD.leave _ _) y (wpAny_leaves_madeW (base:=Rg h (SK (envOfC qual scope s.heap.objs.size f cd::outer))) (h:=h) (I.ok.frames.trans rfl) rfl (λb o q=>Qa _ q) (Qs i j) M λh' t v _ _ m l=>?_);have c:h.UpToSlots h':=(Tf M.keeps).trans m;exact A5 (s':={s' with heap:=h}) (g:=h) (d:=s'.drawn) (tk:=s'.toks) l I (λb o q _=>I.base.there b o q (λz=>nomatch z)) v c (λb o e k=>⟨o,e,Lg _ e k⟩) (λb u e=>by obtain⟨o,q⟩:=(I.hok b u e).alive;exact⟨o,q,Lg _ q λz=>by have:=I.stkFree b z;rw[e]at this;cases this⟩) (r C n)
def cY:RzP (RK (CXv P w) P w K mg base N qual scope f cd A outer s H E) (rE K E):=by
 intro aa x nm C a v u σ H1 h s' V I M F X;obtain⟨t,D,k,ht,y,n,l⟩:=M.there;have Y:H1 D=b4:=I.hok.fresh y;have j:=I.laid (a:=D) (o:=.xd [(nm,v)]) (h':=s'.heap) (t':=s'.toks) M.keeps y ⟨_,l,λf=>by
  show QS (Hk f [(nm,v)]) (if f=nm then b3 u else b4);by_cases z:f=nm
  ·subst z
   simp[QS,F]
  ·rw[if_neg z]
   simp[Hk,beq_eq_false_iff_ne.mpr z,QS]⟩
 have i:s'.heap.FunFrames base (envOfC qual scope s.heap.objs.size f cd::outer):=j.stack;have J:a∉SK (envOfC qual scope s.heap.objs.size f cd::outer):=λz=>by obtain⟨_,o',B,G⟩:=i.mem z;rw[k]at B;cases B;exact G _ rfl
 have m:∀env∈(envOfC qual scope s.heap.objs.size f cd::outer),∀b,env.frame=b3 b->b∈a::SK (envOfC qual scope s.heap.objs.size f cd::outer):=λenv W b c=>Aq _ (Hv.mpr ⟨env,W,c⟩);refine KH (KD.leave _ _) (Dc.of k) (wpAny_leaving_firstW (base:=Rg s'.heap (a::SK (envOfC qual scope s.heap.objs.size f cd::outer))) (I.ok.frames.trans rfl) (Qs i m) rfl k (λb o q=>Qa _ q) (Ng _ (Bb ..)) rfl rfl rfl λh' L p=>?_);obtain⟨U,⟨_,_,T⟩,S,R⟩:=L;have r:∀b o,s'.heap.get? b=b3 o->b≠a->b∉SK (envOfC qual scope s.heap.objs.size f cd::outer)->(Rg s'.heap (a::SK (envOfC qual scope s.heap.objs.size f cd::outer))).get? b=b3 o:=λb o e Q O=>Lg _ e λz=>(Ai.mp z).elim Q O;refine A5 (s':=s') (g:=h) (d:=s'.drawn) (tk:=s'.toks) p j (λb o q _=>I.base.there b o q (λz=>nomatch z)) ⟨U,Ng _ (Bb ..),T,S⟩ R (λb o e c=>⟨o,M.keeps b o e,r b o (M.keeps b o e) (λz=>by rw[z,M.new]at e;cases e) c⟩) (λb w e=>?_) (X D Y C V);obtain⟨o,q⟩:=(j.hok b w e).alive;refine⟨o,q,r b o q (λz=>?_) λz=>by have:=j.stkFree b z;rw[e]at this;cases this⟩;by_cases c:b=D
 ·exact n (c▸z)
 ·rw[bA c]at e
  obtain⟨Z,q2⟩:=(I.hok b w e).alive;rw[z,show({s' with heap:=h}:Ae).heap.get? a=b4 from M.new]at q2;cases q2
end
def gP{K:Aj}{h:Um}{C:Ud}{c:List Uc}{e:String}(X:K.In h)(q:W.excIn K C c e=b8):∃bm N nm q bs hdct sn sub ab col dd k0 k1 k2 k3 k5 mN,h.get? C=b3 (Gv nm q C N bs bm hdct sn sub ab col dd k0 k1 k2 k3 k5 e)/\h.Ns N mN/\mN "__init__"=b4/\Nx h c bm:=by
 unfold W.excIn at q;split at q
 ·rename_i dd cd sl j
  split at q
  ·rename_i l bm k0 k1 k2 k3 n k5 d hs
   simp only[Af,beq_iff_eq,Ps]at q;obtain⟨⟨⟨⟨⟨rfl,rfl⟩,f⟩,i⟩,a⟩,b⟩:=q;obtain⟨nm,bs,mro,ns,g,hd,sn,sub,ab,col,k⟩:=cd;dsimp only at d f a b;subst d f;obtain⟨sl⟩:=sl;simp only at hs;subst hs;exact⟨bm,ns,nm,g,bs,hd,sn,sub,ab,col,dd,k0,k1,k2,k3,k5,_,X _ _ j,.of_isNs (W.isNs_of_in X a),W.nsMap_none_of_in X a b,W.tail_of_in X i⟩
  ·cases q
 ·cases q
abbrev Xw:=Ug×Option (Ug×cF)
abbrev VZ:=Ev->Option (Xw×Ev)
noncomputable def Pay(K:Aj)(N:Ud->Prop)(H:Hp):Option Ud->Option (Ug×cF)->Prop
 |none,b4=>True
 |some D,b3 (n,d)=>∃v,H D=b3 (.xd [(n,v)])/\aD K N H N v d
 |_,_=>False
def Pay.mono{K:Aj}{N N':Ud->Prop}{H:Hp}{p:Option Ud}{y:Option (Ug×cF)}(h:Pay K N H p y)(b:∀a,N' a->N a):Pay K N' H p y:=by
 unfold Pay at h⊢;split at h
 ·trivial
 ·obtain⟨v,e,r⟩:=h
  exact⟨v,e,r.mono b b⟩
 ·exact h
def TZ(R:Ug->Option Ud->St->Hp->Prop)(K:Aj)(ml:List Nat)(z:VZ)(σ:St)(H:Hp):Prop:=∃B O δ x δ',ZX K ml B O H σ δ/\z δ=b3 (x,δ')/\∀a H' b p,ZX K ml B b H' a δ'->Pay K (Nn B b) H' p x.2->R x.1 p a H'
abbrev ZE(R:Ug->Option Ud->St->Hp->Prop)(K:Aj)(ml:List Nat)(z:VZ):TE:=λσ H _=>TZ R K ml z σ H
abbrev ZS(R:Ug->Option Ud->St->Hp->Prop)(K:Aj)(ml:List Nat)(z:VZ):TS:=λ_ σ H=>TZ R K ml z σ H
section
variable{X:Cx}{K:Aj}{ml:List Nat}{e a b c:Uj}{es:List Uj}{pa ta ia pb tb ib pc tc ic pu bt bi ps bs:Bool}{fa fb fc f:VF}{B B':Bs}{O:Nat->Option Ud}{H H1 H':Hp}{σ:St}{δ δ':Ev}{v:V}{d:cF}{pos:Pos}{st:Up}{rest:List Up}{g g':VS}{z z':VZ}{R:Ug->Option Ud->St->Hp->Prop}
def zNo:VZ:=λ_=>b4
def HM{a:List Up}:V6 X a (ZS R K ml zNo):=λ_ _ _ _ _ _ h=>by obtain⟨_,_,_,_,_,_,q,_⟩:=h;cases q
def F0(z z':VZ):VZ:=λδ=>match z δ with
 |some r=>b3 r
 |none=>z' δ
def nY(h:TZ R K ml (F0 z z') σ H):TZ R K ml z σ H∨TZ R K ml z' σ H:=by
 obtain⟨B,O,δ,x,δ',S,q,k⟩:=h;unfold F0 at q;cases h1:z δ with
 |some r=>rw[h1]at q;exact .inl ⟨B,O,δ,x,δ',S,h1.trans q,k⟩
 |none=>rw[h1]at q;exact .inr ⟨B,O,δ,x,δ',S,q,k⟩
def B6{a:List Up}(h1:V6 X a (ZS R K ml z))(h2:V6 X a (ZS R K ml z')):V6 X a (ZS R K ml (F0 z z')):=λaa s σ H D I h=>
 (nY h).elim (h1 aa s σ H D I) (h2 aa s σ H D I)
noncomputable def DZ(g:VS)(z:VZ):VZ:=λδ=>match g δ with
 |some (.nx δ')=>z δ'
 |_=>b4
def B7(h1:PS X st (U7 K ml g))(h2:V6 X rest (ZS R K ml z)):V6 X (st::rest) (ZS R K ml (DZ g z)):=(O0 h1 h2).imp λD σ H q0=>by
 obtain⟨B,O,δ,x,δ',S,q,k⟩:=q0;unfold DZ at q;split at q
 ·rename_i δ1 b
  exact⟨B,O,δ,.nx δ1,S,b,λa H' d c=>⟨B,d,δ1,x,δ',c,q,k⟩⟩
 ·cases q
def W6(h:PS X st (ZS R K ml z)):V6 X (st::rest) (ZS R K ml z):=(O0 h lB).imp λ_ _ _ h=>h
def DY(t:VB)(z z':VZ):VZ:=λδ=>(t δ).bind λp=>if p.1=b8 then z p.2 else z' p.2
def B5{x y:List Up}{t:VB}(d:PT X c (TB K ml pc t))(f:V6 X x (ZS R K ml z))(e:V6 X y (ZS R K ml z')):PS X (.If c x y pos) (ZS R K ml (DY t z z')):=(Yt d f e).imp λD σ H q0=>by
 obtain⟨B,O,δ,x,δ',S,q,k⟩:=q0;unfold DY at q;cases h1:t δ with
 |none=>rw[h1]at q;cases q
 |some p=>
  obtain⟨a,δ1⟩:=p;rw[h1]at q;refine⟨B,O,δ,a,δ1,S,h1,λH1 b=>?_⟩;cases a with
  |true=>exact NO ⟨B,O,δ1,x,δ',b.sta,q,k⟩
  |false=>exact NN ⟨B,O,δ1,x,δ',b.sta,q,k⟩
def fM{t:VB}(f:PT X c (TB K ml pc t))(h:PE X a (ZE R K ml z))(g:PE X b (ZE R K ml z')):PE X (.IfExp c a b pos) (ZE R K ml (DY t z z')):=(K8 f h g).imp λσ H Q q0=>by
 obtain⟨B,O,δ,x,δ',S,q,k⟩:=q0;unfold DY at q;cases h1:t δ with
 |none=>rw[h1]at q;cases q
 |some p=>
  obtain⟨d,δ1⟩:=p;rw[h1]at q;refine⟨B,O,δ,d,δ1,S,h1,λH1 e=>?_⟩;cases d with
  |true=>exact NO ⟨B,O,δ1,x,δ',e.sta,q,k⟩
  |false=>exact NN ⟨B,O,δ1,x,δ',e.sta,q,k⟩
def mH(h:PE X e (ZE R K ml z)):PS X (.Return (b3 e) pos) (ZS R K ml z):=(DE h).imp λ_ _ _ h=>h
def LU{x:Ug}{w ai p1:Pos}{t:Ug}{j:Nat}(G:X.K=K)(hz:RzM X R)(hc:X.calm=b8)(F:Gl X x)(y:∃C,XE K x C/\X.mg x=b3 (.ref C))(f:(x==("__debug__":Ug))=ba:=by decide)(c:(Ei ai (Uh [.Constant (.str t) j p1] X.env)).any (·.1)=ba:=by rfl):PS X (.Raise (b3 (.Call (.Name x w) [.Constant (.str t) j p1] [] ai)) b4 pos) (ZS R K ml λδ=>b3 ((x,b4),δ)):=by intro aa s σ H D I h;obtain⟨B,O,δ,J,δ',S,q,k⟩:=h;cases q;subst G;obtain⟨C,m,E⟩:=y;obtain⟨bm,N,nm,q,bs,hdct,sn,sub,ab,col,dd,k0,k1,k2,k3,k5,mN,v,u,r,l⟩:=gP I.ok.mod.kin m.exc;refine wpAny_Raise_call_subT (C:=C) (nm:=nm) (q:=q) (N:=N) (bs:=bs) (bm:=bm) (hdct:=hdct) (sn:=sn) (sub:=sub) (ab:=ab) (col:=col) (dd:=dd) (k0:=k0) (k1:=k1) (k2:=k2) (k3:=k3) (k5:=k5) (mN:=mN) He (l.hasType (by decide)) (I.ok.hd hc) c r (TR I F E ⟨rfl,?_⟩ f);have pa:PA X [.Constant (.str t) j p1] _:=aW Xr ZB;refine Ef (At (pa ai aa s σ H (λvs H'=>H'=H/\vs.length=1) I ⟨rfl,rfl⟩) (λg i A=>?_) λ_ _ z=>z);obtain⟨vs,H2,n,p,rfl,hl⟩:=A;have kp:∀b o,X.base.get? b=b3 o->i.heap.get? b=b3 o:=λb o e=>(n.bs b o e).1;refine⟨rfl,?_,kp _ _ v,u.keeps kp,l.keeps kp,λh' a d=>hz aa x C a g σ H2 i.heap _ m.xc n d (k σ H2 O b4 S trivial)⟩;show g.length<=sizeLine;rw[<-p.length,hl];decide
def Yw{x:Ug}{m:Nat}{g:List Ug}{sp:Sp}{k:Ud}{fd:Cr}{p':Pos}{t:TA}{CX:CXT}(F:U4 X.prog X.w X.K X.mg X.base CX m k fd g sp)(n:X1 m X.A)(q:Gl X x)(o:X.mg x=b3 (.ref k))(p:Hx X.K (.ref k)=b8)(d:RE X.K fd g [])(y:PA X (e::es) t)(j:(x==("__debug__":Ug))=ba:=by decide)(v:Uh (e::es) X.env=(ba,eval e X.env)::Uh es X.env:=by rfl)(i:(Ei pos (Uh es X.env)).any (·.1)=ba:=by rfl):PE X (.Call (.Name x p') (e::es) [] pos) (λσ H Q=>t σ H λvs H1=>∃E,(∀(aa:List (Ud×Uq)) (s:Ae) (f:Uc) (s':Ae),bM X aa σ H1 s->CX X.stack H1 s E f s'->X.xe f s')/\sp vs H1 Q E):=by
 intro aa s σ H Q I h;refine Et (TR I q o (Qb (h₀:=X.base) I.ok.mod.kin p (YC (y pos aa s σ H _ I h) λc s1 a=>?_) v i) j);obtain⟨vs,H1,b,l,E,z,hs⟩:=a;have hl:c.length=g.length:=by rw[<-l.length];exact F.len _ _ _ _ hs
 have d:=d s1 c b.kIn (by simpa using hl);rw[Ds]at d;refine⟨b.kIn,Ik (Hl (F.run X.A X.stack s1 H1 ⟨c,[]⟩ c vs Q E n b.env0 d l hs) λr s' a=>?_)⟩;cases r with
 |error f=>exact z aa s1 f s' b a
 |ok B=>cases B with
  |ret u=>exact b.after a
  |next=>cases a
  |brk=>cases a
  |cont=>cases a
def spX(K:Aj)(n:Nat)(a:List cF->Option Xw):Sp:=λvs H _ E=>∃(Z:Ud->Prop) (ds:List cF) (x:Xw),ds.length=n/\Vl K [] Z H vs ds/\a ds=b3 x/\∀C H' p,XC K x.1 C->Z6 H H'->Pay K Z H' p x.2->E (.ref C) p H'
structure DefX(P:Be)(w:Ul)(K:Aj)(mg:Ug->Option Uc)(base:Um)(x:Ug)(k:Nat)(ps:List Ug)(XF:List cF->Option Xw)(f:Ud):Prop where
 at_:mg x=b3 (.ref f)
 ok:∃fd,U4 P w K mg base (CXv P w) k f fd ps (spX K ps.length XF)/\RE K fd ps []
 kp:Hx K (.ref f)=b8
noncomputable def TW:List AV->Option (List cF)
 |[]=>b3 []
 |.d d::as=>(TW as).map λds=>d::ds
 |.o _::_=>b4
theorem JD{N:Ud->Prop}:∀{vs:List V}{as:List AV}{ds:List cF},T7 K N H σ vs as->TW as=b3 ds->vs.length=ds.length/\∀(i:Nat) (d:cF),ds[i]?=b3 d->∃v,vs[i]?=b3 v/\aD K N H N v d
 |_,_,_,.nil,h=>by cases h;exact⟨rfl,λi d e=>by simp at e⟩
 | _,.d a :: as,_,.d r t,h => by
  unfold TW at h;cases e:TW as with
  |none=>rw[e]at h;cases h
  |some ds=>
   rw[e]at h;cases h;obtain⟨h1,h2⟩:=JD t e;refine⟨by simp[h1],λi d q=>?_⟩;cases i with
   |zero=>simp at q;subst q;exact⟨_,rfl,r⟩
   |succ i=>exact h2 i d (by simpa using q)
 |_,.o _::_,_,.o _ _,h=>by cases h
def M8(n:Nat)(a:List cF->Option Xw)(fs:QI):VZ:=λδ=>(fs δ).bind λp=>(TW p.1).bind λds=>if ds.length=n then(a ds).map λx=>(x,p.2)else b4
def ll{fs:QI}{m:List cF->Option Xw}{n:Nat}{Q:VK}(hz:RzF X R)(L:X.K=K)(hex:X.ex=[])(h:TZ R K ml (M8 n m fs) σ H):TAG K ml ps fs σ H λvs H1=>∃E,(∀(aa:List (Ud×Uq)) (s:Ae) (f:Uc) (s':Ae),bM X aa σ H1 s->CXv X.prog X.w X.stack H1 s E f s'->X.xe f s')/\spX K n m vs H1 Q E:=by
 subst L;obtain⟨B,O,δ,x,δ',S,q,k⟩:=h;unfold M8 at q;cases h1:fs δ with
 |none=>rw[h1]at q;cases q
 |some p=>
  obtain⟨as,δ1⟩:=p;rw[h1,An]at q;cases h2:TW as with
  |none=>rw[h2]at q;cases q
  |some ds=>
   rw[h2,An]at q;split at q
   ·rename_i A
    cases l:m ds with
    |none=>rw[l]at q;cases q
    |some T=>
     rw[l]at q;cases q;refine⟨B,O,δ,as,δ1,S,h1,λvs H1 G=>⟨λv p H2=>∃x C,v=.ref C/\XC X.K x C/\R x p σ H2,λaa s f s' I hc=>?_,?_⟩⟩
     ·obtain⟨C,p,H2,os,c,un,ok,F,t,U,u,g,J⟩:=hc
      cases u;exact hz aa t C p σ H2 f s' s.heap g (I.call' os un ok c λb D=>nomatch D) F (I.low hex) J
     ·obtain⟨N,M⟩:=JD G.rep h2
      have o:∀a,Zp (Nn B O) [] vs a->Nn B O a:=λa z=>z.elim id λ⟨i,hi,_⟩=>nomatch hi;refine⟨Nn B O,ds,x,A,⟨N,λi hi=>(nomatch hi),λi d _ e=>?_,λi d hi=>(nomatch hi),λi j a hi=>(nomatch hi),λa z=>G.sta.nin z⟩,l,λC H2 p g hs y=>⟨x.1,C,rfl,g,k σ H2 O p (G.sta.same hs) y⟩⟩;obtain⟨v,P,r⟩:=M i d e;exact⟨v,P,r.mono o o⟩
   ·cases q
def B4{x:Ug}{d j:Nat}{c:List Ug}{f:List cF->Option Xw}{o:Ud}{p':Pos}{fs:QI}(hz:RzF X R)(n:X.K=K)(D:DefX X.prog X.w K X.mg X.base x d c f o)(g:X1 j X.A)(i:d<=j)(k:Gl X x)(hex:X.ex=[])(m:PA X (e::es) (TAG K ml ps fs))(b:(x==("__debug__":Ug))=ba:=by decide)(l:Uh (e::es) X.env=(ba,eval e X.env)::Uh es X.env:=by rfl)(a:(Ei pos (Uh es X.env)).any (·.1)=ba:=by rfl):PE X (.Call (.Name x p') (e::es) [] pos) (ZE R K ml (M8 c.length f fs)):=by obtain⟨fd,F,p⟩:=D.ok;subst n;exact(Yw F (g.mono i) k D.at_ D.kp p m b l a).imp λσ H Q h=>ll hz rfl hex h
end
noncomputable def FM(n:Nat)(z:VZ):List cF->Option Xw:=λds=>(z (aU [] n ds)).map (·.1)
def LX.d{K:Aj}{x qual:Ug}{st:Up}{f:Ud}{fd:Cr}(F:LX K x qual st f fd):N9 K x qual st .none f fd:=⟨F.ex,F.kp⟩
def N9.okX{P:Be}{w:Ul}{K:Aj}{mg:Ug->Option Uc}{base:Um}{x qual:Ug}{st:Up}{f:Ud}{fd:Cr}{N ps:List Ug}{k:Nat}{z:VZ}{I:Uc}(F:N9 K x qual st I f fd)(S:ZI N ps (bX st))(g:ps.length<=N.length)(J:∀(c:Uc) (A:Bx) (outer:List Env) (s:Ae) (H:Hp) (E:XK),X1 k (A.deeper (envOfC qual (bX st) s.heap.objs.size f c))->V6 (RK (CXv P w) P w K mg base N qual (bX st) f c A outer s H E) (aC st) (ZS (rE K E) K [] z)):U4 P w K mg base (CXv P w) (k+1) f fd ps (spX K ps.length (FM N.length z)):=by
 obtain⟨R,od,kV,doc,O,T,c,ct,r,rfl,u,l⟩:=F.ex;refine Vq u l S (λvs H Q E h=>?_) λA outer s H vs Q E v e=>⟨_,J c A outer s H E v,?_⟩
 ·obtain⟨Z,ds,x,j,AV,_⟩:=h
  rw[AV.len,j]
 ·obtain⟨Z,ds,x,j,AV,d,D⟩:=e
  obtain⟨t,B,L⟩:=JO (N:=N) AV (by rw[j];exact g);unfold FM at d;cases h1:z (aU [] N.length ds)with
  |none=>rw[h1]at d;cases d
  |some p=>
   obtain⟨n,δ'⟩:=p;rw[h1]at d;cases d;exact⟨_,t,_,n,δ',L,h1,λm H' U p M y C G=>D C H' p G (λb o q=>M.frm b o q λ⟨i,hi,_⟩=>nomatch hi) (y.mono λa z=>.inl z)⟩
end L2
namespace L2
open PySem PySem.Spec PyProof.Rows PySem.W PySem.Calls PySem.Builtin PySem.Builtin.ObjectAttr PySem.Builtin.Getset_descriptor
section
variable{prog:Be}{w:Ul}{A:Bx}{E:Uc->Ae->Prop}{s:Ae}{K:Uw}{x C:Ud}{o:Uq}{R:Oe->Ae->Prop}
def nW{a:Uc}(X:K.In s.heap)(b:s.heap.get? x=b3 o)(hc:o.cls=.ref C)(F:XA K C)(h:R (.ok (.ret (.ref C))) s):Fl (Uf prog w) A (.call (.builtin "getset_descriptor.__get__") ⟨[.builtin "object.__class__",.ref x,a],[]⟩) R s:=by
 obtain⟨c,g,d,t,os⟩:=s;have f:Looks (Uf prog w) c (Nh (.ref x)) (.ref C):=hc▸(Na b).andThen .now;have e:=looks_mroIn (M:=Uf prog w) X F.mro;refine Fx KF.slot_gs.plain KF.entry_gs (KF.slot_gs.check _ _ _ _ _ _ _ _ KF.type_class (KF.args_gs _ _ _) ?_);unfold Fe.«getset_descriptor.__get__» descrGet;rw[dga_obj];refine Aa (Ah ?_);unfold descrGetter descrCheckInstance descrNameAndClass Lb;simp only[KF.owner_class];repeat lk
 refine⟨Kn _ (by decide+kernel),Mw KF.entry_class ?_⟩;unfold Fe.«object.__class__» shownTypeOf;repeat lk
 exact h
def nQ{tk:Uz}{Q:Fin->Ae->Prop}(X:K.In s.heap)(b:s.heap.get? x=b3 o)(hc:o.cls=.ref C)(F:XA K C)(h:Q (.done (.ret (.ref C))) s):Ue (Uf prog w) A (Fe.«object.__getattribute__» ⟨[.ref x,.str "__class__" tk],[]⟩) Q E s:=by
 obtain⟨a,g,c,t,os⟩:=s;have j:Looks (Uf prog w) a (Nh (.ref x)) (.ref C):=hc▸(Na b).andThen .now;have i:=Ho (M:=Uf prog w) X F.cls;have f:Looks (Uf prog w) a (getOf (b3 (.builtin "object.__class__"))) (b3 (.builtin "getset_descriptor.__get__")):=looks_specialIn X F.get;have e:=looks_takesIn (M:=Uf prog w) X F.tak;have d:Looks (Uf prog w) a (find (.ref x) (.ref C) "__class__") (.bind (.builtin "getset_descriptor.__get__") (.builtin "object.__class__")):=
  i.andThen (f.andThen ((show Looks (Uf prog w) a (dataDescriptor? (b3 (.builtin "object.__class__")) (b3 (.builtin "getset_descriptor.__get__"))) (b3 (.builtin "getset_descriptor.__get__",.builtin "object.__class__")) from e.andThen .now).andThen (Looks.tag .now)))
 unfold Fe.«object.__getattribute__»;repeat (any_goals (first|assumption|with_reducible refine Looks.at j ?_|with_reducible refine Looks.at d ?_|wp_step))
 refine nW (s:=⟨a,g,c,t,os⟩) X b hc F ?_;exact Ah h
def dZ{tk:Uz}(X:K.In s.heap)(b:s.heap.get? x=b3 o)(hc:o.cls=.ref C)(F:XA K C)(h:R (.ok (.ret (.ref C))) s):Fl (Uf prog w) A (.call (.builtin "BaseException.__getattribute__") ⟨[.ref x,.str "__class__" tk],[]⟩) R s:=by
 obtain⟨a,g,c,t,os⟩:=s;have f:Looks (Uf prog w) a (Nh (.ref x)) (.ref C):=hc▸(Na b).andThen .now;have e:=looks_subIn (M:=Uf prog w) X F.sub;have d:builtinKind "BaseException.__getattribute__"=b3 .slot:=by decide+kernel
 have hs:splitId "BaseException.__getattribute__"=b3 ("BaseException","__getattribute__"):=by decide+kernel
 have i:=Nc (.ref x) (.str "__class__" tk);refine Fx PySem.F.excAttr_ValueError.ga.plain Mv (At (Q:=λ_ s'=>s'=⟨a,g,c,t,os⟩) ?_ (λ_ s' z=>?_) λ_ _ z=>z)
 ·simp only[Ly,d,hs]
  unfold Lb;repeat (any_goals (first|rfl|assumption|with_reducible refine Looks.at f ?_|with_reducible refine Looks.at e ?_|wp_step))
 ·subst z
  refine nQ (s:=⟨a,g,c,t,os⟩) X b hc F ?_;exact h
def m8{Q:Option Uc->Ae->Prop}(X:K.In s.heap)(a:s.heap.get? x=b3 o)(hc:o.cls=.ref C)(F:XA K C)(h:Q (b3 (.ref C)) {s with toks:=s.toks+1}):Ue (Uf prog w) A (Te (.ref x) "__class__") Q E s:=by
 obtain⟨b,g,d,t,os⟩:=s;have c:Looks (Uf prog w) b (Nh (.ref x)) (.ref C):=hc▸(Na a).andThen .now;have f:=Ho (M:=Uf prog w) X F.ga;have e:=Ho (M:=Uf prog w) X F.no;have fb:=PySem.F.excAttr_ValueError.ga.bind (.ref x);unfold Te getAttrBy? getAttrBy;refine Aa (Qi (Aa (Lo (Bw (Aa (c.at (Aa (f.at ?_))))))));show Ue _ _ (Jz _ _ _ _ _ _) _ _ _;unfold Jz hookBefore callGetattribute boundAndCalled;repeat (any_goals (first|assumption|with_reducible refine Looks.at c ?_|with_reducible refine Looks.at e ?_|wp_step))
 refine dZ (s:=⟨b,g,d,t+1,os⟩) X a hc F ?_;refine handed_on rfl ?_;first|exact h|exact Ah h|exact Ah (Ah h)
def ET(F:XA K C)(hdct:(clsIn K C).isSome=b8):KitX K (.ref x) (.ref C) (λh=>∃o,h.get? x=b3 o/\o.cls=.ref C) where
 ty:=λM h _ p=>by obtain⟨o,h1,h2⟩:=p;exact h2▸(Na h1).andThen .now
 it:=λ_ _ X _=>by
  unfold clsIn at hdct;split at hdct
  ·rename_i b
   intro g d f s' k q;unfold isType loadHead;exact Aa (Nl (k _ _ (X _ _ b)) (Ah q))
  ·cases hdct
 ne:=λh c dd its n sl X a=>by
  refine Bool.eq_false_iff.mpr λq=>?_;have e:C=c:=Value.ref.inj (beq_iff_eq.mp q);subst e;unfold clsIn at hdct;split at hdct
  ·rename_i b
   have z:=(X _ _ b).symm.trans a;cases z
  ·cases hdct
 ca:=λX p k=>by obtain⟨o,h1,h2⟩:=p;exact m8 X h1 h2 F k
end
end L2
namespace L2
open PySem PySem.Spec PyProof.Rows
structure WZ(k:Nat)(A:Bx):Prop where
 dp:A.depth+3*k+5<Fb
 un:A.units+16*k+200<cLine
def X1.h{k:Nat}{A:Bx}(r:X1 k A):WZ k A:=⟨r.dp,r.un⟩
def WZ.mono{j k:Nat}{A:Bx}(r:WZ k A)(h:j<=k):WZ j A:=⟨by have:=r.dp;lia,by have:=r.un;lia⟩
def WZ.deeper{k:Nat}{A:Bx}(r:WZ (k+1) A)(env:Env):WZ k (A.deeper env):=
 ⟨by have:=r.dp;show A.depth+1+3*k+5<_;lia,by have:=r.un;show A.units+3+16*k+200<_;lia⟩
def WZ.units{k:Nat}{A:Bx}(r:WZ k A):A.units+64<cLine:=by have:=r.un;lia
def WZ.unit{k:Nat}{A:Bx}(r:WZ k A):A.units+1<cLine:=by have:=r.un;lia
def cxH(P:Be)(w:Ul)(K:Aj)(mg:Ug->Option Uc)(base:Um)(N:List Ug)(qual:Ug)(scope:Ut)(f:Ud)(cd:Uc)(A:Bx)(outer:List Env)(s:Ae)(H:Hp):Cx:=
 {RK CX0 P w K mg base N qual scope f cd A outer s H E0 with calm:=ba,xe:=λ_ _=>False}
structure FnH(P:Be)(w:Ul)(K:Aj)(mg:Ug->Option Uc)(base:Um)(k:Nat)(f:Ud)(fd:Cr)(ps:List Ug)(sp:Sp):Prop where
 len:∀vs H Q E,sp vs H Q E->vs.length=ps.length
 run:∀(A:Bx) (outer:List Env) (s:Ae) (H:Hp) (args:Args) (us:List Uc) (vs:List V) (Q:VK),WZ k A->Env0 P w K mg base A outer s H->Ph s fd args (ps.zip us)->aK vs us->sp vs H Q E0->
  Fl (Uf P w) A (.call (.ref f) args) (CR CX0 outer P w H s Q E0) s
def bM.around{X:Cx}{a:Bx}{aa:List (Ud×Uq)}{σ:St}{H:Hp}{s:Ae}{xe:Uc->Ae->Prop}(I:bM X aa σ H s)(b:a.frames=X.A.frames):bM {X with A:=a,calm:=ba,xe:=xe} aa σ H s:=
 ⟨⟨I.ok.mod,I.ok.kind,I.ok.glob,I.ok.blt,I.ok.above,I.ok.inj,I.ok.has,I.ok.cab,λz=>(nomatch z),b.trans I.ok.frames,I.ok.stk,I.ok.exf,I.ok.bs,I.ok.bsz,I.ok.noex,I.ok.exfs,I.ok.funs,I.ok.frf⟩,I.os,I.bare,I.base,I.loc,I.cell,I.free,I.freeC,I.pin,I.hok,I.len⟩
def bM.back{X:Cx}{a:Bx}{aa:List (Ud×Uq)}{σ:St}{H:Hp}{s:Ae}{xe:Uc->Ae->Prop}(ok:X.Ok)(I:bM {X with A:=a,calm:=ba,xe:=xe} aa σ H s):bM X aa σ H s:=
 ⟨ok,I.os,I.bare,I.base,I.loc,I.cell,I.free,I.freeC,I.pin,I.hok,I.len⟩
def LX.okH{P:Be}{w:Ul}{K:Aj}{mg:Ug->Option Uc}{base:Um}{x qual:Ug}{st:Up}{f:Ud}{fd:Cr}{N ps:List Ug}{k:Nat}{sp:Sp}(F:LX K x qual st f fd)(S:ZI N ps (bX st))(len:∀vs H Q E,sp vs H Q E->vs.length=ps.length)(Y:∀(a:Uc) (A:Bx) (outer:List Env) (s:Ae) (H:Hp) (vs:List V) (Q:VK),WZ k (A.deeper (envOfC qual (bX st) s.heap.objs.size f a))->sp vs H Q E0->∃t,V6 (cxH P w K mg base N qual (bX st) f a A outer s H) (aC st) t/\t {nx:=λ_ H'=>Q .non H',rt:=Q} (start N vs) H):FnH P w K mg base (k+1) f fd ps sp:=by
 obtain⟨oc,od,kV,doc,pm,an,a,ct,B,rfl,C,l⟩:=F.ex;refine⟨len,λA outer s H args z vs Q m c O r g=>?_⟩;have hl:=len _ _ _ _ g;have p:K.In s.heap:=c.mod.kin.keeps λb o e=>(c.bs b o e).1;have j:s.heap.NoLimit:=c.mod.nolimit.keeps λb o e=>(c.bs b o e).1;have X:∀y∈ps.zip z,(bX st).names.lookup y.1=b3 .local∨((bX st).names.lookup y.1=b3 .cell/\((Us (s.heap.objs.size+1) (bX st).names []).lookup y.1).isSome=b8):=λ⟨n,v⟩ D=>by
  rcases S.par n (Hy D).1 with q|q
  ·exact .inl q
  ·exact .inr ⟨q,Lw _ _ _ (.inl q)⟩
 have T:A.depth<Fb:=by have:=m.dp;lia
 refine Iy T (p _ _ C) rfl S.co S.gen rfl (W.codeRec_of p l) (O _ _ _ _ ?_);refine Hd S.kind X λenv M s1 x=>?_;subst M;refine⟨j.keeps x.toInCall.keep,Qc ?_⟩;obtain⟨t,G,L⟩:=Y a A outer s H vs Q (m.deeper _) g;have U:Env0 P w K mg base {A with handled:=b4} outer s H:=⟨c.frames,c.mod,c.bs,c.bsz,c.funs,c.frf,c.hok,c.bare⟩;have Z:bM (RK CX0 P w K mg base N qual (bX st) f a {A with handled:=b4} outer s H E0) [] (start N vs) H s1:=IN S rfl U hl r x;have I:bM (cxH P w K mg base N qual (bX st) f a A outer s H) [] (start N vs) H s1:=Z.around rfl;refine At (G [] s1 (start N vs) H _ I L) (λR s' hs=>?_) λe s' hs=>(show False from hs).elim;have h:∀{d:St}{H':Hp}{v:V}{u:Uc},bM (cxH P w K mg base N qual (bX st) f a A outer s H) [] d H' s'->aG v u->Q v H'->CE outer P w H s Q u s':=
  λ{d H' v u} J i q=>⟨v,H',J.os,J.bare,J.base,J.hok,i,q⟩
 cases R with
 |ret u=>
  obtain⟨v,d,H',J,i,q⟩:=hs;exact h J i q
 |next=>
  obtain⟨d,H',J,q⟩:=hs;exact h (v:=V.non) (u:=Value.none) J rfl q
 |brk=>
  obtain⟨_,_,_,q⟩:=hs;cases q
 |cont=>
  obtain⟨_,_,_,q⟩:=hs;cases q
structure DefH(P:Be)(w:Ul)(K:Aj)(mg:Ug->Option Uc)(base:Um)(x:Ug)(k:Nat)(ps:List Ug)(sp:Sp)(f:Ud):Prop where
 at_:mg x=b3 (.ref f)
 ok:∃fd,FnH P w K mg base k f fd ps sp/\RE K fd ps []
 kp:Hx K (.ref f)=b8
section
variable{X:Cx}{K:Aj}{ml:List Nat}{e a b c:Uj}{es:List Uj}{ps:Bool}{pos:Pos}
def iL{x:Ug}{k j n:Nat}{i:List Ug}{mF:List Nat}{F:aJ}{C:Ud}{p':Pos}{fs:QI}(D:DefH X.prog X.w K X.mg X.base x k i (spV K mF n F) C)(o:WZ j X.A)(y:PA X (e::es) (TAG K ml ps fs))(z:X.K=K:=by rfl)(p:k<=j:=by decide)(q:Gl X x:=by rfl)(f:(x==("__debug__":Ug))=ba:=by decide)(v:Uh (e::es) X.env=(ba,eval e X.env)::Uh es X.env:=by rfl)(d:(Ei pos (Uh es X.env)).any (·.1)=ba:=by rfl):PE X (.Call (.Name x p') (e::es) [] pos) (TV K ml (ps&&mF.isEmpty) b8 b8 (bW n mF F fs)):=by
 subst z;obtain⟨fd,m,E⟩:=D.ok;refine PE.imp (t:=BR (spV X.K mF n F) [] E0 (TAG X.K ml ps fs)) (λaa s σ H Q I h=>?_) λ_ _ _ h=>HL h;refine Et (TR I q D.at_ (Qb (h₀:=X.base) I.ok.mod.kin D.kp (YC (y pos aa s σ H _ I h) λb s1 a=>?_) v d) f);obtain⟨vs,H1,c,g,hs⟩:=a;rw[Ds]at hs;have hl:b.length=i.length:=by rw[<-g.length];exact m.len _ _ _ _ hs
 have l:=E s1 b c.kIn (by simpa using hl);rw[Ds]at l;refine⟨c.kIn,Ik (Hl (m.run X.A X.stack s1 H1 ⟨b,[]⟩ b vs Q (o.mono p) c.env0 l g hs) λr s' a=>?_)⟩;cases r with
 |error G=>cases a
 |ok B=>cases B with
  |ret u=>exact c.after a
  |next=>cases a
  |brk=>cases a
  |cont=>cases a
end
def LX.okVH{P:Be}{w:Ul}{K:Aj}{mg:Ug->Option Uc}{base:Um}{x qual:Ug}{st:Up}{f:Ud}{fd:Cr}{N ps:List Ug}{k:Nat}{ml:List Nat}{g:VS}(F:LX K x qual st f fd)(S:ZI N ps (bX st))(b:ps.length<=N.length)(e:∀(a:Uc) (A:Bx) (outer:List Env) (s:Ae) (H:Hp),WZ k (A.deeper (envOfC qual (bX st) s.heap.objs.size f a))->V6 (cxH P w K mg base N qual (bX st) f a A outer s H) (aC st) (U7 K ml g)):FnH P w K mg base (k+1) f fd ps (spV K ml ps.length (Z3 N.length ml g)):=by refine F.okH S (λvs H Q E h=>?_) (λa A outer s H vs Q c h=>⟨_,e a A outer s H c,Vg (E:=E0) b h⟩);obtain⟨Z,ds,r,os,d,AV,_⟩:=h;rw[AV.len,d]
structure XQ(K:Aj)(C Cp:Ud)(r:Bool):Prop where
 ty:W.typeIn K (.ref Cp)=b3 (.type "type")
 cls:(Ry K Cp).isSome=b8
 base:Pr K (.ref Cp) (.type "BaseException")=b3 b8
 sub:Pr K (.ref C) (.ref Cp)=b3 r
def XP.q{K:Aj}{C Cp:Ud}(h:XP K C Cp):XQ K C Cp b8:=⟨h.ty,h.cls,h.base,h.sub⟩
def kC{r:Bool}{prog:Be}{w:Ul}{A:Bx}{E:Uc->Ae->Prop}{s:Ae}{K:Aj}{x C Cp:Ud}{o:Uq}{Q:Bool->Ae->Prop}(X:K.In s.heap)(b:s.heap.get? x=b3 o)(hc:o.cls=.ref C)(F:XQ K C Cp r)(h:Q r s):Ue (Uf prog w) A (excMatches (.ref x) (.ref Cp)) Q E s:=by
 obtain⟨a,g,m,t,os⟩:=s;cases r
 all_goals
  have l:W.Looks (Uf prog w) a (Nh (.ref x)) (.ref C):=hc▸(W.Looks.ld b).andThen .now;have j:=W.looks_typeIn (M:=Uf prog w) X F.ty;have i:=W.looks_subIn (M:=Uf prog w) X F.base;have e:=W.looks_subIn (M:=Uf prog w) X F.sub;have d:W.Looks (Uf prog w) a (isType (.ref Cp)) b8:=by
   have hd:=F.cls;unfold Ry at hd;split at hd
   ·rename_i c
    intro u n p s' k q;unfold isType loadHead;exact Aa (Nl (k _ _ (X _ _ c)) (Ah q))
   ·cases hd
  have f:=tc_notTuple;unfold excMatches isExcClass Lb;repeat (any_goals (first|assumption|with_reducible refine W.Looks.at l ?_|with_reducible refine W.Looks.at j ?_|with_reducible refine W.Looks.at i ?_|with_reducible refine W.Looks.at e ?_|with_reducible refine W.Looks.at d ?_|wp_step))
def excP(a C:Ud):Option Ud->Um->Prop
 |none=>λh=>Va h a C
 |some D=>λh=>Wn h a C D
section
variable{X:Cx}{aa:List (Ud×Uq)}{σ:St}{H:Hp}{s:Ae}{h':Um}{a C:Ud}
def bM.track{o:Uq}{vs:Array Uc}{p:Option Ud}(I:bM X aa σ H s)(L:H a=b4)(i:s.heap.get? a=b3 o)(hc:o.cls=.ref C)(hd:o.data=.fields vs)(g:o.dict=p)(hs:X.s₀.heap.get? a=b4)(K:∀p∈X.pn++aa,p.1≠a):bM X aa σ (upd H a (.ext (excP a C p))) s:=by
 have w:∀b o,X.s₀.heap.get? b=b3 o->b≠a:=λb o e z=>by rw[z,hs]at e;cases e
 have f:∀b u,H b=b3 u->b≠a:=λb u e z=>by rw[z,L]at e;cases e
 refine⟨I.ok,I.os,I.bare,⟨I.base.keep,I.base.slot,λb o e n J=>?_,I.base.there,λb xs e=>?_,λb o u e=>?_,λb ps e=>?_⟩,I.loc,I.cell,?_,λx c e=>?_,λp D=>?_,λb u e=>?_,I.len⟩
 ·rw[bA (w b o e)];exact I.base.free b o e n J
 ·have q:=I.base.tups b xs e
  rw[bA (f b _ q)];exact q
 ·have q:=I.base.frzs b o u e
  rw[bA (f b _ q)];exact q
 ·obtain⟨more,q⟩:=I.base.tbls b ps e
  exact⟨more,by rw[bA (f b _ q)];exact q⟩
 ·obtain⟨m,⟨O,_,_,r,t,_⟩,_⟩:=I.loc
  have:X.env.locals≠a:=λz=>by rw[z,i]at r;cases r;rw[hd]at t;cases t
  rw[bA this];exact I.free
 ·obtain⟨v,N,l,g⟩:=I.cell x c e
  have:c≠a:=λz=>by rw[z,i]at l;cases l;rw[hd]at g;cases g
  rw[bA this];exact I.freeC x c e
 ·obtain⟨e,n,G,F,d⟩:=I.pin p D
  exact⟨e,by rw[bA (K p D)];exact n,G,F,d⟩
 ·by_cases E:b=a
  ·subst E
   rw[bK]at e;cases e;cases p with
   |none=>exact⟨⟨o,vs,i,hc,hd⟩,⟨o,i⟩,λh1 h2 q k=>by obtain⟨j,h,B,A,y⟩:=q;exact⟨j,h,k j B,A,y⟩⟩
   |some P=>exact⟨⟨o,vs,i,hc,hd,g⟩,⟨o,i⟩,λh1 h2 q k=>by obtain⟨j,h,B,A,y,M⟩:=q;exact⟨j,h,k j B,A,y,M⟩⟩
  ·rw[bA E]at e
   exact(I.hok b u e).stay (λ_ _ _ q=>q) (λc q=>by rw[bA (f c _ q)];exact q) λc xs q=>by rw[bA (f c _ q)];exact q
def bM.unbound{m:Ug->Option Uc}{t':Nat}(I:bM X aa σ H s)(ns:h'.Ns X.env.locals m)(sb:Fa X.env.locals s.heap h'):bM X aa (Ax X.N.length b4) H {s with heap:=h',toks:=t'}:=by
 have a:∀b o,X.s₀.heap.get? b=b3 o->b≠X.env.locals:=λb o e=>Bf (Ay (Al e) I.ok.above);have f:∀b u,H b=b3 u->b≠X.env.locals:=λb u e z=>by rw[z,I.free]at e;cases e
 refine⟨I.ok,I.os,I.bare,⟨λb o e n h g=>(sb.2 b (a b o e)).trans (I.base.keep b o e n h g),λb o e n h g=>?_,I.base.free,λb o e g=>?_,I.base.tups,I.base.frzs,I.base.tbls⟩,⟨m,ns,λi x v _ j _=>?_⟩,λx c e=>?_,I.free,I.freeC,λp t=>?_,λb u e=>?_,by simp⟩
 ·obtain⟨sl,k⟩:=I.base.slot b o e n h g
  exact⟨sl,(sb.2 b (a b o e)).trans k⟩
 ·obtain⟨o',k⟩:=I.base.there b o e g
  exact⟨o',(sb.2 b (a b o e)).trans k⟩
 ·rw[Cs]at j
  split at j<;>cases j
 ·obtain⟨v,z⟩:=I.cell x c e
  exact⟨v,z.sameBut sb (I.cne x c e)⟩
 ·obtain⟨e,n,l,r,d⟩:=I.pin p t
  exact⟨(sb.2 p.1 l).trans e,n,l,r,d⟩
 ·refine (I.hok b u e).stay (λc v hc q => (sb.2 c ?_).trans q) (λ_ q => q) λ_ _ q => q
  rcases hc with rfl|hc
  ·exact f _ u e
  ·exact f c _ hc
end
def Cx.Ok.pns{X:Cx}(ok:X.Ok)(pn:List (Ud×Uq))(xe:Uc->Ae->Prop):Cx.Ok {X with pn:=pn,xe:=xe}:=
 ⟨ok.mod,ok.kind,ok.glob,ok.blt,ok.above,ok.inj,ok.has,ok.cab,ok.hd,ok.frames,ok.stk,ok.exf,ok.bs,ok.bsz,ok.noex,ok.exfs,ok.funs,ok.frf⟩
abbrev Cx.hnd(X:Cx)(a:Ud):Cx:={X with A:=X.A.mark (b3 (.ref a)),calm:=ba,xe:=λ_ _=>False}
noncomputable def EM:Xw->cF
 |(x,b4)=>.exn x
 |(x,b3 (n,d))=>.exr x n d
section
variable{X:Cx}{K:Aj}{ml:List Nat}{pos:Pos}{g k kA:VS}{z:VZ}
def eW{n:Ug}{cb:Pos}{b0:Up}{cj:List Up}{i:Nat}{aa:List (Ud×Uq)}{D:KA}{B:Bs}{R:Nat->Option Ud}{δ1 δ2:Ev}{d:cF}{E:Xw}{C a:Ud}{a0:Uc}{p:Option Ud}{c:St}{H2:Hp}{s':Ae}{gh Q S:Um}(hN:X.N.Nodup)(hi:X.N[i]?=b3 n)(hl:X.env.kindOf n=b3 .local)(him:i∉ml)(Y:X.stack=X.env::X.outer)(hk:∀a,V6 (X.hnd a) (b0::cj) (U7 X.K ml k))(hx:XC X.K E.1 C)(J':bM X aa c H2 s')(t:Low X aa gh)(fl5:Ko S (X.env::X.outer) a (.ref C) a0 Q)(dc5:Dc a p Q)(U:s'.heap.UpToSlots Q)(c1:∀b o,gh.get? b=b3 o->b∉SK X.stack->∃o',s'.heap.get? b=b3 o'/\S.get? b=b3 o')(c2:∀b u,H2 b=b3 u->∃o,s'.heap.get? b=b3 o/\S.get? b=b3 o)(S1:ZX X.K ml B R H2 c δ1)(s:Pay X.K (Nn B R) H2 p E.2)(h3:k (δ1.set i (.va (EM E)))=b3 (.rt d δ2))(G:Post X.K ml B D (.rt d δ2)):Fl (Uf X.prog X.w) (X.A.mark (b3 (.ref a))) (.handlers (.ref a) [.ExceptHandler b4 (b3 n) (b0::cj) cb] X.env) (λr l=>match r with
   |.ok f=>Ue (Uf X.prog X.w) X.A (do Iu X.env n .none;unbindBehindTheSuite X.env n cb) (λ_ F=>SP X aa D f F) X.xe l
   |.error x=>cameBackBy (Uf X.prog X.w) X.A X.env X.xe x l) {s' with heap:=Q}:=by
 refine codeAny_handlers_suite_as (KH (KD.flight _ _) dc5 (lands_againW fl5 λh6 g T dc6=>?_));have I6:bM X aa c H2 {s' with heap:=h6}:=J'.flyG t g.1 (U.trans T) c1 c2;obtain⟨oe,vs,_,_,_,I,hcl,J,_⟩:=id g.2.2.2;have dct:oe.dict=p:=dc6.at I;have Bn:S.get? a=b4:=g.2.1;have H:a∉SK X.stack:=λhb=>by rw[Y]at hb;obtain⟨_,o',e',nf⟩:=g.2.2.1.mem hb;rw[I]at e';cases e';exact nf vs J
 have na:∀b o,gh.get? b=b3 o->b≠a:=λb o e z=>by subst z;obtain⟨o',_,j⟩:=c1 b o e H;rw[Bn]at j;cases j
 have P:H2 a=b4:=by
  cases e:H2 a with
  |none=>rfl
  |some u=>
   obtain⟨o',_,j⟩:=c2 a u e;rw[Bn]at j;cases j
 have Z:X.s₀.heap.get? a=b4:=by
  cases e:X.s₀.heap.get? a with
  |none=>rfl
  |some o'=>
   obtain⟨V,j⟩:=t.s0 a o' e H;exact absurd rfl (na a V j)
 have I7:=I6.track (p:=p) (C:=C) P I hcl.1 J dct Z λq hq=>by obtain⟨V,j⟩:=t.pin q hq;exact na _ V j
 have S7:ZX X.K ml B R (upd H2 a (.ext (excP a C p))) c δ1:=S1.same (bZ P);refine XU (X:=X.hnd a) (I7.around rfl) hN hi (.inl hl) (v:=.ref a) rfl (λs8 I8=>?_) (.inr hl);have rx:∀M,aD X.K (Nn B R) (upd H2 a (.ext (excP a C p))) M (.ref a) (EM E):=λM=>by
  obtain⟨xn,y⟩:=E;cases p with
  |none=>
   cases y with
   |none=>exact .exn hx.at_ bK λh z=>z
   |some y=>exact s.elim
  |some D0=>
   cases y with
   |none=>exact s.elim
   |some y=>
    obtain⟨yn,yd⟩:=y;obtain⟨v,e,r⟩:=s;have nD:D0≠a:=λq=>by rw[q,P]at e;cases e
    exact .exr hx.at_ bK (λh z=>z) (by rw[bA nD];exact e) (r.same (bZ P))
 have S8:=S7.setVa (i:=i) (v:=.ref a) (d:=EM E) him (rx _);refine At (hk a aa s8 _ _ ⟨λ_ _=>False,D.rt,λ_ _=>False,λ_ _=>False⟩ I8 ⟨B,_,_,.rt d δ2,S8,h3,G⟩) (λf s9 O=>?_) λe s9 I=>(show False from I).elim;cases f with
 |next=>obtain⟨_,_,_,z⟩:=O;cases z
 |brk=>obtain⟨_,_,_,z⟩:=O;cases z
 |cont=>obtain⟨_,_,_,z⟩:=O;cases z
 |ret u=>
  obtain⟨v,σ9,H9,L,r9,hD⟩:=O;have L:=L.back J'.ok;obtain⟨m,hn,_⟩:=id L.loc;refine wpAny_nameGoes hl hn (by rw[L.ok.kind];rfl) λh' m' W sb=>?_;exact⟨v,_,H9,L.unbound W sb,r9,hD⟩
def M6(g:VS)(z:VZ)(i:Nat)(a:Ug->VS):VS:=λδ=>match g δ with
 |some o=>b3 o
 | none => match z δ with
  |some (x,δ1)=>match a x.1 (δ1.set i (.va (EM x)))with
   |some (.rt d δ2)=>b3 (.rt d δ2)
   |_=>b4
  |none=>b4
def LI(g:VS)(z:VZ)(i:Nat)(cs:List Ug)(y:Ug)(kA k:VS):VS:=M6 g z i λx=>if x∈cs then(if x=y then kA else k)else λ_=>b4
structure Xq(X:Cx)(ml:List Nat)(i:Nat)(kk:Ug->VS)(aa:List (Ud×Uq))(D:KA)(C a:Ud)(x:Xw)(s':Ae)(h5:Um):Prop where
 xc:XC X.K x.1 C
 ex:∃B O' δ1 δ2 d a0 p σ2 H2 gh Bh,bM X aa σ2 H2 s'/\Low X aa gh/\Ko Bh (X.env::X.outer) a (.ref C) a0 h5/\Dc a p h5/\s'.heap.UpToSlots h5/\(∀b o,gh.get? b=b3 o->b∉SK X.stack->∃o',s'.heap.get? b=b3 o'/\Bh.get? b=b3 o')∧
  (∀b u,H2 b=b3 u->∃o,s'.heap.get? b=b3 o/\Bh.get? b=b3 o)/\ZX X.K ml B O' H2 σ2 δ1/\Pay X.K (Nn B O') H2 p x.2/\kk x.1 (δ1.set i (.va (EM x)))=b3 (.rt d δ2)/\Post X.K ml B D (.rt d δ2)
def eC{body:List Up}{Y:Ox}{hs:List Ox}{i:Nat}{L:Ug->VS}(hK:X.K=K)(n:X.stack=X.env::X.outer)(M:X.env.frame=b3 X.env.locals)(hg:V6 X.nox body (U7 K ml g))(hz:∀(pn:List (Ud×Uq)) (xe:Uc->Ae->Prop) (R:Ug->Option Ud->St->Hp->Prop),RzF {X with pn:=pn,xe:=xe} R->V6 {X with pn:=pn,xe:=xe} body (ZS R K ml z))(hh:∀aa D C a x s' r,Xq X ml i L aa D C a x s' r->Ue (Uf X.prog X.w) X.A (handleBy (.ref a) X.env (Y::hs)) (λf s=>SP X aa D f s) X.xe {s' with heap:=r}):PS X (.Try body (Y::hs) [] [] pos) (U7 K ml (M6 g z i L)):=by
 intro aa s σ H D I h;obtain⟨B,O,δ,o,S,q,c⟩:=h;refine wpAny_Try_except ?_;unfold M6 at q;cases h1:g δ with
 |some o'=>
  rw[h1]at q;cases q;refine At (hg aa s σ H D (I.wish _) ⟨B,O,δ,o,S,h1,c⟩) (λf s1 b=>?_) λe s1 N=>(show False from N).elim;have b:=b.unwish;cases f with
  |next=>exact Hs b
  |_=>exact b
 |none=>
  rw[h1]at q;dsimp only at q;cases h2:z δ with
  |none=>rw[h2]at q;cases q
  |some p=>
   obtain⟨k,δ1⟩:=p;rw[h2]at q;dsimp only at q;cases Q:L k.1 (δ1.set i (.va (EM k)))with
   |none=>rw[Q]at q;cases q
   |some ok=>
    rw[Q]at q;cases ok with
    |nx _=>cases q
    |bk _=>cases q
    |ct _=>cases q
    |rt d δ2=>
     cases q;subst hK;have I1:∀{xe:Uc->Ae->Prop}{σ:St}{H:Hp}{s:Ae},bM X aa σ H s->bM {X with pn:=X.pn++aa,xe:=xe} [] σ H s:=λI=>⟨I.ok.pns _ _,I.os,I.bare,I.base,I.loc,I.cell,I.free,I.freeC,λp j=>I.pin p (by simpa using j),I.hok,I.len⟩;have I2:∀{xe:Uc->Ae->Prop}{ps:List (Ud×Uq)}{σ:St}{H:Hp}{s:Ae},bM {X with pn:=X.pn++aa,xe:=xe} ps σ H s->bM X aa σ H s:=λJ=>⟨I.ok,J.os,J.bare,J.base,J.loc,J.cell,J.free,J.freeC,λp j=>J.pin p (Bm _ j),J.hok,J.len⟩;refine At (hz (X.pn++aa) _ (λx p m H'=>x=k.1/\∃l,ZX X.K ml B l H' m δ1/\Pay X.K (Nn B l) H' p k.2) (λps x C p t H2 e s' Z hx J F lo hR=>?_) [] s σ H ⟨λ_ _=>False,λ_ _=>False,λ_ _=>False,λ_ _=>False⟩ (I1 I) ⟨B,O,δ,k,δ1,S,h2,λm H' l p S' j=>⟨rfl,l,S',j⟩⟩) (λf s1 b=>?_) λe s1 N=>N;rotate_left
     ·cases f with
      |next=>obtain⟨_,_,_,z⟩:=b;cases z
      |brk=>obtain⟨_,_,_,z⟩:=b;cases z
      |cont=>obtain⟨_,_,_,z⟩:=b;cases z
      |ret u=>obtain⟨_,_,_,_,_,z⟩:=b;cases z
     obtain⟨rfl,l,S1,E⟩:=hR;have J':=I2 J;have G:Low X aa Z:=⟨lo.s0,λp j=>lo.pin p (Bm _ j)⟩;obtain⟨a,a0,Bh,rfl,U,dc,c1,c2⟩:=F;have U:Ko Bh (X.env::X.outer) a (.ref C) a0 s'.heap:=n▸U;refine KH (KD.note _ _) dc (wpAny_looks_onW (J'.ok.frames.trans (by rw[n])) M U λh4 P y W=>KH (KD.flight _ _) W (wpAny_landsW P λr T v V=>?_));exact hh aa D C a k s' r ⟨hx,B,l,δ1,δ2,d,a0,p,t,H2,Z,Bh,J',G,T,V,y.trans v,c1,c2,S1,E,Q,c⟩
def ID{n l:Ug}{U cb:Pos}{O:Up}{I:List Up}{rest:List Ox}{i:Nat}{G:Ug->VS}{aa:List (Ud×Uq)}{D:KA}{C a R:Ud}{x:Xw}{s':Ae}{j:Um}{r:Bool}(o:X.stack=X.env::X.outer)(hN:X.N.Nodup)(hi:X.N[i]?=b3 n)(hl:X.env.kindOf n=b3 .local)(u:i∉ml)(v:Gl X l)(hm:X.mg l=b3 (.ref R))(Z:XQ X.K C R r)(z:(l==("__debug__":Ug))=ba)(L:Xq X ml i G aa D C a x s' j)(t:r=b8->(∀a,V6 (X.hnd a) (O::I) (U7 X.K ml k))/\G x.1=k)(Y:r=ba->Ue (Uf X.prog X.w) X.A (handleBy (.ref a) X.env rest) (λf s=>SP X aa D f s) X.xe {s' with heap:=j}):Ue (Uf X.prog X.w) X.A (handleBy (.ref a) X.env (.ExceptHandler (b3 (.Name l U)) (b3 n) (O::I) cb::rest)) (λf s=>SP X aa D f s) X.xe {s' with heap:=j}:=by
 obtain⟨W,B,O',δ1,δ2,d,a0,p,c,H2,gh,Bh,P,h,b,E,e,M,J,S1,m,H,g⟩:=L;have Q:bM X aa c H2 {s' with heap:=j}:=P.flyG h b.1 e M J;have F:bM (X.hnd a) aa c H2 {s' with heap:=j}:=Q.around rfl;refine wpAny_handleBy_cons (codeAny_handlers_test (TR (X:=X.hnd a) F v hm ?_ z)) (by intro q;cases q);obtain⟨T,S,_,_,_,y,V,_⟩:=id b.2.2.2;refine kC Q.kIn y V.1 Z ?_;cases r with
 |false=>exact Y rfl
 |true=>
  obtain⟨t,ek⟩:=t rfl;rw[ek]at H;exact eW hN hi hl u o t W P h b E e M J S1 m H g
def Zl{body:List Up}{n y:Ug}{cs:List Ug}{w M d A:Pos}{v u:Up}{t s:List Up}{i:Nat}(J:X.K=K)(b:X.stack=X.env::X.outer)(j:X.env.frame=b3 X.env.locals)(p:X.N.Nodup)(hi:X.N[i]?=b3 n)(hl:X.env.kindOf n=b3 .local)(c:i∉ml)(h:Gl X "PackError")(E:∀C,Fg K Ui "PackError"=b3 (b3 (.ref C))->X.mg "PackError"=b3 (.ref C))(B:Gl X y)(l:(y==("__debug__":Ug))=ba)(H:∃m,X.mg y=b3 (.ref m)/\∀x∈cs,∀C,Fg K Ui x=b3 (b3 (.ref C))->XQ K C m (decide (x=y)))(G:V6 X.nox body (U7 K ml g))(hz:∀(pn:List (Ud×Uq)) (xe:Uc->Ae->Prop) (R:Ug->Option Ud->St->Hp->Prop),RzF {X with pn:=pn,xe:=xe} R->V6 {X with pn:=pn,xe:=xe} body (ZS R K ml z))(f:∀a,V6 (X.hnd a) (v::t) (U7 K ml kA))(F:∀a,V6 (X.hnd a) (u::s) (U7 K ml k)):PS X (.Try body [.ExceptHandler (b3 (.Name y w)) (b3 n) (v::t) M,.ExceptHandler (b3 (.Name "PackError" d)) (b3 n) (u::s) A] [] [] pos) (U7 K ml (LI g z i cs y kA k)):=by
 subst J;refine eC rfl b j G hz λaa D C a x s' O L=>?_;obtain⟨Cp,o⟩:=L.xc.pk;obtain⟨m,e,I⟩:=H;have hc:x.1∈cs:=by
  obtain⟨_,_,_,_,_,_,_,_,_,_,_,_,_,_,_,_,_,_,_,_,q,_⟩:=L.ex;by_cases z:x.1∈cs
  ·exact z
  ·rw[if_neg z]at q
   cases q
 refine ID (r:=decide (x.1=y)) (k:=kA) b p hi hl c B e (I _ hc _ L.xc.at_) l L (λz=>⟨f,by rw[if_pos hc,if_pos (of_decide_eq_true z)]⟩) λz=>?_;exact ID (r:=b8) (k:=k) b p hi hl c h (E Cp o.at_) o.q (by decide) L (λ_=>⟨F,by rw[if_pos hc,if_neg (of_decide_eq_false z)]⟩) λz=>nomatch z
end
section
variable{X:Cx}{K:Aj}{ml:List Nat}{e a b c fx:Uj}{es:List Uj}{pa ta ia pb tb ib pf ft fi ps:Bool}{fa fb fe:VF}{B:Bs}{O:Nat->Option Ud}{H H1 H':Hp}{σ:St}{δ δ':Ev}{v:V}{d:cF}{pos:Pos}{R:Ug->Option Ud->St->Hp->Prop}
noncomputable def VD:List cF->Option (List Bool)
 |[]=>b3 []
 |.bl i::ds=>(VD ds).map λns=>i::ns
 |_=>b4
theorem HZ{N:Ud->Prop}:∀{xs:List V}{ds:List cF}{ns:List Bool},bD K N H xs ds->VD ds=b3 ns->xs=ns.map V.bl
 |_,_,_,.nil,h=>by cases h;rfl
 | _,_,_,@bD.cons _ _ _ v vs d ds h t,e => by
  cases d with
  |bl k=>
   cases h;have e:(VD ds).map (λks=>k::ks)=b3 _:=e;cases h2:VD ds with
   |none=>rw[h2]at e;cases e
   |some ks=>
    rw[h2]at e;cases e;rw[HZ t h2];rfl
  |_=>cases e
noncomputable def DC(n:Bool):List Bool->Option Nat
 |[]=>b4
 |i::ns=>if i=n then b3 0 else(DC n ns).map (· +1)
theorem JE{n:Bool}:∀{ns:List Bool}{j:Nat},DC n ns=b3 j->ns[j]?=b3 n/\∀m,m<j->ns[m]? ≠b3 n
 |[],_,h=>by cases h
 | i :: ns,j,h => by
  unfold DC at h;split at h
  ·rename_i hi
   cases h;exact⟨by rw[hi];rfl,λm a=>absurd a (Ms _)⟩
  ·rename_i hi
   cases h1:DC n ns with
   |none=>rw[h1]at h;cases h
   |some k=>
    rw[h1]at h;cases h;obtain⟨h2,b⟩:=JE h1;refine⟨by simpa using h2,λm a=>?_⟩;cases m with
    |zero=>simpa using hi
    |succ m=>simpa using b m (Me a)
noncomputable def EQ(n:Bool):Uc->Bool
 |.bool i=>i==n
 |_=>ba
theorem KI:∀{ns:List Bool}{a:List Uc},aK (ns.map V.bl) a->a=ns.map Gi
 |[],_,.nil=>rfl
 |i::ns,_,.cons r t=>by rw[KI t];cases r;rfl
def HC(K:Aj):V->List V->Hp->VK->Prop:=λx vs H Q=>∃(l:Ud) (ns:List Bool) (n:Bool) (j:Nat),x=.ref l/\vs=[.bl n]/\WW K H l (ns.map V.bl)/\DC n ns=b3 j/\Q (.int j) H
def HB(K:Aj):V->List V->Hp->VK->Prop:=λx vs H Q=>∃(l:Ud) (ns:List Bool) (n:Bool),x=.ref l/\vs=[.bl n]/\WW K H l (ns.map V.bl)/\Q (.int (ns.count n:Nat)) H
def Ww{a:List Uc}{n:Bool}(r:aK [V.bl n] a):a=[.bool n]:=by
 cases r with
 |cons r t=>cases t;cases r;rfl
def jy:MtM X "list.index" (HC X.K):=by
 intro aa s σ H x vs v A Q I k p h;obtain⟨l,ns,n,j,rfl,rfl,t,w,q⟩:=h;cases k;obtain rfl:=Ww p;obtain⟨its,r,⟨o,c,e,hc,hd,g⟩,hz⟩:=I.list t;obtain⟨cls,dd,data,sl⟩:=o;simp only at hc hd g;subst hc hd g;have hl:=r.length;obtain rfl:=KI r;obtain⟨h1,h2⟩:=JE w;have a:j<ns.length:=(Ag.mp h1).1;have hsz:ns.length<=16777216:=by rw[Ci]at hz;rw[<-Cc];exact hz
 refine Gb Pq ⟨_,e,rfl⟩ Oj (Nu _ _) (Ol l (ns.map Gi).toArray c b4 sl (.bool n) (EQ n) j (by simpa using a) (by lia) ?_ ?_) ⟨e,?_,?_⟩
 ·have : ns[j] = n := by have := Dr a;rw [h1]at this;exact (Cq this).symm
  simp[EQ,this]
 ·intro m u d
  have f:m<ns.length:=by simpa using u
  have:=h2 m d
  rw[Dr f]at this;simp only[List.getElem_toArray,List.getElem_map,EQ];exact beq_eq_false_iff_ne.mpr λz=>this (by rw[z])
 ·intro y b
  have b:y∈ns.map Gi:=by simpa using b
  obtain⟨i,_,rfl⟩:=Cd.mp b;exact Nf i n
 ·exact⟨.int j,H,I.tok _,⟨_,rfl⟩,q⟩
def nT:MtM X "list.count" (HB X.K):=by
 intro aa s σ H x vs v k Q I d f h;obtain⟨l,ns,n,rfl,rfl,j,q⟩:=h;cases d;obtain rfl:=Ww f;obtain⟨its,r,⟨o,c,e,hc,hd,b⟩,hz⟩:=I.list j;obtain⟨cls,dd,data,sl⟩:=o;simp only at hc hd b;subst hc hd b;obtain rfl:=KI r;refine Gb F.slot_list_count ⟨_,e,rfl⟩ F.entry_list_count (F.args_list_count_2 _ _) (SeqAt.list_countAt l (ns.map Gi).toArray c b4 sl (.bool n) (EQ n)) ⟨e,?_,?_⟩
 ·intro y a
  have a:y∈ns.map Gi:=by simpa using a
  obtain⟨i,_,rfl⟩:=Cd.mp a;exact Nf i n
 ·have g:(ns.map Gi).toArray.toList.countP (EQ n)=ns.count n:=by rw[List.toList_toArray,List.countP_map];rfl
  refine⟨.int (ns.count n:Nat),H,I.tok _,⟨s.toks,?_⟩,q⟩;rw[g]
def G4:cF->cF->Option cF
 |.lst ds,.bl n=>(VD ds).bind λns=>(DC n ns).map λj=>.int j
 |_,_=>b4
def G2:cF->cF->Option cF
 |.lst ds,.bl n=>(VD ds).map λns=>.int (ns.count n:Nat)
 |_,_=>b4
def Xy{aq ai:Pos}{name:Ug}{id:String}{r:V->List V->Hp->VK->Prop}{o:cF->cF->Option cF}(t:X.K=K)(sl:Slot "list" name id)(ty:Nh (.builtin id)=pure (.type "method_descriptor"))(mt:MtM X id r)(m:∀{x y d:cF},o x y=b3 d->∃ds n ns i,x=.lst ds/\y=.bl n/\VD ds=b3 ns/\d=.int i/\∀(H:Hp) (l:Ud) (Q:VK),WW K H l (ns.map V.bl)->Q (.int i) H->r (.ref l) [.bl n] H Q)(s:PE X a (TV K ml pa ta ia fa))(p:PE X b (TV K ml pb tb ib fb))(D:Fs a name X.env (eval a X.env)=eval a X.env:=by rfl)(C:((Ei ai (Uh (b::[]) X.env)).all (λx=> !x.1)&&(Km ai (Gp [] X.env)).all (λx=>x.1.isSome)&&decide ((b::([]:List Uj)).length+([]:List Io).length+(if([]:List Io).isEmpty then 0 else 1)<30))=b8:=by rfl)(E:(aq.endLine==ai.line)=b8:=by rfl)(hs:Uh (b::[]) X.env=(ba,eval b X.env)::Uh [] X.env:=by rfl)(F:(Ei ai (Uh [] X.env)).any (·.1)=ba:=by rfl)(hl:(pb || (ta&&ia))=b8:=by rfl):PE X (.Call (.Attribute a name aq) [b] [] ai) (TV K ml (pa&&pb) b8 b8 (f2 o fa fb)):=
 (kBm (K := K) t Ie sl ty mt s (aW p ZB hs) D C E hs F).imp λσ H Q q0 => by
  obtain⟨B,O,δ,d,δ2,S,q,k⟩:=q0;obtain⟨x,δ1,y,h1,h2,w⟩:=PX q;obtain⟨ds,n,ns,i,rfl,rfl,v,rfl,u⟩:=m w;refine⟨B,O,δ,_,δ1,S,h1,λI H1 c=>?_⟩;obtain⟨l,xs,rfl,sq,_⟩:=c.rep.lstE;refine⟨.inl ⟨rfl,xs,sq⟩,B,O,δ1,_,δ2,c.sta,h2,λG H2 R2=>?_⟩;have j:=R2.rep;cases j;obtain⟨J,h,A,e,r'⟩:=(R2.live hl c.rep).lstE;cases A;have:=HZ r' v
  subst this;exact u H2 l Q e (k _ H2 ⟨R2.sta,c.frm.trans R2.frm,λz=>by obtain⟨g,f⟩:=(Af _ _).mp z;exact(c.pur g).trans (R2.pur f),.int _⟩)
def fS{x y d:cF}(h:G4 x y=b3 d):∃ds n ns i,x=.lst ds/\y=.bl n/\VD ds=b3 ns/\d=.int i/\∀(H:Hp) (l:Ud) (Q:VK),WW K H l (ns.map V.bl)->Q (.int i) H->HC K (.ref l) [.bl n] H Q:=by
 unfold G4 at h;split at h
 ·rename_i ds n
  cases h1:VD ds with
  |none=>rw[h1]at h;cases h
  |some ns=>
   rw[h1,An]at h;cases h2:DC n ns with
   |none=>rw[h2]at h;cases h
   |some j=>
    rw[h2]at h;cases h;exact⟨ds,n,ns,j,rfl,rfl,h1,rfl,λH l Q sq q=>⟨l,ns,n,j,rfl,rfl,sq,h2,q⟩⟩
 ·cases h
def eE{x y d:cF}(h:G2 x y=b3 d):∃ds n ns i,x=.lst ds/\y=.bl n/\VD ds=b3 ns/\d=.int i/\∀(H:Hp) (l:Ud) (Q:VK),WW K H l (ns.map V.bl)->Q (.int i) H->HB K (.ref l) [.bl n] H Q:=by
 unfold G2 at h;split at h
 ·rename_i ds n
  cases h1:VD ds with
  |none=>rw[h1]at h;cases h
  |some ns=>
   rw[h1]at h;cases h;exact⟨ds,n,ns,_,rfl,rfl,h1,rfl,λH l Q sq q=>⟨l,ns,n,rfl,rfl,sq,q⟩⟩
 ·cases h
def hW(h:X.K=K:=by rfl):MtM X "list.index" (HC K):=by subst h;exact jy
def nG(h:X.K=K:=by rfl):MtM X "list.count" (HB K):=by subst h;exact nT
def rIsx(K:Aj):RC:=λxs H Q=>∃a C b u k,xs=[.ref a,u]/\H a=b3 (.ext b)/\(∀h,b h->Va h a C)/\XA K C/\(Ry K C).isSome=b8/\((∃D,u=.ref D/\Hi K (.ref C) (.ref D)=b3 k)∨∃n,u=.ty n/\Hi K (.ref C) (.type n)=b3 k)/\Q (.bl k) H
def jH:ZH X (.builtin "isinstance") (rIsx X.K):=by
 intro aa s σ H xs t Q I r h;obtain⟨a,C,p,u,k,rfl,m,e,f,hc,b,q⟩:=h;obtain⟨v,c,rfl,l,g⟩:=FX r;cases l;obtain⟨o,vs,j,i,_⟩:=e _ (I.hok a _ m).1;have d:∀tk,EP X aa σ Q (.bool k) {s with toks:=tk}:=λtk=>⟨.bl k,H,I.tok tk,rfl,q⟩;rcases b with⟨D,rfl,b⟩|⟨n,rfl,b⟩
 ·cases g
  exact Ex (ET f hc) I.kIn ⟨o,j,i⟩ b (λz=>nomatch z) d
 ·cases g
  exact Ex (ET f hc) I.kIn ⟨o,j,i⟩ b (λz=>nomatch z) d
def P8(h:X.K=K:=by rfl):ZH X (.builtin "isinstance") (rIsx K):=by subst h;exact jH
structure XI(K:Aj)(cs all:List Ug):Prop where
 own:∀c∈cs,∃C,XC K c C
 isi:∀c∈cs,∀C,Fg K Ui c=b3 (b3 (.ref C))->∀x∈all,∃D,Fg K Ui x=b3 (b3 (.ref D))/\Hi K (.ref C) (.ref D)=b3 (decide (c=x))
 val:∀c∈cs,∀C,Fg K Ui c=b3 (b3 (.ref C))->Hi K (.ref C) (.type "ValueError")=b3 b8
 pke:∀c∈cs,∀C,Fg K Ui c=b3 (b3 (.ref C))->∃D,Fg K Ui "PackError"=b3 (b3 (.ref D))/\Hi K (.ref C) (.ref D)=b3 b8
noncomputable def AZ(cs all:List Ug)(c:Ug):cF->Option cF
 |.fn x=>if c∈cs/\x∈all then b3 (.bl (decide (c=x)))else if c∈cs/\x= "PackError" then b3 (.bl b8)else b4
 |.ty n=>if c∈cs/\n= "ValueError" then b3 (.bl b8)else b4
 |_=>b4
def RX(cs all:List Ug):cF->cF->Option cF
 |.exn c,y=>AZ cs all c y
 |.exr c _ _,y=>AZ cs all c y
 |_,_=>b4
def Yg{cs all:List Ug}(F:XI K cs all){N M:Ud->Prop}{p:Ug}{C a:Ud}{m:Um->Prop}{y d:cF}{u:V}{Q:VK}(g:Fg K Ui p=b3 (b3 (.ref C)))(j:H a=b3 (.ext m))(f:∀h,m h->Va h a C)(n:aD K N H M u y)(h:AZ cs all p y=b3 d)(k:∀b:Bool,d=.bl b->Q (.bl b) H):rIsx K [.ref a,u] H Q:=by
 unfold AZ at h;split at h
 ·rename_i r
  cases n with
  |fn o=>
   split at h
   ·rename_i c
    cases h;obtain⟨q,e⟩:=F.own _ c.1;have:=g.symm.trans e.at_
    cases this;obtain⟨D,l,i⟩:=F.isi _ c.1 _ g _ c.2;have:=o.symm.trans l
    cases this;exact⟨_,_,_,_,_,rfl,j,f,e.att,e.cls,.inl ⟨_,rfl,i⟩,k _ rfl⟩
   ·split at h
    ·rename_i c
     cases h;obtain⟨c,rfl⟩:=c;obtain⟨q,e⟩:=F.own _ c;have:=g.symm.trans e.at_
     cases this;obtain⟨D,l,i⟩:=F.pke _ c _ g;have:=o.symm.trans l
     cases this;exact⟨_,_,_,_,_,rfl,j,f,e.att,e.cls,.inl ⟨_,rfl,i⟩,k _ rfl⟩
    ·cases h
 ·rename_i s
  cases n;split at h
  ·rename_i c
   cases h;obtain⟨c,rfl⟩:=c;obtain⟨q,e⟩:=F.own _ c;have:=g.symm.trans e.at_
   cases this;exact⟨_,_,_,_,_,rfl,j,f,e.att,e.cls,.inr ⟨_,rfl,F.val _ c _ g⟩,k _ rfl⟩
  ·cases h
 ·cases h
def VL{cs all:List Ug}(F:XI K cs all):J8 K (rIsx K) (RX cs all):=by
 intro H N N' M M' x y d e c Q j i h k;unfold RX at h;split at h
 ·cases j with
  |exn f g a=>exact Yg F f g a i h λb e=>k (.bl b) λ_ _ _=>by rw[e];exact .bl b
 ·cases j with
  |exr f g a _ _=>exact Yg F f g (λh z=>by obtain⟨o,vs,n,m,l,_⟩:=a h z;exact⟨o,vs,n,m,l⟩) i h λb e=>k (.bl b) λ_ _ _=>by rw[e];exact .bl b
 ·cases h
noncomputable def G5(cs:List Ug)(nm:Ug):cF->Option cF
 |.exr x n d=>if x∈cs/\n=nm then b3 d else b4
 |_=>b4
def lc{v:V}{u:Uc}(h:aG v u):W.handedIn u=b8:=by
 cases v<;>first|(cases h;rfl)|(obtain⟨_,h⟩:=h;cases h;rfl)
def gA{cs:List Ug}{nm:Ug}(E:X.K=K)(G:∀x∈cs,∀C,Fg K Ui x=b3 (b3 (.ref C))->∃Cp,XG K C Cp nm/\XA K C)(D:PE X a (TV K ml pa ta ia fa))(A:Fs a nm X.env (eval a X.env)=eval a X.env:=by rfl):PE X (.Attribute a nm pos) (TV K ml pa ia ia (f1 (G5 cs nm) fa)):=by
 subst E;intro aa s σ H Q I h;obtain⟨B,O,δ,d,δ',S,q,k⟩:=h;obtain⟨x,h1,h2⟩:=PV q;unfold G5 at h2;split at h2
 ·rename_i j n y
  split at h2
  ·rename_i hc
   cases h2;obtain⟨hc,rfl⟩:=hc;refine oJ A (At (D aa s σ H (λv H1=>∃B O δ',Res X.K ml B O H σ pa ta ia H1 δ' v (.exr j n d)/\∀v H',Res X.K ml B O H σ pa ia ia H' δ' v d->Q v H') I ⟨B,O,δ,_,δ',S,h1,λv H1 R=>⟨B,O,δ',R,k⟩⟩) (λu s1 t=>?_) λ_ _ z=>z);obtain⟨v,H1,c,l,B,O,δ',R,k⟩:=t;have r:=R.rep;cases r with
   |exr w F e J m=>
    cases l;obtain⟨Cp,g,i⟩:=G _ hc _ w;obtain⟨o,vs,T,P,N,M⟩:=e _ (c.hok _ _ F).1;obtain⟨p,ns,b⟩:=(c.hok _ _ J);have b:=b n;have L:∀y:V,Hk n [(n,y)]=b3 y:=λy=>by unfold Hk;rw[beq_self_eq_true]
    rw[L]at b;cases f:p n with
    |none=>rw[f]at b;cases b
    |some u=>
     rw[f]at b;have b:aG _ u:=b;exact kr c.kIn T P N M ns f (lc b) g i ⟨_,H1,c.tok _,b,k _ H1 ⟨R.sta,R.frm,R.pur,m.mono (λ_ z=>z) Vt⟩⟩
  ·cases h2
 ·cases h2
end
end L2
namespace L2
open PySem PySem.Spec PyProof.Rows PySem.W
def C2{K:Uw}{h:Um}{N:Ud}{m:Ug->Option Uc}{n:Ug}{v:Uc}(X:K.In h)(G:h.Ns N m)(e:nsIn K N n=b3 (b3 v)):m n=b3 v:=by
 obtain⟨o,es,j,a,hd,_,b⟩:=G;unfold nsIn at e;split at e
 ·rename_i c d g i sl q
  have:=X _ _ q
  rw[a]at this;cases this;cases hd;split at e
  ·rename_i f
   cases e;rw[<-b];unfold nsFind findBy;rw[<-Od,f];rfl
  ·split at e<;>cases e
 ·cases e
def excI(K:Uw)(C fI:Ud):Bool:=match K.lookup C with
 |some ⟨.type "type",_,.cls cd,sl⟩=>(match cd.mro,sl.toList with
  |.ref C'::bm,[_,_,_,_,b3 (.builtin n),_]=>C'==C&&(n== "ValueError.__new__"&&(!cd.hasDel&&(tailIn K vbs bm&&(nsOkIn K cd.ns&&nsIn K cd.ns "__init__"==b3 (b3 (.ref fI))))))
  |_,_=>ba)
 |_=>ba
def lU{K:Uw}{h:Um}{C fI:Ud}(X:K.In h)(q:excI K C fI=b8):∃bm N nm q bs hdct sn sub ab col dd k0 k1 k2 k3 k5 mN,h.get? C=b3 (Gv nm q C N bs bm hdct sn sub ab col dd k0 k1 k2 k3 k5 "ValueError.__new__")/\h.Ns N mN/\mN "__init__"=b3 (.ref fI)/\Nx h vbs bm:=by
 unfold excI at q;split at q
 ·rename_i dd cd sl g
  split at q
  ·rename_i j bm k0 k1 k2 k3 n k5 c hs
   simp only[Af,beq_iff_eq,Ps]at q;obtain⟨rfl,rfl,d,f,a,b⟩:=q;obtain⟨nm,bs,mro,ns,e,hd,sn,sub,ab,col,i⟩:=cd;dsimp only at c d a b;subst c d;obtain⟨sl⟩:=sl;simp only at hs;subst hs;have G:=Heap.Ns.of_isNs (isNs_of_in X a);exact⟨bm,ns,nm,e,bs,hd,sn,sub,ab,col,dd,k0,k1,k2,k3,k5,_,X _ _ g,G,C2 X G b,tail_of_in X f⟩
  ·cases q
 ·cases q
structure XZ(K:Uw)(x nm:Ug)(C:Ud):Prop where
 xc:XC K x C
 mak:∃Cp fI qual st txt fd,nsIn K Ui "PackError"=b3 (b3 (.ref Cp))/\excI K C fI=b8/\typeIn K (.ref fI)=b3 (.type "function")/\HQ K qual st nm txt fI fd/\XG K C Cp nm/\XH K Cp
noncomputable def MF(x nm:Ug)(fs:QI):VZ:=λδ=>(fs δ).bind λp=>match p.1 with
 |[.d d]=>b3 ((x,b3 (nm,d)),p.2)
 |_=>b4
section
variable{X:Cx}{K:Uw}{ml:List Nat}{R:Ug->Option Ud->St->Hp->Prop}{pos:Pos}
def oM{x nm:Ug}{U ai:Pos}{e:Uj}{ps:Bool}{fs:QI}{j:Nat}(hK:X.K=K)(hz:RzP X R)(hc:X.calm=b8)(W:X1 j X.A)(hg:Gl X x)(V:∃C,XZ K x nm C/\X.mg x=b3 (.ref C))(Z:∀C,nsIn K Ui "PackError"=b3 (b3 (.ref C))->X.mg "PackError"=b3 (.ref C))(ha:PA X [e] (TAG K ml ps fs))(l:(x==("__debug__":Ug))=ba:=by decide)(he:Uh [e] X.env=[(ba,eval e X.env)]:=by rfl):PS X (.Raise (b3 (.Call (.Name x U) [e] [] ai)) b4 pos) (ZS R K ml (MF x nm fs)):=by
 intro aa s σ H D I h;obtain⟨B,O,δ,x',δ',S,q,k⟩:=h;subst hK;unfold MF at q;cases h1:fs δ with
 |none=>rw[h1]at q;cases q
 |some p=>
  obtain⟨as,δ1⟩:=p;rw[h1,An]at q;dsimp only at q;split at q
  ·rename_i d
   cases q;obtain⟨C,y,i⟩:=V;obtain⟨Cp,fI,qual,st,txt,fd,m,hE,hf,hI,hG,hH⟩:=y.mak;obtain⟨bm,N,g,q,bs,hdct,sn,sub,ab,col,dd,k0,k1,k2,k3,k5,mN,T,Q,P,v⟩:=lU I.ok.mod.kin hE;have f:Ei ai (Uh [e] X.env)=[(ba,eval e X.env)]:=by rw[he];rfl
   refine jV (C:=C) (cn:=g) (q:=q) (N:=N) (bs:=bs) (bm:=bm) (hdct:=hdct) (sn:=sn) (sub:=sub) (ab:=ab) (col:=col) (dd:=dd) (k0:=k0) (k1:=k1) (k2:=k2) (k3:=k3) (k5:=k5) (mN:=mN) (mg:=X.mg) (Cp:=Cp) (fI:=fI) (K:=X.K) (nm:=nm) (qual:=qual) (st:=st) (txt:=txt) (fd:=fd) (v.hasType (by decide)) (I.ok.hd hc) (by have:=W.dp;lia) (by rw[f];rfl) (TR I hg i ⟨rfl,?_⟩ l);rw[f];refine Ef ?_;rw[<-f];refine At (ha ai aa s σ H (λvs H'=>ZX X.K ml B O H' σ δ'/\T7 X.K (Nn B O) H' σ vs [.d d]) I ⟨B,O,δ,_,δ',S,h1,λvs H' G=>⟨G.sta,G.rep⟩⟩) (λE n Y=>?_) λ_ _ z=>z;obtain⟨vs,H2,c,F,S2,L⟩:=Y;cases L with
   |d r t=>
    cases t;obtain⟨u,rfl,J⟩:∃u,E=[u]/\aG _ u:=by
     cases F with
     |cons a b=>cases b;exact⟨_,rfl,a⟩
    have kp:∀b o,X.base.get? b=b3 o->n.heap.get? b=b3 o:=c.bk;refine⟨u,rfl,c.kIn,c.nolimit,c.mod.glob.keeps kp,Z Cp m,kp _ _ T,Q.keeps kp,P,hf,v.keeps kp,hI,hG,hH,λh' a tk M=>hz aa x nm C a _ u σ H2 n.heap _ y.xc (c.tok tk) M J λD w=>?_⟩;exact k σ _ O (b3 D) (S2.same (bZ w)) ⟨_,bK,r.same (bZ w)⟩
  ·cases q
end
end L2
namespace L2
open PySem PySem.Spec PyProof.Rows
def nR(l b:Ud)(u v:Array Uc)(n m:Nat)(sl:Array (Option Uc))(e:¬(!u.isEmpty&&Ga (u.size+v.size))=b8)(h1:u.size<=sizeLine)(h2:(u++v).size<=sizeLine+1):Meets (Fe.«list.extend» ⟨[.ref l,.ref b],[]⟩) (λ_ R s=>s.heap.get? l=b3 ⟨.type "list",b4,.seq u n,#[]⟩/\s.heap.get? b=b3 ⟨.type "list",b4,.seq v m,sl⟩/\R (.ok (.ret .none)) {s with heap:=s.heap.update l (Fn λx=>x++v)}):=
 .of_wp λprog w A R s h=>by
  obtain⟨c,g,d,tk,os⟩:=s;obtain⟨hl,a,h⟩:=h;have f1:=Lz;have f2:=AutoSeq1.sub_tuple_tuple;have f3:=AutoSeq1.sub_list_list;have i:=AutoSeq1.sub_tuple_list;have f:=AutoSeq1.sub_list_tuple;wp_walk using(wpAny_updateSeq hl rfl (hz:=h1) (_hz':=h2)),Db hl,Db a
  exact⟨_,rfl,h⟩
def Vs(K:Aj):V->List V->Hp->VK->Prop:=λx vs H Q=>∃l b xs zs,x=.ref l/\vs=[.ref b]/\H l=b3 (.lst xs)/\WW K H b zs/\xs.length+zs.length<=sizeLine/\Q .non (upd H l (.lst (xs++zs)))
def kU{X:Cx}:MtM X "list.extend" (Vs X.K):=by
 intro aa s σ H x vs v t Q I g i h;obtain⟨l,b,xs,zs,rfl,rfl,d,o,hz,q⟩:=h;cases g;obtain⟨u,rfl,j⟩:=i.one;cases j;obtain⟨z,its,n,r,hl,e⟩:=I.lstM d;obtain⟨a,c,⟨⟨cls,dd,data,sl⟩,k,p,hc,hd,f⟩,_⟩:=I.list o;simp only at hc hd f;subst hc hd f;have m:=c.length;have hsz:its.toArray.size+a.toArray.size<=sizeLine:=by rw[Ao,Ao];lia
 refine Gb F.slot_list_extend ⟨_,e,rfl⟩ F.entry_list_extend (F.args_list_extend_2 _ _) (nR l b its.toArray a.toArray n k sl (by rw[Zy hsz,Bool.and_false];exact Dq) (by rw[Ao];lia) (by rw[Array.size_append];lia)) ⟨e,p,?_⟩
 refine⟨.non,_,I.lset (its':=its++a) d e (by simp) (r.append c) ?_,rfl,q⟩;rw[By];lia
def AM{X:Cx}{K:Aj}(h:X.K=K):MtM X "list.extend" (Vs K):=by subst h;exact kU
noncomputable def mExt:List cF->List cF->Option (List cF)
 |ds,[.lst es]=>if ds.length+es.length<=16777216 then b3 (ds++es)else b4
 |_,_=>b4
def G0{K:Aj}:MuV K (Vs K) mExt:=by
 intro H N l xs vs ds es e Q hl f a c h k;cases c with
 |nil=>cases h
 | @cons v vs d es hd t=>
  cases t with
  |cons _ _=>cases d<;>cases h
  |nil=>
   cases d with
   |lst es=>
    simp only[mExt]at h;split at h
    ·rename_i hz
     cases h;obtain⟨b,zs,rfl,sq,r⟩:=hd.lstE;exact⟨l,b,xs,zs,rfl,rfl,hl,sq,by rw[a.length,r.length,Cc];exact hz,k _ _ (a.append r)⟩
    ·cases h
   |_=>cases h
def JX:Bp "ValueError"=b3 (.type "ValueError"):=by decide+kernel
def WZ.mark{k:Nat}{A:Bx}(r:WZ k A)(h:Option Uc):WZ k (A.mark h):=⟨r.dp,r.un⟩
noncomputable def xiOk(K:Aj)(cs all:List Ug):Bool:=cs.all λc=>match Fg K Ui c with
 |some (b3 (.ref C))=>all.all (λx=>match Fg K Ui x with
  |some (b3 (.ref D))=>Hi K (.ref C) (.ref D)==b3 (decide (c=x))
  |_=>ba)&&(Hi K (.ref C) (.type "ValueError")==b3 b8&&match Fg K Ui "PackError" with
  |some (b3 (.ref D))=>Hi K (.ref C) (.ref D)==b3 b8
  |_=>ba)
 |_=>ba
def XI.of{K:Aj}{cs all:List Ug}(own:∀c∈cs,∃C,XC K c C)(h:xiOk K cs all=b8):XI K cs all:=by
 have key:∀c∈cs,∀C,Fg K Ui c=b3 (b3 (.ref C))->(∀x∈all,∃D,Fg K Ui x=b3 (b3 (.ref D))/\Hi K (.ref C) (.ref D)=b3 (decide (c=x)))/\Hi K (.ref C) (.type "ValueError")=b3 b8/\∃D,Fg K Ui "PackError"=b3 (b3 (.ref D))/\Hi K (.ref C) (.ref D)=b3 b8:=by
  intro c hc C a;have:=Eh.mp h c hc
  rw[a]at this;simp only[Af,beq_iff_eq]at this;refine⟨λx d=>?_,this.2.1,?_⟩;rotate_left
  ·have h2:=this.2.2
   split at h2
   ·rename_i D b
    exact⟨D,b,beq_iff_eq.mp h2⟩
   ·cases h2
  have h2:=Eh.mp this.1 x d;split at h2
  ·rename_i D b
   exact⟨D,b,beq_iff_eq.mp h2⟩
  ·cases h2
 exact⟨own,λc hc C a=>(key c hc C a).1,λc hc C a=>(key c hc C a).2.1,λc hc C a=>(key c hc C a).2.2⟩
noncomputable def xqOk(K:Aj)(cs:List Ug)(y:Ug)(a:Ud):Bool:=W.typeIn K (.ref a)==b3 (.type "type")&&((Ry K a).isSome&&(Pr K (.ref a) (.type "BaseException")==b3 b8&&cs.all λc=>match Fg K Ui c with
 |some (b3 (.ref C))=>Pr K (.ref C) (.ref a)==b3 (decide (c=y))
 |_=>ba))
def XQ.of{K:Aj}{cs:List Ug}{y:Ug}{a:Ud}(h:xqOk K cs y a=b8):∀x∈cs,∀C,Fg K Ui x=b3 (b3 (.ref C))->XQ K C a (decide (x=y)):=by intro x b C c;unfold xqOk at h;simp only[Af,beq_iff_eq]at h;have h2:=Eh.mp h.2.2.2 x b;rw[c]at h2;exact⟨h.1,h.2.1,h.2.2.1,beq_iff_eq.mp h2⟩
def kJ{K:Aj}{mg:Ug->Option Uc}{x nm:Ug}(h:∃C,XZ K x nm C/\mg x=b3 (.ref C)):∀y∈[x],∀C,Fg K Ui y=b3 (b3 (.ref C))->∃Cp,XG K C Cp nm/\XA K C:=by
 intro y a C b;obtain⟨d,hz,_⟩:=h;cases Ar.mp a;have:=b.symm.trans hz.xc.at_
 cases this;obtain⟨Cp,_,_,_,_,_,_,_,_,_,c,_⟩:=hz.mak;exact⟨Cp,c,hz.xc.att⟩
def okZ(P:Be)(w:Ul)(K:Aj)(mg:Ug->Option Uc)(base:Um){x qual:Ug}{st:Up}{f:Ud}{fd:Cr}(N ps:List Ug)(k:Nat)(z:VZ){d:Uc}(F:N9 K x qual st d f fd)(S:ZI N ps (bX st))(e:∀(a:Uc) (A:Bx) (outer:List Env) (s:Ae) (H:Hp) (E:XK) (b:X1 k (A.deeper (envOfC qual (bX st) s.heap.objs.size f a))) (_:(A.deeper (envOfC qual (bX st) s.heap.objs.size f a)).units+64<cLine) (_:(A.deeper (envOfC qual (bX st) s.heap.objs.size f a)).units+1<cLine),V6 (RK (CXv P w) P w K mg base N qual (bX st) f a A outer s H E) (aC st) (ZS (rE K E) K [] z))(c:ps.length<=N.length:=by decide):U4 P w K mg base (CXv P w) (k+1) f fd ps (spX K ps.length (FM N.length z)):=
 N9.okX F S c λa A outer s H E b=>e a A outer s H E b b.units (Vm b)
def okWH(P:Be)(w:Ul)(K:Aj)(mg:Ug->Option Uc)(base:Um){x qual:Ug}{st:Up}{f:Ud}{fd:Cr}(N ps:List Ug)(k:Nat)(g:VS)(ml:List Nat)(F:LX K x qual st f fd)(S:ZI N ps (bX st))(d:∀(a:Uc) (A:Bx) (outer:List Env) (s:Ae) (H:Hp) (b:WZ k (A.deeper (envOfC qual (bX st) s.heap.objs.size f a))) (_:(A.deeper (envOfC qual (bX st) s.heap.objs.size f a)).units+64<cLine) (_:(A.deeper (envOfC qual (bX st) s.heap.objs.size f a)).units+1<cLine),V6 (cxH P w K mg base N qual (bX st) f a A outer s H) (aC st) (U7 K ml g))(c:ps.length<=N.length:=by decide):FnH P w K mg base (k+1) f fd ps (spV K ml ps.length (Z3 N.length ml g)):=
 LX.okVH F S c λa A outer s H b=>d a A outer s H b b.units b.unit
def UU{α:Type}(k:Nat)(xs:List α):List α:=(Ax k xs).flatten
def LD{α:Type}(k:Nat)(xs:List α):(UU k xs).length=xs.length*k:=by
 unfold UU;induction k with
 |zero=>simp
 |succ k a=>rw[Dx,Gc,By,a,Nat.mul_succ,Qf]
def aK.repV{xs:List V}{a:List Uc}(r:aK xs a)(k:Nat):aK (UU k xs) (UU k a):=by
 unfold UU;induction k with
 |zero=>exact .nil
 |succ k b=>rw[Dx,Dx,Gc,Gc];exact r.append b
def bD.rep{K:Aj}{N:Ud->Prop}{H:Hp}{xs:List V}{ds:List cF}(r:bD K N H xs ds)(k:Nat):bD K N H (UU k xs) (UU k ds):=by
 unfold UU;induction k with
 |zero=>exact .nil
 |succ k a=>rw[Dx,Dx,Gc,Gc];exact r.append a
def NV:fillsNumberSlot (.type "tuple") "mul"=pure ba:=
 PySem.fillsNumberSlot_seq (id:= "tuple.__mul__") (r:=b3 (.builtin "tuple.__rmul__")) F.slot_tuple_mul.lookup (by decide+kernel) F.slot_tuple_rmul.lookup (by decide+kernel)
def HE:seqRepeat? (.type "tuple")=pure (b3 (.builtin "tuple.__mul__")):=by unfold seqRepeat?;rw[Qt (T:= "tuple") (name:= "__mul__") (id:= "tuple.__mul__") F.slot_tuple_mul.lookup (by decide+kernel),Qt (T:= "tuple") (name:= "__rmul__") (id:= "tuple.__rmul__") F.slot_tuple_rmul.lookup (by decide+kernel)];rfl
def DL(a:Int)(t:Uz)(l:Ud)(u:Array Uc)(n:Nat)(dd:Option Ud)(sl:Array (Option Uc)):Meets (Fe.«int.__rmul__» ⟨[.int a t,.ref l],[]⟩) (λ_ R s=>s.heap.get? l=b3 ⟨.type "tuple",dd,.seq u n,sl⟩/\R (.ok (.ret Value.notImplemented)) s):=
 .of_wp λprog w A R s h=>by obtain⟨b,g,d,tk,os⟩:=s;obtain⟨hl,h⟩:=h;wp_walk;exact⟨_,rfl,h⟩
def CU(l:Ud)(t:Uz)(u:Array Uc)(n:Nat)(dd:Option Ud)(sl:Array (Option Uc)):Meets (Fe.«tuple.__mul__» ⟨[.ref l,.int 1 t],[]⟩) (λ_ R s=>s.heap.get? l=b3 ⟨.type "tuple",dd,.seq u n,sl⟩/\R (.ok (.ret (.ref l))) s):=
 .of_wp λprog w A R s h=>by
  obtain⟨a,g,d,tk,os⟩:=s;obtain⟨hl,h⟩:=h;have f1:=Lz;unfold Fe.«tuple.__mul__»;wp_walk using Db hl
  exact⟨_,rfl,h⟩
def CV(l:Ud)(x:Int)(t:Uz)(u:Array Uc)(n:Nat)(dd:Option Ud)(sl:Array (Option Uc))(h1:1<x)(h2:x<2 ^ 62)(e:u.isEmpty=ba)(hz:u.size*x.toNat<=16777216):Meets (Fe.«tuple.__mul__» ⟨[.ref l,.int x t],[]⟩) (λ_ R s=>s.heap.get? l=b3 ⟨.type "tuple",dd,.seq u n,sl⟩/\R (.ok (.ret (.ref s.heap.objs.size))) {s with heap:=s.heap.push {cls:=.type "tuple",data:=.seq ((Ax x.toNat u).foldl (· ++ ·) #[])}}):=
 .of_wp λprog w A R s h=>by
  obtain⟨o,g,d,tk,os⟩:=s;obtain⟨hl,h⟩:=h;have f1:=Lz;unfold Fe.«tuple.__mul__»;have m:(decide (x< -2 ^ 63) || decide (x≥2 ^ 63))=ba:=by simp;lia
  have k:(x==1)=ba:=by simp;lia
  have j:decide (x<=0)=ba:=by simp;lia
  have a:(u.size:Int)*x=((u.size*x.toNat:Nat):Int):=by rw[Int.natCast_mul,Int.toNat_of_nonneg (by lia)]
  have i:¬((u.size:Int)*x>(2 ^ 63-1)/8):=by rw[a];lia
  have f:Kk ((u.size:Int)*x)=ba:=by rw[a];unfold Kk;simp only[Cc,decide_eq_false_iff_not];lia
  wp_walk using Db hl
  rw[m];wp_walk using Db hl
  simp only[e,k,j,Sv];wp_walk;rw[f,if_neg i];have p:¬(List.foldl (λc b=>c++b) #[] (Ax x.toNat u)).size>sizeLine:=by
   have:=LD x.toNat u.toList
   unfold UU at this;rw[listMul_foldl,Ao];show¬([]++(Ax x.toNat u.toList).flatten).length>sizeLine;rw[Cu,this,Gf,Cc];lia
  wp_walk;exact⟨_,rfl,h⟩
section
variable{X:Cx}{K:Aj}
def Xb(K:Aj):R2:=λx y H Q=>∃l xs k,x=.ref l/\y=.int k/\WW K H l xs/\(0<=k/\k<2 ^ 62)/\xs.length*k.toNat<=16777216/\∀p,H p=b4->Q (.ref p) (upd H p (.lst (UU k.toNat xs)))
def zGG:V5 X (Fq .Mult) (Xb X.K):=by
 intro aa s σ H x y v u Q I f d h;obtain⟨l,xs,x,rfl,rfl,g,⟨j,i⟩,hz,q⟩:=h;cases f;obtain⟨t,rfl⟩:=d;obtain⟨its,r,⟨⟨cls,dd,data,sl⟩,n,a,hc,hd,c⟩,_⟩:=I.list g;simp only at hc hd c;subst hc hd c;have hl:=r.length;have hsz:its.toArray.size*x.toNat<=16777216:=by rw[Ao,<-hl];exact hz
 refine Kt (T:= "list") (U:= "int") (by decide) ⟨_,a,rfl⟩ (λs'=>My s' x t) noFill_list_mul Rz Ka repeat_list F.slot_int_index.lookup
  (Gb Ka (My s x t) Qu (Pt _ _) (lm_int_rmul_list_any x t l its.toArray n b4 sl) ⟨a,rfl,⟨_,a,rfl⟩,?_⟩)
 refine Gb F.slot_list_mul ⟨_,a,rfl⟩ F.entry_list_mul (F.args_list_mul_2 _ _) (lm_list_mul_any l its.toArray n b4 sl x t (by simp[Builtin.List.listFitsIndex];lia) (by lia) (by simp[Ga,sizeLine];lia)) ⟨a,?_⟩;rw[listMul_foldl_if];refine⟨.ref s.heap.objs.size,_,I.laid (t':=s.toks) (o:=.lst (UU x.toNat xs)) (λb k e=>Ad _ e) (Am _) ?_,rfl,q _ (I.hok.fresh (Am _))⟩;exact⟨by rw[LD,Cc];exact hz,UU x.toNat its,0,r.repV _,Ba _ rfl⟩
def Yd(K:Aj):R2:=λx y H Q=>∃l xs k,x=.ref l/\y=.int k/\U6 K H l xs/\xs≠[]/\(1<=k/\k<2 ^ 62)/\xs.length*k.toNat<=16777216/\(k=1->Q (.ref l) H)/\∀p,H p=b4->Q (.ref p) (upd H p (.tup (UU k.toNat xs)))
def nr:V5 X (Fq .Mult) (Yd X.K):=by
 intro aa s σ H x y v u Q I i g h;obtain⟨l,xs,x,rfl,rfl,k,d,⟨p,f⟩,hz,q1,q⟩:=h;cases i;obtain⟨t,rfl⟩:=g;obtain⟨its,r,⟨⟨cls,dd,data,sl⟩,c,hc,n,hd⟩,_⟩:=I.tuple k;simp only at hc hd;subst hc hd;have hl:=r.length;have hsz:its.toArray.size*x.toNat<=16777216:=by rw[Ao,<-hl];exact hz
 have j:its.toArray.isEmpty=ba:=by
  cases its with
  |nil=>exact absurd (r.nil_iff.mp rfl) d
  |cons a b=>rfl
 refine Kt (T:= "tuple") (U:= "int") (by decide) ⟨_,c,rfl⟩ (λs'=>My s' x t) NV Rz Ka HE F.slot_int_index.lookup
  (Gb Ka (My s x t) Qu (Pt _ _) (DL x t l its.toArray n dd sl) ⟨c,rfl,⟨_,c,rfl⟩,?_⟩)
 by_cases m:x=1
 ·subst m
  exact Gb Qv ⟨_,c,rfl⟩ Pw (Oy _ _) (CU l t its.toArray n dd sl) ⟨c,⟨.ref l,H,I,rfl,q1 rfl⟩⟩
 ·refine Gb Qv ⟨_,c,rfl⟩ Pw (Oy _ _) (CV l x t its.toArray n dd sl (by lia) f j hsz) ⟨c,?_⟩
  rw[listMul_foldl];refine⟨.ref s.heap.objs.size,_,I.laid (t':=s.toks) (o:=.tup (UU x.toNat xs)) (λb w e=>Ad _ e) (Am _) ?_,rfl,q _ (I.hok.fresh (Am _))⟩;exact⟨by rw[LD,Cc];exact hz,UU x.toNat its,r.repV _,Js _ _⟩
def Yn(K:Aj):R2:=λx y H Q=>Xb K x y H Q∨Yd K x y H Q
def kRep(h:X.K=K:=by rfl):V5 X (Fq .Mult) (Yn K):=by subst h;exact zGG.or nr
noncomputable def QQ:cF->cF->Option cF
 |.lst ds,.int k=>if(0<=k/\k<2 ^ 62)/\ds.length*k.toNat<=16777216 then b3 (.lst (UU k.toNat ds))else b4
 |.tup (d::ds),.int k=>if(1<=k/\k<2 ^ 62)/\(ds.length+1)*k.toNat<=16777216 then b3 (.tup (UU k.toNat (d::ds)))else b4
 |_,_=>b4
def Vv:OpC K (Yn K) QQ:=by
 intro H N M M' x y d e c Q l j h k;cases d with
 |lst ds=>
  cases e with
  |int i=>
   simp only[QQ]at h;split at h
   ·rename_i hz
    cases h;obtain⟨a,xs,rfl,q1,b⟩:=l.lstE;cases j;exact .inl ⟨a,xs,i,rfl,rfl,q1,hz.1,by rw[b.length];exact hz.2,λp f=>k _ _ (bZ f) λM g=>.lst bK (λz=>by obtain⟨o,q⟩:=g _ z;rw[f]at q;cases q) ((b.rep _).same (bZ f))⟩
   ·cases h
  |_=>cases h
 |tup ds=>
  cases ds with
  |nil=>cases h
  |cons d ds=>
   cases e with
   |int i=>
    simp only[QQ]at h;split at h
    ·rename_i hz
     cases h;obtain⟨a,xs,rfl,q1,b⟩:=l.tupE;cases j;refine .inr ⟨a,xs,i,rfl,rfl,q1,λz=>?_,hz.1,by rw[b.length];exact hz.2,λz=>?_,λp f=>k _ _ (bZ f) λM g=>.tup (U6.of bK) ((b.rep _).same (bZ f))⟩
     ·subst z
      cases b
     ·subst z
      refine k _ _ (Z6.refl _) λM g=>?_;rw[show UU (1:Int).toNat (d::ds)=d::ds by simp[UU]];exact .tup q1 b
    ·cases h
   |_=>cases h
 |_=>cases h
end
noncomputable def litA:Uj->Option cF
 |.Constant (.int i) _ _=>b3 (.int i)
 |.Constant (.bool i) _ _=>b3 (.bl i)
 |.Constant (.str i) _ _=>b3 (.str i)
 |.Constant .none _ _=>b3 .non
 |.UnaryOp .USub (.Constant (.int i) _ _) _=>b3 (.int (-i))
 |_=>b4
noncomputable def J4(f:Uj->Option cF):List Uj->Option (List cF)
 |[]=>b3 []
 |e::es=>(f e).bind λd=>(J4 f es).map λds=>d::ds
def EY:Nat->Uj->Option cF
 |0,e=>litA e
 |k+1,e=>match e with
  |.Tuple es _ _=>(J4 (EY k) es).bind λds=>if ds.length<=16777216 then b3 (.tup ds)else b4
  |.List es _=>(J4 (EY k) es).bind λds=>if ds.length<=16777216 then b3 (.lst ds)else b4
  |e=>litA e
section
variable{X:Cx}{K:Aj}{ml:List Nat}
def AQ{e:Uj}{d:cF}(h:litA e=b3 d):PE X e (TV K ml b8 b8 b8 (fC d)):=by
 unfold litA at h;split at h
 ·cases h;exact cE
 ·cases h;exact Z0
 ·cases h;exact bV
 ·cases h;exact ZU
 ·cases h;exact XN cE
 ·cases h
def IT{e:Uj}{es:List Uj}{d:cF}(h:litA e=b3 d):Uh (e::es) X.env=(ba,eval e X.env)::Uh es X.env:=by
 unfold litA at h;split at h<;>first
  |rfl
  |cases h
theorem GZ{f:Uj->Option cF}(c:∀e d,f e=b3 d->PE X e (TV K ml b8 b8 b8 (fC d))/\∀es,Uh (e::es) X.env=(ba,eval e X.env)::Uh es X.env):∀{es:List Uj}{ds:List cF},J4 f es=b3 ds->PA X es (TAV K ml b8 b8 λδ=>b3 (ds,δ))
 |[],_,h=>by
  cases h;exact bY
 | e :: es,ds,h => by
  have h:((f e).bind λd=>(J4 f es).map λds=>d::ds)=b3 ds:=h;cases h1:f e with
  |none=>rw[h1]at h;cases h
  |some d=>
   rw[h1]at h;have h:(J4 f es).map (λds=>d::ds)=b3 ds:=h;cases h2:J4 f es with
   |none=>rw[h2]at h;cases h
   |some g=>
    rw[h2]at h;cases h;obtain⟨a,b⟩:=c e d h1;exact cG a (GZ c h2) (b es)
theorem GY:∀{k:Nat}{e:Uj}{d:cF},EY k e=b3 d->PE X e (TV K ml b8 b8 b8 (fC d))/\∀es,Uh (e::es) X.env=(ba,eval e X.env)::Uh es X.env
 |0,e,d,h=>⟨AQ h,λes=>IT h⟩
 | k + 1,e,d,h => by
  have hl:∀(es:List Uj) (g:List cF->cF) (c:MH->VF),(∀fs δ,c fs δ=(fs δ).bind λp=>if p.1.length<=16777216 then b3 (g p.1,p.2)else b4)->((J4 (EY k) es).bind λds=>if ds.length<=16777216 then b3 (g ds)else b4)=b3 d->∃ds,PA X es (TAV K ml b8 b8 λδ=>b3 (ds,δ))/\c (λδ=>b3 (ds,δ))=fC d:=by
   intro es g c f h;cases h1:J4 (EY k) es with
   |none=>rw[h1]at h;cases h
   |some ds=>
    rw[h1]at h;have h:(if ds.length<=16777216 then b3 (g ds)else b4)=b3 d:=h;split at h
    ·rename_i hz
     cases h;refine⟨ds,GZ (λe d=>GY) h1,funext λδ=>?_⟩;rw[f];show(if ds.length<=16777216 then b3 (g ds,δ)else b4)=_;rw[if_pos hz];rfl
    ·cases h
  unfold EY at h;split at h
  ·rename_i es i pos
   obtain⟨ds,a,b⟩:=hl es .tup aH (λ_ _=>rfl) h;exact⟨b▸bI a,λ_=>rfl⟩
  ·rename_i es pos
   obtain⟨ds,a,b⟩:=hl es .lst Z7 (λ_ _=>rfl) h;exact⟨b▸cW a,λ_=>rfl⟩
  ·exact⟨AQ h,λes=>IT h⟩
def QE{k:Nat}{e:Uj}{d:cF}(h:EY k e=b3 d):PE X e (TV K ml b8 b8 b8 (fC d)):=(GY h).1
def LQ{k:Nat}{es:List Uj}{pos:Pos}{ds:List cF}(h:J4 (EY k) es=b3 ds)(hz:ds.length<=16777216):PE X (.List es pos) (TN K ml b8 (fC (.lst ds))):=by
 have a:=aS (pos:=pos) (GZ (X:=X) (K:=K) (ml:=ml) (λe d=>GY (k:=k)) h);have b:Z7 (λδ=>b3 (ds,δ))=fC (.lst ds):=funext λδ=>by show(if ds.length<=16777216 then b3 (cF.lst ds,δ)else b4)=_;rw[if_pos hz];rfl
 exact b▸a
end
section
variable{X:Cx}{K:Aj}{ml:List Nat}{e a b c:Uj}{es:List Uj}{pa ta ia pb tb ib pc tc ic pu bt bi ps bs:Bool}{fa fb fc f:VF}{B B':Bs}{O:Nat->Option Ud}{H H1 H':Hp}{σ:St}{δ δ':Ev}{v:V}{d:cF}{pos:Pos}{st:Up}{rest:List Up}{g g':VS}{z z':VZ}{R:Ug->Option Ud->St->Hp->Prop}
def VR{a:List Up}:V6 X a (U7 K ml λ_=>b4):=λ_ _ _ _ _ _ ⟨_,_,_,_,_,q,_⟩=>nomatch q
end
end L2
namespace TS
open PySem PySem.W PyProof.Rows
section
variable{n:Nat}{ck:Nat->Nat->Bool}
def CS:(Az 64).all (λn=>(sortPriv% PySem.Builtin.minRun) n n 0==n)=b8:=by decide+kernel
def fN{x:Pu}(h:Pm n x.p)(s:x.pd= #[])(l:n<64):X n ck (λ_=>sortRuns') x (λ(_:Unit) _=>()) (λ_ y=>Pm n y.p):=by
 refine X.go D.get ?_;have r:∀e:En,(arrOf (stO e x)).size=n:=λe=>by show(e.of x.p).size=n;rw[lv,h.sz]
 have b:∀(e:En) (y:Pu),pendingOf (stO e y)=y.pd:=λe y=>rfl;have f:(sortPriv% PySem.Builtin.minRun) n n 0=n:=beq_iff_eq.mp (Eh.mp CS n (Cv.mpr l));simp only[r];generalize (sortPriv% PySem.Builtin.minRun) n n 0=a at f;subst f;refine X.bind (u:=λ(t:Nat) _=>(b4,t)) (S:=λt y=>Pm a y.p/\y.pd.size<=1) ?_ ?_
 ·refine X.range (I := λ_ t y => Pm a y.p /\ (t = 0 /\ y.pd = #[] ∨ a <= t /\ y.pd.size <= 1)) (t := 0) (λt y h => ⟨h.1,by
   rcases h.2 with q|q
   ·rw[q.2];decide
   ·exact q.2⟩) ⟨h,.inl ⟨rfl,s⟩⟩ λi _ _ k lo y hw=>?_
  refine X.ite (λ_=>X.done lo ⟨hw.1,by
   rcases hw.2 with q|q
   ·rw[q.2];decide
   ·exact q.2⟩) λq=>?_
  dsimp only at q;obtain⟨rfl,j⟩:lo=0/\y.pd= #[]:=by
   rcases hw.2 with h|h
   ·exact h
   ·lia
  refine X.bind (count hw.1 (by dsimp only;lia) (by dsimp only;lia)) ?_;rintro m z ⟨m1,m2,hz⟩;dsimp only at m2;have o:z.pd= #[]:=hz.2.trans j;refine X.ite (λ_=>X.go D.rule (X.bind (bin hz.1 (by dsimp only;lia)) λ_ g c=>X.ite (λv=>absurd v (by simp)) λ_=>?_)) λw=>?_
  ·have d:g.pd= #[]:=c.2.trans o
   refine X.go D.get ?_;simp only[b];rw[show g.pd.back? =b4 by rw[d];rfl];exact X.go (D.modify (y:={g with pd:=g.pd.push (0,(min (a-0) a),0)}) λe=>rfl) (X.yield (0+(min (a-0) a)) ⟨c.1,.inr ⟨by lia,by rw[d];exact Am 1⟩⟩)
  ·refine X.go D.get ?_
   simp only[b];rw[show z.pd.back? =b4 by rw[o];rfl];exact X.go (D.modify (y:={z with pd:=z.pd.push (0,m,0)}) λe=>rfl) (X.yield (0+m) ⟨hz.1,.inr ⟨by lia,by rw[o];exact Am 1⟩⟩)
 ·intro lo y hw
  refine X.bind (u:=λ(_:Unit) _=>(b4,())) (S:=λ_ y=>Pm a y.p) ?_ λ_ y h=>X.ret () h;refine X.range (I:=λ_ _ y=>Pm a y.p/\y.pd.size<=1) (t:=()) (λt y h=>h.1) hw λi _ _ k _ y hw=>?_;refine X.go D.get ?_;simp only[b];refine X.ite (λ_=>X.done () hw.1) λq=>?_;exact absurd hw.2 (by lia)
def LH(n:Nat)(ck:Nat->Nat->Bool)(a:n<64):∃y:Pu,Pm n y.p/\D n ck (λ_=>sortRuns') (xS n) (λ_=>()) y:=by obtain⟨t,y,h,d⟩:=fN (n:=n) (ck:=ck) (x:=xS n) (Pm.id n) rfl a;exact⟨y,h,d⟩
noncomputable def srt0(n:Nat)(ck:Nat->Nat->Bool):List Nat:=if h:2<=n/\n<64 then(LH n ck h.2).choose.p.toList else Az n
def JN(n:Nat)(ck:Nat->Nat->Bool):(srt0 n ck).Perm (Az n):=by
 unfold srt0;split
 ·rename_i h
  exact(LH n ck h.2).choose_spec.1
 ·exact .refl _
end
section
variable{prog:Be}{w:Ul}{A:Bx}{E:Uc->Ae->Prop}{s:Ae}
def DP{a:Ud}{vs:List Uc}{z:Nat}{κ:Rb}{ck:Nat->Nat->Bool}{P:PySem.Fin->Ae->Prop}(m:s.heap.get? a=b3 (Hq "list" vs.toArray z))(hz:vs.length<=sizeLine)(d:vs.length<64)(G:2<=vs.length->∀h':Um,(∀b o,b≠a->s.heap.get? b=b3 o->h'.get? b=b3 o)->∀v:Rb->Ae->Prop,v κ {s with heap:=h'}->Ue (Uf prog w) A (keyKind' vs.toArray) v E {s with heap:=h'})(hc:∀h':Um,(∀b o,b≠a->s.heap.get? b=b3 o->h'.get? b=b3 o)->∀i j,i<vs.length->j<vs.length->∀C:Bool->Ae->Prop,C (ck i j) {s with heap:=h'}->Ue (Uf prog w) A (keyLt' κ (vs.getD i Value.none) (vs.getD j Value.none)) C (λ_ _=>False) {s with heap:=h'})(h:P (.done (.ret .none)) {s with heap:=sortedHeap s.heap a vs ((srt0 vs.length ck).map λi=>vs.getD i Value.none).toArray}):Ue (Uf prog w) A (Fe.«list.sort» ⟨[.ref a],[]⟩) P E s:=by
 have lt:=Al m;have hsz:vs.toArray.size=vs.length:=by simp
 obtain⟨K,g⟩:∃k,(s.heap.update a (Fn λ_=> #[])).get? a=b3 (Hq "list" #[] k):=⟨_,get?_update_seq m (λ_=> #[])⟩;have keep:∀b o,b≠a->s.heap.get? b=b3 o->(((s.heap.update a (Fn λ_=> #[])).push (Hq "tuple" vs.toArray 0)).push (Hq "list" #[] 0)).get? b=b3 o:=λb o J n=>
  Ad _ (Ad _ (by rw[Nz _ _ _ _ J];exact n))
 have c:(((s.heap.update a (Fn λ_=> #[])).push (Hq "tuple" vs.toArray 0)).push (Hq "list" #[] 0)).get? a=b3 (Hq "list" #[] K):=Ad _ (Ad _ g);have L:∀l:List Uc,l.length=vs.length->l.toArray.size<=sizeLine+1:=λl hl=>by rw[Ao];lia
 rw[list_sort_plain];refine(Aa (listItems_at m rfl ?_));refine(Aa (Oz m rfl ?_ (by rw[Ao];lia) (Dm _)));refine(Aa (Sa g rfl ?_));refine(Aa (wpAny_newTuple ?_ (by show vs.length<=_;exact hz)));refine(Aa (wpAny_newList (Bw ?_) (Dm _)))
 ·show (Ue (Uf prog w) A _ P E { s with heap := (((s.heap.update a (Fn λ_ => #[])).push (Hq "tuple" vs.toArray 0)).push (Hq "list" #[] 0)) })
  dsimp only;have M:((srt0 vs.length ck).map λi=>vs.getD i Value.none).length=vs.length:=by rw[Ci,(JN _ _).length_eq,Ip]
  by_cases h2:vs.toArray.size<2
  ·have I : ((srt0 vs.length ck).map λi => vs.getD i Value.none) = vs := by unfold srt0;rw[dif_neg (by lia)];exact jR vs
   rw[I]at h;rw[if_pos h2,if_pos h2];refine(Aa (Ah ?_));rw[StateT.run_pure];refine(Aa (Ah ?_));dsimp only;have F:(vs.toArray.zip vs.toArray).map (·.2)=vs.toArray:=by apply Qw.mp;simp;exact List.map_snd_zip (Am _)
   rw[F];refine(Aa (Sa c rfl (Aa (Oz c rfl ?_ (hsz2:=by rw[Ao];lia)))));simp only[bne_self_eq_false,Eu,if_false];exact Ah h
  ·rw[if_neg h2,if_neg h2]
   refine(Aa (G (by lia) _ keep _ ?_));have B:2<=vs.length:=by lia
   have spec:=(LH vs.length ck d).choose_spec;have u:srt0 vs.length ck=(LH vs.length ck d).choose.p.toList:=by unfold srt0;rw[dif_pos ⟨B,d⟩]
   generalize (LH vs.length ck d).choose=y at spec u;let e:En:=⟨prog,w,A,{s with heap:=(((s.heap.update a (Fn λ_=> #[])).push (Hq "tuple" vs.toArray 0)).push (Hq "list" #[] 0))},κ,Px vs⟩
   have t:e.Ok vs.length ck:=λi j hi H C q=>by show Ue (Uf prog w) A (keyLt' κ (Lr (Px vs) i).1 (Lr (Px vs) j).1) C _ _;rw[Sb,Sb];exact hc _ keep i j hi H C q
   have r:Ld κ (vs.toArray.zip vs.toArray) #[] 7 b4=stO e (xS vs.length):=by have q:=kas_range (Px vs);rw[pairsOf_size]at q;show Ld κ (Px vs) #[] 7 b4=Ld κ ((List.toArray (Az vs.length)).map (Lr (Px vs))) #[] 7 b4;rw[q]
   rw[r];have D:(e.of y.p).map (·.2)=((srt0 vs.length ck).map λi=>vs.getD i Value.none).toArray:=by apply Qw.mp;rw[u,Array.map_map,Array.toList_map];exact Jv λi _=>by show(Lr (Px vs) i).2=_;rw[Sb]
   have run:=spec.2 e t E (λ_ f s'=>f=stO e y/\s'=e.s) ⟨rfl,rfl⟩;refine(Aa (At run ?_ λ_ _ x=>x));rintro ⟨⟨⟩,f⟩ s' ⟨rfl,rfl⟩;show(Ue (Uf prog w) A _ P E {s with heap:=(((s.heap.update a (Fn λ_=> #[])).push (Hq "tuple" vs.toArray 0)).push (Hq "list" #[] 0))});dsimp only;rw[show(arrOf (stO e y))=e.of y.p from rfl,D];refine(Aa (Sa c rfl (Aa (Oz c rfl ?_ (hsz2:=by rw[Ao];lia)))));rw[show failedOf (stO e y)=b4 from rfl];simp only[bne_self_eq_false,Eu,if_false];exact Ah h
def HI{l:Ud}{vs:List Uc}{κ:Rb}{ck:Nat->Nat->Bool}{Q:Uc->Ae->Prop}(hl:s.heap.IsList l vs.toArray)(hz:vs.length<=sizeLine)(e:vs.length<64)(k:2<=vs.length->∀(A:Bx) (E:Uc->Ae->Prop) (h':Um),(∀b o,s.heap.get? b=b3 o->h'.get? b=b3 o)->∀f:Rb->Ae->Prop,f κ {s with heap:=h'}->Ue (Uf prog w) A (keyKind' vs.toArray) f E {s with heap:=h'})(hc:∀(A:Bx) (h':Um),(∀b o,s.heap.get? b=b3 o->h'.get? b=b3 o)->∀i j,i<vs.length->j<vs.length->∀C:Bool->Ae->Prop,C (ck i j) {s with heap:=h'}->Ue (Uf prog w) A (keyLt' κ (vs.getD i Value.none) (vs.getD j Value.none)) C (λ_ _=>False) {s with heap:=h'})(h:Q (.ref (s.heap.objs.size+1)) {s with heap:=sortedAll s.heap vs ((srt0 vs.length ck).map λi=>vs.getD i Value.none).toArray}):Ue (Uf prog w) A (call (.builtin "sorted") [.ref l]) Q E s:=by
 refine(Calls.call_function_entry kind_sorted plain_sorted entry_sorted (args_sorted1 _) ?_);unfold Fe.«sorted»;refine(Aa (m:=checkCount "sorted" 1 1 _) (Ah (Aa (collect_list hl (Aa (wpAny_newList ?_ (by exact hz))) hz))));have c:((s.heap.push (Hq "list" #[] 0)).update s.heap.objs.size (Fn (· ++vs.toArray))).objs.size=s.heap.objs.size+1:=by rw[Qr,size_push']
 have d:(((s.heap.push (Hq "list" #[] 0)).update s.heap.objs.size (Fn (· ++vs.toArray))).push (Hq "list" vs.toArray 0)).get? (s.heap.objs.size+1)=b3 (Hq "list" vs.toArray 0):=by rw[<-c];exact Ba _ rfl
 have keep:∀b o,s.heap.get? b=b3 o->(((s.heap.push (Hq "list" #[] 0)).update s.heap.objs.size (Fn (· ++vs.toArray))).push (Hq "list" vs.toArray 0)).get? b=b3 o/\b≠s.heap.objs.size+1:=λb o q=>by have a:b<s.heap.objs.size:=Al q;refine⟨?_,Bf (Lc a)⟩;rw[Iq _ _ _ (by rw[c];exact(Bf (Lc a))),Nz _ _ _ _ (Bf a),Iq _ _ _ (Bf a)];exact q
 show(Ue _ _ _ _ _ {s with heap:=((s.heap.push (Hq "list" #[] 0)).update s.heap.objs.size (Fn (· ++vs.toArray))).push (Hq "list" vs.toArray 0)});rw[c];refine(Aa (Bw (Eg slot_list_sort ⟨_,d,rfl⟩ entry_list_sort (DP (κ:=κ) (ck:=ck) d hz e (λg h' k'=>k g _ _ h' λb o q=>k' b o (keep b o q).2 (keep b o q).1) (λh' k'=>hc _ h' λb o q=>k' b o (keep b o q).2 (keep b o q).1) ⟨_,rfl,?_⟩) (args_list_sort _))));exact(Ah ⟨_,rfl,h⟩)
def J6{l:Ud}{vs:List Uc}{ps:List (Int×Int)}{Q:Uc->Ae->Prop}(hl:s.heap.IsList l vs.toArray)(hz:vs.length<=sizeLine)(d:vs.length<64)(c:PrI s.heap vs ps)(h:Q (.ref (s.heap.objs.size+1)) {s with heap:=sortedAll s.heap vs ((srt0 vs.length (ckP ps)).map λi=>vs.getD i Value.none).toArray}):Ue (Uf prog w) A (call (.builtin "sorted") [.ref l]) Q E s:=by
 refine HI (κ:=tuples' b8) hl hz d (λr A E h' k' x q=>?_) (λA h' k' i j hi k C q=>?_) h
 ·obtain⟨fs,h1,h2,m⟩:=(c.keep k').tups
  refine kat_kind (s:={s with heap:=h'}) (T:=.type "int") h1 (by lia) (λv g=>?_) (by decide) q;obtain⟨i,t,rfl⟩:=m v g;exact Looks.now
 ·obtain⟨a,t,u,o,f⟩:=(c.keep k').at hi
  obtain⟨b,t',p,n,e⟩:=(c.keep k').at k;rw[o,n];exact jO (s:={s with heap:=h'}) f e q
end
end TS
namespace L2
open PySem PySem.Spec PyProof.Rows
variable{X:Cx}{K:Aj}
noncomputable def FT(ps:List (Int×Int)):List Nat:=TS.srt0 ps.length (TS.ckP ps)
def Q9(ps:List (Int×Int)):(FT ps).Perm (Az ps.length):=TS.JN _ _
def Xm(K:Aj):RC:=λxs H Q=>∃(p:Ud) (ys:List V) (ps:List (Int×Int)),xs=[.ref p]/\WW K H p ys/\ys.length<64/\PrV K H ys ps/\∀l:Ud,H l=b4->Q (.ref l) (upd H l (.lst ((FT ps).map λi=>ys.getD i .non)))
def oK(h:X.K=K:=by rfl):ZH X (.builtin "sorted") (Xm K):=by
 subst h;intro aa s σ H xs n Q I r h;obtain⟨p,ys,ps,rfl,g,m,d,q⟩:=h;obtain⟨u,rfl,f⟩:=SQ r;cases f;obtain⟨its,c,pl,hz⟩:=I.list g;have t:=c.length;have j:=d.len;have k:H (s.heap.objs.size+1)=b4:=I.hok.fresh (Em _);refine TS.J6 pl.isList (by lia) (by lia) (d.prI I c) ?_;rw[show its.length=ps.length by lia];obtain⟨e,l⟩:=sortedAll_at s.heap its ((TS.srt0 ps.length (TS.ckP ps)).map λi=>its.getD i Value.none).toArray;refine⟨.ref (s.heap.objs.size+1),_,I.laid (a:=s.heap.objs.size+1) (o:=.lst ((FT ps).map λi=>ys.getD i .non)) (t':=s.toks) (λb o=>sortedAll_old) (Em _) ?_,rfl,q _ k⟩;refine⟨by rw[Ci,(Q9 ps).length_eq,Ip];lia,(FT ps).map λi=>its.getD i Value.none,e,JT c _ λi hi=>?_,?_⟩
 ·have:=Cv.mp ((Q9 ps).mem_iff.mp hi)
  lia
 ·rw[l]
  rfl
noncomputable def C5:cF->Option cF
 |.lst ds=>if ds.length<64 then(LB ds).bind λps=>b3 (.lst ((FT ps).map λi=>ds.getD i .non))else b4
 |_=>b4
def m9:CalN K (Xm K) C5:=by
 intro H N M x d c Q f h k;cases d with
 |lst ds=>
  have h:(if ds.length<64 then(LB ds).bind λps=>b3 (cF.lst ((FT ps).map λi=>ds.getD i .non))else b4)=b3 c:=h;split at h
  ·rename_i e
   cases h1:LB ds with
   |none=>rw[h1]at h;cases h
   |some ps=>
    rw[h1]at h;cases h;obtain⟨a,xs,rfl,sq,r⟩:=f.lstE;exact⟨a,xs,ps,rfl,sq,by rw[r.length];exact e,A9 r h1,λl b=>k l _ _ b (JI r _) rfl⟩
  ·cases h
 |_=>cases h
section
variable{X:Cx}{K:Aj}{ml:List Nat}{e a b c l:Uj}{es:List Uj}{pa ta ia pb tb ib pc tc ic pu bt bi ps bs:Bool}{fa fb fc f:VF}{B B':Bs}{O:Nat->Option Ud}{H H1 H':Hp}{σ:St}{δ δ':Ev}{v:V}{d:cF}{p:Ud}{pos:Pos}{tg:Uj}
def Zq(K:Aj):RC:=λxs H Q=>∃(p:Ud) (ns:List Int),xs=[.ref p]/\WW K H p (ns.map V.int)/\ns.length+1<4096/\∀l,H l=b4->Q (.ref l) (upd H l (.set (λk=>(Pa (λi=>ns.getD i 0) ns.length).any (· ==k)) (Pa (λi=>ns.getD i 0) ns.length).length))
def eR(hc:X.calm=b8):ZH X (.type "set") (Zq X.K):=by
 intro aa s σ H xs j Q I r h;obtain⟨p,ns,rfl,f,g,q⟩:=h;obtain⟨u,rfl,d⟩:=SQ r;cases d;obtain⟨its,a,pl,hz⟩:=I.list f;have hi:PyProof.Rows.IntsAre its.toArray.toList ns:=CN a;have hl:its.length=ns.length:=by rw[<-a.length];simp
 refine PySem.call_set_list (I.ok.hd hc) pl.isList hi (by simp[hl];exact g) λh' tk c kp=>?_;simp only[Ao,hl]at c;exact⟨.ref s.heap.objs.size,_,I.laid (t':=tk) (λb o e=>kp b o (Al e) e) (Am _) (show Y7 X.prog X.w _ h' _ (.set (λk=>(Pa (λi=>ns.getD i 0) ns.length).any (· ==k)) (Pa (λi=>ns.getD i 0) ns.length).length) from c),rfl,q _ (I.hok.fresh (Am _))⟩
def gW:ZH X (.builtin "len") (λxs H Q=>∃p S n,xs=[.ref p]/\H p=b3 (.set S n)/\Q (.int (n:Nat)) H):=by
 intro aa s σ H xs i Q I r h;obtain⟨p,S,n,rfl,b,q⟩:=h;obtain⟨u,rfl,a⟩:=SQ r;cases a;obtain⟨o,es,j,t,g,f,e,l,k,d,c,rfl⟩:=I.hok p _ b;refine PySem.call_len_set g f e c ?_ ⟨.int es.size,H,I.tok _,⟨_,rfl⟩,q⟩;have:es.size<4096:=d
 lia
def A0:cF->Option cF
 |.lst ds=>(VH ds).bind λns=>if ns.length+1<4096 then b3 (.int (Pa (λi=>ns.getD i 0) ns.length).length)else b4
 |_=>b4
def ka{p' b bu:Pos}(o:X.mg "len"=b4)(f:X.mg "set"=b4)(s:PE X a (TV K ml pa ta b8 fa))(hc:X.calm=b8:=by rfl)(t:X.K=K:=by rfl)(p:Gl X "len":=by rfl)(g:Gl X "set":=by rfl)(m:SE X a []:=by rfl)(c:Uh (Expr.Call (.Name "set" b) [a] [] bu::[]) X.env=(ba,eval (Expr.Call (.Name "set" b) [a] [] bu) X.env)::Uh [] X.env:=by rfl):PE X (.Call (.Name "len" p') [.Call (.Name "set" b) [a] [] bu] [] pos) (TV K ml pa b8 b8 (f1 A0 fa)):=by
 subst t;refine(OY gW p o Vw (aW (VQ (eR hc) g f (by decide+kernel) (aW s ZB m) (by decide) (by decide) m) ZB c) (by decide) (by decide) c).imp λσ H Q h=>?_;obtain⟨B,O,δ,d,δ',S,q,k⟩:=h;obtain⟨x,h1,h2⟩:=PV q;refine⟨B,O,δ,x,δ',S,h1,λv H1 e=>?_⟩;cases x with
 |lst ds=>
  have h2:((VH ds).bind λns=>if ns.length+1<4096 then b3 (cF.int (Pa (λi=>ns.getD i 0) ns.length).length)else b4)=b3 d:=h2;cases j:VH ds with
  |none=>rw[j]at h2;cases h2
  |some ns=>
   rw[j,An]at h2;split at h2
   ·rename_i n
    cases h2;obtain⟨a,xs,rfl,sq,r⟩:=e.rep.lstE;have u:=OS r j;subst u;refine⟨a,ns,rfl,sq,n,λl hl=>⟨l,_,_,rfl,bK,k _ _ ⟨e.sta.same (bZ hl),e.frm.trans (bZ hl).fr,λz=>(e.pur z).trans (bZ hl),.int _⟩⟩⟩
   ·cases h2
 |_=>cases h2
end
end L2
namespace L2
open PySem
section
variable{α β:Type}{d x y z c:cF}{δ δ1 δ':Ev}{fa fb fc:VF}{o o':cF->cF->Option cF}{i j k n:Nat}{s:Sl}{b:Bool}{ds:List cF}
def q0(r:Option α)(δ:Ev):Option (α×Ev):=r.map λc=>(c,δ)
@[simp] theorem q0_s{a:α}:q0 (b3 a) δ=b3 (a,δ):=rfl
@[simp] theorem fC_e:fC d δ=b3 (d,δ):=rfl
noncomputable def qV:Option Sl->Ev->Option (cF×Ev)
 |some (.va d),δ=>b3 (d,δ)
 |_,_=>b4
noncomputable def qO:Option Sl->Ev->Option (cF×Ev)
 |some (.va d),δ=>b3 (d,δ)
 |some (.ow d),δ=>b3 (d,δ)
 |_,_=>b4
@[simp] theorem fV_e:fV i δ=qV δ[i]? δ:=by unfold fV qV;split<;>simp_all
@[simp] theorem fO_e:fO i δ=qO δ[i]? δ:=by unfold fO qO;split<;>simp_all
@[simp] theorem qV_s:qV (b3 (.va d)) δ=b3 (d,δ):=rfl
@[simp] theorem qO_v:qO (b3 (.va d)) δ=b3 (d,δ):=rfl
@[simp] theorem qO_o:qO (b3 (.ow d)) δ=b3 (d,δ):=rfl
def q1(o:cF->Option cF)(r:Option (cF×Ev)):Option (cF×Ev):=r.bind λp=>q0 (o p.1) p.2
@[simp] theorem f1_e{o:cF->Option cF}:f1 o fa δ=q1 o (fa δ):=rfl
@[simp] theorem q1_s{o:cF->Option cF}:q1 o (b3 (x,δ))=q0 (o x) δ:=rfl
def q2(o:cF->cF->Option cF)(r:Option (cF×Ev))(fb:VF):Option (cF×Ev):=r.bind λp=>(fb p.2).bind λq=>q0 (o p.1 q.1) q.2
def q2b(o:cF->cF->Option cF)(x:cF)(r:Option (cF×Ev)):Option (cF×Ev):=r.bind λq=>q0 (o x q.1) q.2
@[simp] theorem f2_e:f2 o fa fb δ=q2 o (fa δ) fb:=rfl
@[simp] theorem q2_s:q2 o (b3 (x,δ)) fb=q2b o x (fb δ):=rfl
@[simp] theorem uq:q2b o x (b3 (y,δ))=q0 (o x y) δ:=rfl
noncomputable def q3(o o':cF->cF->Option cF)(r:Option (cF×Ev))(fb fc:VF):Option (cF×Ev):=r.bind λp=>(fb p.2).bind λq=>(o p.1 q.1).bind λz=>match z with
 |.bl b8=>(fc q.2).bind λs=>(o' q.1 s.1).map λu=>(u,s.2)
 |.bl ba=>b3 (.bl ba,q.2)
 |_=>b4
def q3b(o o':cF->cF->Option cF)(x:cF)(r:Option (cF×Ev))(fc:VF):Option (cF×Ev):=q3 o o' (b3 (x,[])) (λ_=>r) fc
noncomputable def q3c(o':cF->cF->Option cF)(y:cF)(δ:Ev)(fc:VF):Option cF->Option (cF×Ev)
 |some (.bl b8)=>q2b o' y (fc δ)
 |some (.bl ba)=>b3 (.bl ba,δ)
 |_=>b4
@[simp] theorem f3_e:f3 o o' fa fb fc δ=q3 o o' (fa δ) fb fc:=rfl
@[simp] theorem q3_s:q3 o o' (b3 (x,δ)) fb fc=q3b o o' x (fb δ) fc:=rfl
@[simp] theorem sy:q3b o o' x (b3 (y,δ)) fc=q3c o' y δ fc (o x y):=by
 simp only[q3b,q3,An];cases o x y with
 |none=>rfl
 |some z=>cases z with
  |bl b=>cases b<;>rfl
  |_=>rfl
@[simp] theorem pM:q3c o' y δ fc (b3 (.bl b8))=q2b o' y (fc δ):=rfl
@[simp] theorem pU:q3c o' y δ fc (b3 (.bl ba))=b3 (.bl ba,δ):=rfl
noncomputable def qc(r:Option (cF×Ev))(fs:MH):Option (List cF×Ev):=r.bind λp=>(fs p.2).map λq=>(p.1::q.1,q.2)
noncomputable def qcb(x:cF)(r:Option (List cF×Ev)):Option (List cF×Ev):=r.map λq=>(x::q.1,q.2)
@[simp] theorem rF:bP δ=b3 ([],δ):=rfl
@[simp] theorem rO{fs:MH}:cD fa fs δ=qc (fa δ) fs:=rfl
@[simp] theorem qc_s{fs:MH}:qc (b3 (x,δ)) fs=qcb x (fs δ):=rfl
@[simp] theorem tT:qcb x (b3 (ds,δ))=b3 (x::ds,δ):=rfl
noncomputable def qT(g:List cF->cF)(r:Option (List cF×Ev)):Option (cF×Ev):=r.bind λp=>if p.1.length<=16777216 then b3 (g p.1,p.2)else b4
@[simp] theorem uw{fs:MH}:aH fs δ=qT .tup (fs δ):=rfl
@[simp] theorem rP{fs:MH}:Z7 fs δ=qT .lst (fs δ):=rfl
@[simp] theorem qT_s{g:List cF->cF}:qT g (b3 (ds,δ))=if ds.length<=16777216 then b3 (g ds,δ)else b4:=rfl
noncomputable def qB:Option (cF×Ev)->Option (Bool×Ev)
 |some (.bl k,δ)=>b3 (k,δ)
 |_=>b4
@[simp] theorem fB_e:fB fa δ=qB (fa δ):=by
 unfold fB qB;cases fa δ with
 |none=>rfl
 |some p=>
  obtain⟨d,e⟩:=p;cases d<;>rfl
@[simp] theorem qB_s:qB (b3 (.bl b,δ))=b3 (b,δ):=rfl
variable{tb tb':VB}{g g':VS}
noncomputable def qAnd(r:Option (Bool×Ev))(y:VB):Option (Bool×Ev):=r.bind λp=>if p.1=b8 then y p.2 else b3 (ba,p.2)
noncomputable def qOr(r:Option (Bool×Ev))(y:VB):Option (Bool×Ev):=r.bind λp=>if p.1=b8 then b3 (b8,p.2)else y p.2
noncomputable def qNot(r:Option (Bool×Ev)):Option (Bool×Ev):=r.map λp=>(!p.1,p.2)
@[simp] theorem uf:QT tb tb' δ=qAnd (tb δ) tb':=rfl
@[simp] theorem sT:MS tb tb' δ=qOr (tb δ) tb':=rfl
@[simp] theorem rn:YE tb δ=qNot (tb δ):=rfl
@[simp] theorem Wg:V7 δ=b3 (b8,δ):=rfl
@[simp] theorem tw:qAnd (b3 (b8,δ)) tb=tb δ:=rfl
@[simp] theorem sQ:qAnd (b3 (ba,δ)) tb=b3 (ba,δ):=rfl
@[simp] theorem pR:qOr (b3 (b8,δ)) tb=b3 (b8,δ):=rfl
@[simp] theorem sH:qOr (b3 (ba,δ)) tb=tb δ:=rfl
@[simp] theorem rL:qNot (b3 (b,δ))=b3 (!b,δ):=rfl
noncomputable def qA(r:Option (cF×Ev))(y:VF):Option (cF×Ev):=r.bind λp=>match p.1 with
 |.bl b8=>y p.2
 |.bl ba=>b3 (.bl ba,p.2)
 |_=>b4
@[simp] theorem qb:UD fa fb δ=qA (fa δ) fb:=rfl
@[simp] theorem qA_t:qA (b3 (.bl b8,δ)) fb=fb δ:=rfl
@[simp] theorem qA_f:qA (b3 (.bl ba,δ)) fb=b3 (.bl ba,δ):=rfl
def qI(r:Option (Bool×Ev))(x y:VF):Option (cF×Ev):=r.bind λp=>if p.1=b8 then x p.2 else y p.2
@[simp] theorem oW:GQ tb fa fb δ=qI (tb δ) fa fb:=rfl
@[simp] theorem qI_t:qI (b3 (b8,δ)) fa fb=fa δ:=rfl
@[simp] theorem qI_f:qI (b3 (ba,δ)) fa fb=fb δ:=rfl
def qS(r:Option Ou)(g:VS):Option Ou:=r.bind λo=>match o with
 |.nx δ'=>g δ'
 |o=>b3 o
@[simp] theorem pO:aI δ=b3 (.nx δ):=rfl
@[simp] theorem W5:bR g g' δ=qS (g δ) g':=rfl
@[simp] theorem O9:qS (b3 (.nx δ)) g=g δ:=rfl
@[simp] theorem qS_r:qS (b3 (.rt d δ)) g=b3 (.rt d δ):=rfl
@[simp] theorem qS_b:qS (b3 (.bk δ)) g=b3 (.bk δ):=rfl
@[simp] theorem qS_c:qS (b3 (.ct δ)) g=b3 (.ct δ):=rfl
def qJ(r:Option (Bool×Ev))(x y:VS):Option Ou:=r.bind λp=>if p.1=b8 then x p.2 else y p.2
@[simp] theorem oX:YQ tb g g' δ=qJ (tb δ) g g':=rfl
@[simp] theorem qJ_t:qJ (b3 (b8,δ)) g g'=g δ:=rfl
@[simp] theorem qJ_f:qJ (b3 (ba,δ)) g g'=g' δ:=rfl
noncomputable def qRet(r:Option (cF×Ev)):Option Ou:=r.map λp=>.rt p.1 p.2
@[simp] theorem uj:bE fa δ=qRet (fa δ):=rfl
@[simp] theorem sw:qRet (b3 (d,δ))=b3 (.rt d δ):=rfl
noncomputable def qx(f:cF->Sl)(r:Option (cF×Ev)):Option (Sl×Ev):=r.map λp=>(f p.1,p.2)
@[simp] theorem xV_e:xV fa δ=qx .va (fa δ):=rfl
@[simp] theorem xO_e:xO fa δ=qx .ow (fa δ):=rfl
@[simp] theorem qx_s{f:cF->Sl}:qx f (b3 (d,δ))=b3 (f d,δ):=rfl
noncomputable def qSet(i:Nat)(r:Option (Sl×Ev)):Option Ou:=r.bind λp=>if i<p.2.length then b3 (.nx (p.2.set i p.1))else b4
@[simp] theorem rN{x:VX}:ZZ i x δ=qSet i (x δ):=rfl
@[simp] theorem uI:qSet i (b3 (s,δ))=if i<δ.length then b3 (.nx (δ.set i s))else b4:=rfl
noncomputable def qP2(i j:Nat)(r:Option (Sl×Ev))(y:VX):Option Ou:=r.bind λp=>(y p.2).bind λq=>if i<q.2.length/\j<q.2.length then b3 (.nx ((q.2.set j q.1).set i p.1))else b4
noncomputable def qP2b(i j:Nat)(s:Sl)(r:Option (Sl×Ev)):Option Ou:=r.bind λq=>if i<q.2.length/\j<q.2.length then b3 (.nx ((q.2.set j q.1).set i s))else b4
@[simp] theorem sA{x y:VX}:U2 i j x y δ=qP2 i j (x δ) y:=rfl
@[simp] theorem ug{y:VX}:qP2 i j (b3 (s,δ)) y=qP2b i j s (y δ):=rfl
@[simp] theorem qQ{s':Sl}:qP2b i j s (b3 (s',δ))=if i<δ.length/\j<δ.length then b3 (.nx ((δ.set j s').set i s))else b4:=rfl
noncomputable def qP3(i j k:Nat)(r:Option (Sl×Ev))(y z:VX):Option Ou:=r.bind λp=>(y p.2).bind λq=>(z q.2).bind λr=>if i<r.2.length/\j<r.2.length/\k<r.2.length then b3 (.nx (((r.2.set k r.1).set j q.1).set i p.1))else b4
noncomputable def qP3b(i j k:Nat)(s:Sl)(r:Option (Sl×Ev))(z:VX):Option Ou:=r.bind λq=>(z q.2).bind λr=>if i<r.2.length/\j<r.2.length/\k<r.2.length then b3 (.nx (((r.2.set k r.1).set j q.1).set i s))else b4
noncomputable def qP3c(i j k:Nat)(s s':Sl)(r:Option (Sl×Ev)):Option Ou:=r.bind λr=>if i<r.2.length/\j<r.2.length/\k<r.2.length then b3 (.nx (((r.2.set k r.1).set j s').set i s))else b4
@[simp] theorem pB{x y z:VX}:M5 i j k x y z δ=qP3 i j k (x δ) y z:=rfl
@[simp] theorem rH{y z:VX}:qP3 i j k (b3 (s,δ)) y z=qP3b i j k s (y δ) z:=rfl
@[simp] theorem uQ{s':Sl}{z:VX}:qP3b i j k s (b3 (s',δ)) z=qP3c i j k s s' (z δ):=rfl
@[simp] theorem qj{s' a:Sl}:qP3c i j k s s' (b3 (a,δ))=if i<δ.length/\j<δ.length/\k<δ.length then b3 (.nx (((δ.set k a).set j s').set i s))else b4:=rfl
@[simp] theorem J3:gN i d δ=b3 (δ.set i (.va d)):=rfl
def qg(r:Option Ev)(a:VGs)(ds:List cF):Option Ev:=r.bind λδ1=>a ds δ1
@[simp] theorem sG:YY [] δ=b3 δ:=rfl
@[simp] theorem pW{gg:VG}{a:VGs}:bH gg a (d::ds) δ=qg (gg d δ) a ds:=rfl
@[simp] theorem qg_s{a:VGs}:qg (b3 δ) a ds=a ds δ:=rfl
@[simp] theorem uM{a:VGs}:PN n a (.tup ds) δ=if ds.length=n then a ds δ else b4:=rfl
@[simp] theorem rW{a:VGs}:PN n a (.lst ds) δ=if ds.length=n then a ds δ else b4:=rfl
noncomputable def qAsg(r:Option (cF×Ev))(gg:VG):Option Ou:=r.bind λp=>(gg p.1 p.2).map Ou.nx
@[simp] theorem ue{gg:VG}:MO fa gg δ=qAsg (fa δ) gg:=rfl
@[simp] theorem uL{gg:VG}:qAsg (b3 (d,δ)) gg=(gg d δ).map Ou.nx:=rfl
def qM(i:Nat)(m:List cF->List cF->Option (List cF))(r:Option (List cF))(δ:Ev)(fs:MH):Option Ou:=r.bind λ_=>(fs δ).bind λp=>(MM p.2 i).bind λds=>(m ds p.1).map λa=>.nx (p.2.set i (.ow (.lst a)))
def qMb(i:Nat)(m:List cF->List cF->Option (List cF))(r:Option (List cF×Ev)):Option Ou:=r.bind λp=>(MM p.2 i).bind λds=>(m ds p.1).map λa=>.nx (p.2.set i (.ow (.lst a)))
noncomputable def qMc(i:Nat)(m:List cF->List cF->Option (List cF))(es:List cF)(δ:Ev)(r:Option (List cF)):Option Ou:=r.bind λds=>(m ds es).map λa=>.nx (δ.set i (.ow (.lst a)))
noncomputable def qMd(i:Nat)(δ:Ev)(r:Option (List cF)):Option Ou:=r.map λa=>.nx (δ.set i (.ow (.lst a)))
@[simp] theorem sN{m:List cF->List cF->Option (List cF)}{fs:MH}:XW i m fs δ=qM i m (MM δ i) δ fs:=rfl
@[simp] theorem qM_s{m:List cF->List cF->Option (List cF)}{fs:MH}:qM i m (b3 ds) δ fs=qMb i m (fs δ):=rfl
@[simp] theorem pJ{m:List cF->List cF->Option (List cF)}{es:List cF}:qMb i m (b3 (es,δ))=qMc i m es δ (MM δ i):=rfl
@[simp] theorem pL{m:List cF->List cF->Option (List cF)}{es:List cF}:qMc i m es δ (b3 ds)=qMd i δ (m ds es):=rfl
@[simp] theorem sX:qMd i δ (b3 ds)=b3 (.nx (δ.set i (.ow (.lst ds)))):=rfl
noncomputable def qOl:Option Sl->Option (List cF)
 |some (.ow (.lst ds))=>b3 ds
 |_=>b4
@[simp] theorem rA:MM δ i=qOl δ[i]? :=by unfold MM qOl;split<;>simp_all
@[simp] theorem tX:qOl (b3 (.ow (.lst ds)))=b3 ds:=rfl
@[simp] theorem sD:WX ds [d]=if ds.length<16777216 then b3 (ds++[d])else b4:=rfl
noncomputable def qOd:Option Sl->Option (List Z8×List cF)
 |some (.ow (.dct ks ds))=>b3 (ks,ds)
 |_=>b4
@[simp] theorem tR:WB δ i=qOd δ[i]? :=by unfold WB qOd;split<;>simp_all
@[simp] theorem sF{ks:List Z8}:qOd (b3 (.ow (.dct ks ds)))=b3 (ks,ds):=rfl
def qi(r:Option (cF×Ev)):Option (List cF×Ev):=r.bind λp=>(WC p.1).map λds=>(ds,p.2)
@[simp] theorem qZ:W7 fa δ=qi (fa δ):=rfl
@[simp] theorem qi_t:qi (b3 (.tup ds,δ))=b3 (ds,δ):=rfl
@[simp] theorem qi_l:qi (b3 (.lst ds,δ))=b3 (ds,δ):=rfl
noncomputable def qr1:Option (cF×Ev)->Option (List cF×Ev)
 |some (.int j,δ)=>if -4611686018427387904<=j/\j<4611686018427387904 then b3 (YW 0 j.toNat,δ)else b4
 |_=>b4
@[simp] theorem rq:iR1 fa δ=qr1 (fa δ):=by
 unfold iR1 qr1;cases fa δ with
 |none=>rfl
 |some p=>
  obtain⟨d,e⟩:=p;cases d<;>rfl
@[simp] theorem um{j:Int}:qr1 (b3 (.int j,δ))=if -4611686018427387904<=j/\j<4611686018427387904 then b3 (YW 0 j.toNat,δ)else b4:=rfl
def qe(r:Option (cF×Ev)):Option (List cF×Ev):=r.bind λp=>(WC p.1).map λds=>(XD 0 ds,p.2)
@[simp] theorem ua:RQ fa δ=qe (fa δ):=rfl
@[simp] theorem qe_t:qe (b3 (.tup ds,δ))=b3 (XD 0 ds,δ):=rfl
@[simp] theorem qe_l:qe (b3 (.lst ds,δ))=b3 (XD 0 ds,δ):=rfl
def qz(r:Option (cF×Ev))(g:VF):Option (List cF×Ev):=r.bind λp=>(g p.2).bind λq=>(WC p.1).bind λds=>(WC q.1).map λes=>(SD ds es,q.2)
def qzb(x:cF)(r:Option (cF×Ev)):Option (List cF×Ev):=r.bind λq=>(WC x).bind λds=>(WC q.1).map λes=>(SD ds es,q.2)
@[simp] theorem ql:iZip fa fb δ=qz (fa δ) fb:=rfl
@[simp] theorem qz_s:qz (b3 (x,δ)) fb=qzb x (fb δ):=rfl
@[simp] theorem tL:qzb x (b3 (y,δ))=(WC x).bind λds=>(WC y).map λes=>(SD ds es,δ):=rfl
@[simp] theorem uz:WC (.tup ds)=b3 ds:=rfl
@[simp] theorem rV:WC (.lst ds)=b3 ds:=rfl
def qF(r:Option (List cF×Ev))(gg:VG)(g:VS):Option Ou:=r.bind λp=>WI gg g p.1 p.2
@[simp] theorem gF{fi:VI}{gg:VG}:U5 fi gg g δ=qF (fi δ) gg g:=rfl
@[simp] theorem qF_s{gg:VG}:qF (b3 (ds,δ)) gg g=WI gg g ds δ:=rfl
def qK(ix:List Nat)(nl:Nat)(r:Option (List cF×Ev))(gg:VG)(tb:VB)(fe:VF):Option (cF×Ev):=r.bind λp=>(YO ix.length nl gg tb fe p.1 [] (Z1 ix p.2)).map λq=>(.lst q.1,X6 ix q.2 p.2)
def qKb(ix:List Nat)(δ:Ev)(r:Option (List cF×Ev)):Option (cF×Ev):=r.map λq=>(.lst q.1,X6 ix q.2 δ)
@[simp] theorem qN{ix:List Nat}{nl:Nat}{fi:VI}{gg:VG}:ZD ix nl fi gg tb fa δ=qK ix nl (fi δ) gg tb fa:=rfl
@[simp] theorem qK_s{ix:List Nat}{nl:Nat}{gg:VG}:qK ix nl (b3 (ds,δ)) gg tb fa=qKb ix δ (YO ix.length nl gg tb fa ds [] (Z1 ix δ)):=rfl
@[simp] theorem tu{ix:List Nat}:qKb ix δ (b3 (ds,δ1))=b3 (.lst ds,X6 ix δ1 δ):=rfl
variable{as:List AV}{fs:QI}{mF:List Nat}{F:aJ}
noncomputable def qa(r:Option (cF×Ev))(fs:QI):Option (List AV×Ev):=r.bind λp=>(fs p.2).map λq=>(.d p.1::q.1,q.2)
noncomputable def qab(x:AV)(r:Option (List AV×Ev)):Option (List AV×Ev):=r.map λq=>(x::q.1,q.2)
@[simp] theorem gD:bO δ=b3 ([],δ):=rfl
@[simp] theorem EA:aE fa fs δ=qa (fa δ) fs:=rfl
@[simp] theorem qa_s:qa (b3 (x,δ)) fs=qab (.d x) (fs δ):=rfl
@[simp] theorem Vk{a:AV}:qab a (b3 (as,δ))=b3 (a::as,δ):=rfl
def qao(j:Nat)(r:Option cF)(δ:Ev)(fs:QI):Option (List AV×Ev):=r.bind λ_=>qab (.o j) (fs δ)
@[simp] theorem aO_e:aO j fs δ=qao j (slot δ j) δ fs:=rfl
@[simp] theorem lm:qao j (b3 d) δ fs=qab (.o j) (fs δ):=rfl
noncomputable def qsl:Option Sl->Option cF
 |some (.va d)=>b3 d
 |some (.ow d)=>b3 d
 |_=>b4
@[simp] theorem sP:slot δ j=qsl δ[j]? :=by unfold slot qsl;split<;>simp_all
@[simp] theorem pH:qsl (b3 (.va d))=b3 d:=rfl
@[simp] theorem ph:qsl (b3 (.ow d))=b3 d:=rfl
def qaI(r:Option (Bool×Ev))(i j:Nat)(fs:QI):Option (List AV×Ev):=r.bind λp=>if p.1=b8 then aO i fs p.2 else aO j fs p.2
@[simp] theorem tj:aIf tb i j fs δ=qaI (tb δ) i j fs:=rfl
@[simp] theorem pG:qaI (b3 (b8,δ)) i j fs=aO i fs δ:=rfl
@[simp] theorem oP:qaI (b3 (ba,δ)) i j fs=aO j fs δ:=rfl
@[simp] theorem rB:UY δ []=b3 []:=rfl
@[simp] theorem uC:UY δ (.d d::as)=(UY δ as).map λds=>d::ds:=rfl
@[simp] theorem pZ:UY δ (.o j::as)=(slot δ j).bind λd=>(UY δ as).map λds=>d::ds:=rfl
def We(n:Nat)(mF:List Nat)(F:aJ)(r:Option (List AV×Ev)):Option (cF×Ev):=r.bind λp=>(UY p.2 p.1).bind λds=>if ds.length=n/\S9 mF p.1 p.2=b8 then(F ds).bind λq=>if UN mF p.1 q.1 q.2=b8 then b3 (q.1,UH p.1 mF q.2 p.2)else b4 else b4
def qCb(n:Nat)(mF:List Nat)(F:aJ)(as:List AV)(δ:Ev)(r:Option (List cF)):Option (cF×Ev):=r.bind λds=>if ds.length=n/\S9 mF as δ=b8 then(F ds).bind λq=>if UN mF as q.1 q.2=b8 then b3 (q.1,UH as mF q.2 δ)else b4 else b4
def qCc(mF:List Nat)(as:List AV)(δ:Ev)(r:Option (cF×List cF)):Option (cF×Ev):=r.bind λq=>if UN mF as q.1 q.2=b8 then b3 (q.1,UH as mF q.2 δ)else b4
@[simp] theorem L8:bW n mF F fs δ=We n mF F (fs δ):=rfl
@[simp] theorem fR:We n mF F (b3 (as,δ))=qCb n mF F as δ (UY δ as):=rfl
@[simp] theorem mT:qCb n mF F as δ (b3 ds)=if ds.length=n/\S9 mF as δ=b8 then qCc mF as δ (F ds)else b4:=rfl
@[simp] theorem gU{os:List cF}:qCc mF as δ (b3 (d,os))=if UN mF as d os=b8 then b3 (d,UH as mF os δ)else b4:=rfl
@[simp] theorem uK:AT δ as i=(match as[i]? with
 |some (.o j)=>match δ[j]? with
  |some (.ow _)=>b8
  |_=>ba
 |_=>ba):=rfl
@[simp] theorem ud:SI []=[]:=rfl
@[simp] theorem pT:SI (.d d::as)=SI as:=rfl
@[simp] theorem uh:SI (.o j::as)=j::SI as:=rfl
@[simp] theorem pj:S9 mF as δ=(mF.all (AT δ as)&&decide (SI as).Nodup):=rfl
@[simp] theorem sJ:VA mF [] i=b8:=rfl
@[simp] theorem q9:VA mF (.d d::as) i=VA mF as (i+1):=rfl
@[simp] theorem sS:VA mF (.o j::as) i=(decide (i∈mF)&&VA mF as (i+1)):=rfl
@[simp] theorem tZ{os:List cF}:UN mF as d os=((VA mF as 0 || d.hard)&&(VA mF as 0 || os.all RT)&&decide (mF.length=os.length)):=rfl
@[simp] theorem uG{os:List cF}:UH as [] os δ=δ:=by cases os<;>rfl
@[simp] theorem uF{os:List cF}{is:List Nat}:UH as (i::is) (d::os) δ=(match as[i]? with
  |some (.o j)=>UH as is os (δ.set j (.ow d))
  |_=>UH as is os δ):=rfl
noncomputable def qins(r:Option (cF×List cF)):Option (cF×List cF):=r.map λq=>(q.1,q.2.dropLast)
@[simp] theorem tE:insD i F ds=qins (F (ds.take i++ .dct [] []::ds.drop i)):=rfl
@[simp] theorem rR{os:List cF}:qins (b3 (d,os))=b3 (d,os.dropLast):=rfl
@[simp] theorem qC:D1 δ=b3 (b4,δ):=rfl
noncomputable def qpS:Option (cF×Ev)->Option (Option Int×Ev)
 |some (.int i,δ)=>b3 (b3 i,δ)
 |_=>b4
@[simp] theorem pP:F4 fa δ=qpS (fa δ):=by
 unfold F4 qpS;cases fa δ with
 |none=>rfl
 |some p=>
  obtain⟨d,e⟩:=p;cases d<;>rfl
@[simp] theorem q8{i:Int}:qpS (b3 (.int i,δ))=b3 (b3 i,δ):=rfl
def qSl(r:Option (cF×Ev))(a b:VP):Option (cF×Ev):=r.bind λp=>(a p.2).bind λl=>(b l.2).bind λu=>(oSl p.1 l.1 u.1).map λc=>(c,u.2)
def qSlb(x:cF)(r:Option (Option Int×Ev))(a:VP):Option (cF×Ev):=r.bind λl=>(a l.2).bind λu=>(oSl x l.1 u.1).map λc=>(c,u.2)
def qSlc(x:cF)(l:Option Int)(r:Option (Option Int×Ev)):Option (cF×Ev):=r.bind λu=>q0 (oSl x l u.1) u.2
@[simp] theorem sj{a b:VP}:F3 fa a b δ=qSl (fa δ) a b:=rfl
@[simp] theorem qR{a b:VP}:qSl (b3 (x,δ)) a b=qSlb x (a δ) b:=rfl
@[simp] theorem ri{l:Option Int}{a:VP}:qSlb x (b3 (l,δ)) a=qSlc x l (a δ):=rfl
@[simp] theorem r6{l u:Option Int}:qSlc x l (b3 (u,δ))=q0 (oSl x l u) δ:=rfl
@[simp] theorem tQ{l u:Option Int}:oSl (.tup ds) l u=b3 (.tup (UB ds l u)):=rfl
@[simp] theorem t9{l u:Option Int}:oSl (.lst ds) l u=b3 (.lst (UB ds l u)):=rfl
noncomputable def qSt(i j:Nat):Option (cF×Ev)->Option Ou
 |some (.tup (d::ds),δ)=>b3 (.nx ((δ.set i (.va d)).set j (.va (.lst ds))))
 |_=>b4
@[simp] theorem sC:FP i j fa δ=qSt i j (fa δ):=by
 unfold FP qSt;cases fa δ with
 |none=>rfl
 |some p=>
  obtain⟨d,e⟩:=p;cases d with
  |tup ds=>cases ds<;>rfl
  |_=>rfl
@[simp] theorem tU:qSt i j (b3 (.tup (d::ds),δ))=b3 (.nx ((δ.set i (.va d)).set j (.va (.lst ds)))):=rfl
def qDg(i:Nat)(r:Option (List Z8×List cF))(δ:Ev)(fk fx:VF):Option (cF×Ev):=r.bind λ_=>(fk δ).bind λp=>(fx p.2).bind λq=>(V2 p.1).bind λk=>(WB q.2 i).map λz=>((Z2 z.1 z.2 k).getD q.1,q.2)
def qDgb(i:Nat)(r:Option (cF×Ev))(fx:VF):Option (cF×Ev):=r.bind λp=>(fx p.2).bind λq=>(V2 p.1).bind λk=>(WB q.2 i).map λz=>((Z2 z.1 z.2 k).getD q.1,q.2)
def qDgc(i:Nat)(x:cF)(r:Option (cF×Ev)):Option (cF×Ev):=r.bind λq=>(V2 x).bind λk=>(WB q.2 i).map λz=>((Z2 z.1 z.2 k).getD q.1,q.2)
@[simp] theorem oY:GO i fa fb δ=qDg i (WB δ i) δ fa fb:=rfl
@[simp] theorem sV{z:List Z8×List cF}:qDg i (b3 z) δ fa fb=qDgb i (fa δ) fb:=rfl
@[simp] theorem qP:qDgb i (b3 (x,δ)) fb=qDgc i x (fb δ):=rfl
@[simp] theorem rm:qDgc i x (b3 (y,δ))=(V2 x).bind λk=>(WB δ i).map λz=>((Z2 z.1 z.2 k).getD y,δ):=rfl
def qDp(i:Nat)(r:Option (cF×Ev))(fk:VF):Option Ou:=r.bind λp=>(WB p.2 i).bind λ_=>(fk p.2).bind λq=>(V2 q.1).bind λk=>(WB q.2 i).bind λz=>if z.1.length<16777216/\z.1.Nodup then b3 (.nx (q.2.set i (.ow (let r:=W3 z.1 z.2 k p.1;.dct r.1 r.2))))else b4
def qDpb(i:Nat)(x:cF)(r:Option (List Z8×List cF))(δ:Ev)(fk:VF):Option Ou:=r.bind λ_=>(fk δ).bind λq=>(V2 q.1).bind λk=>(WB q.2 i).bind λz=>if z.1.length<16777216/\z.1.Nodup then b3 (.nx (q.2.set i (.ow (let r:=W3 z.1 z.2 k x;.dct r.1 r.2))))else b4
def qDpc(i:Nat)(x:cF)(r:Option (cF×Ev)):Option Ou:=r.bind λq=>(V2 q.1).bind λk=>(WB q.2 i).bind λz=>if z.1.length<16777216/\z.1.Nodup then b3 (.nx (q.2.set i (.ow (.dct (W3 z.1 z.2 k x).1 (W3 z.1 z.2 k x).2))))else b4
@[simp] theorem si{fk a:VF}:FN i fk a δ=qDp i (a δ) fk:=rfl
@[simp] theorem qt{fk:VF}:qDp i (b3 (x,δ)) fk=qDpb i x (WB δ i) δ fk:=rfl
@[simp] theorem qL{z:List Z8×List cF}{fk:VF}:qDpb i x (b3 z) δ fk=qDpc i x (fk δ):=rfl
@[simp] theorem qY:qDpc i x (b3 (y,δ))=(V2 y).bind λk=>(WB δ i).bind λz=>if z.1.length<16777216/\z.1.Nodup then b3 (.nx (δ.set i (.ow (.dct (W3 z.1 z.2 k x).1 (W3 z.1 z.2 k x).2))))else b4:=rfl
@[simp] theorem uN{i:Int}:V2 (.int i)=b3 (.inl i):=rfl
@[simp] theorem tV{s:Ug}:V2 (.str s)=b3 (.inr s):=rfl
def qPc(r:Option (cF×Ev))(a:VF)(fs:D9):Option (List (Z8×cF)×Ev):=r.bind λp=>(V2 p.1).bind λk=>(a p.2).bind λq=>(fs q.2).map λr=>((k,q.1)::r.1,r.2)
noncomputable def qPcb(k:Option Z8)(δ:Ev)(a:VF)(fs:D9):Option (List (Z8×cF)×Ev):=k.bind λk=>(a δ).bind λq=>(fs q.2).map λr=>((k,q.1)::r.1,r.2)
noncomputable def qPcc(k:Z8)(r:Option (cF×Ev))(fs:D9):Option (List (Z8×cF)×Ev):=r.bind λq=>(fs q.2).map λr=>((k,q.1)::r.1,r.2)
noncomputable def qPcd(k:Z8)(x:cF)(r:Option (List (Z8×cF)×Ev)):Option (List (Z8×cF)×Ev):=r.map λr=>((k,x)::r.1,r.2)
@[simp] theorem oT:A7 δ=b3 ([],δ):=rfl
@[simp] theorem tF{fs:D9}:LA fa fb fs δ=qPc (fa δ) fb fs:=rfl
@[simp] theorem tW{fs:D9}:qPc (b3 (x,δ)) fb fs=qPcb (V2 x) δ fb fs:=rfl
@[simp] theorem pX{k:Z8}{fs:D9}:qPcb (b3 k) δ fb fs=qPcc k (fb δ) fs:=rfl
@[simp] theorem sI{k:Z8}{fs:D9}:qPcc k (b3 (x,δ)) fs=qPcd k x (fs δ):=rfl
@[simp] theorem tO{k:Z8}{a:List (Z8×cF)}:qPcd k x (b3 (a,δ))=b3 ((k,x)::a,δ):=rfl
noncomputable def qD(r:Option (List (Z8×cF)×Ev)):Option (cF×Ev):=r.bind λp=>if(p.1.map Ch).Nodup/\p.1.length<=15 then b3 (.dct (p.1.map Ch) (p.1.map Dg),p.2)else b4
@[simp] theorem tM{fs:D9}:EN fs δ=qD (fs δ):=rfl
@[simp] theorem qD_s{a:List (Z8×cF)}:qD (b3 (a,δ))=if(a.map Ch).Nodup/\a.length<=15 then b3 (.dct (a.map Ch) (a.map Dg),δ)else b4:=rfl
def qRun(ml:List Nat):Option Ou->Option (cF×List cF)
 |some (.rt d δ)=>(R0 ml δ).map λos=>(d,os)
 |some (.nx δ)=>(R0 ml δ).map λos=>(.non,os)
 |_=>b4
def bG{ml:List Nat}:Z3 n ml g ds=qRun ml (g (aU ml n ds)):=by
 unfold Z3 qRun;cases g (aU ml n ds)with
 |none=>rfl
 |some o=>cases o<;>rfl
@[simp] theorem sE{ml:List Nat}:qRun ml (b3 (.rt d δ))=(R0 ml δ).map λos=>(d,os):=rfl
@[simp] theorem ut{ml:List Nat}:qRun ml (b3 (.nx δ))=(R0 ml δ).map λos=>(.non,os):=rfl
def qow:Option Sl->Option cF
 |some (.ow d)=>b3 d
 |_=>b4
@[simp] theorem rC:R0 [] δ=b3 []:=rfl
@[simp] theorem tY{ml:List Nat}:R0 (i::ml) δ=(qow δ[i]?).bind λd=>(R0 ml δ).map λos=>d::os:=by
 unfold R0;rw[Sg];cases h:(δ[i]? :Option Sl)with
 |none=>rfl
 | some s => cases s with
  |no=>rfl
  |va d=>rfl
  |ow d=>
   show(Option.bind _ λos=>b3 (d::os))=Ub (λos=>d::os) _;cases (List.mapM _ ml:Option (List cF))<;>rfl
@[simp] theorem uH:qow (b3 (.ow d))=b3 d:=rfl
end
section
variable{i j:Int}{x y:Ug}{ds es:List cF}
@[simp] theorem oI_e{C:Int->Int->Bool}{g:Int->Int->cF}:oI C g (.int i) (.int j)=if C i j=b8 then b3 (g i j)else b4:=rfl
@[simp] theorem tG:Y4 (.int i) (.int j)=b3 (.int (i+j)):=rfl
@[simp] theorem rM:Y4 (.tup ds) (.tup es)=if ds.length+es.length<=16777216 then b3 (.tup (ds++es))else b4:=rfl
@[simp] theorem pS:Y4 (.lst ds) (.lst es)=if ds.length+es.length<=16777216 then b3 (.lst (ds++es))else b4:=rfl
@[simp] theorem tN{g:Int->Int->Int}:o2I g (.int i) (.int j)=b3 (.int (g i j)):=rfl
@[simp] theorem pI:ZG (.tup ds)=b3 (.int ds.length):=rfl
@[simp] theorem ul:ZG (.lst ds)=b3 (.int ds.length):=rfl
@[simp] theorem qX:E8 (.tup ds)=b3 (.lst ds):=rfl
@[simp] theorem oS:E8 (.lst ds)=b3 (.lst ds):=rfl
@[simp] theorem uo:WA (.tup ds)=b3 (.tup ds):=rfl
@[simp] theorem sL:WA (.lst ds)=b3 (.tup ds):=rfl
@[simp] theorem tH:bN (.tup ds) (.int i)=RG ds i:=rfl
@[simp] theorem oZ:bN (.lst ds) (.int i)=RG ds i:=rfl
@[simp] theorem rG{ks:List Z8}:bN (.dct ks ds) (.int i)=Z2 ks ds (.inl i):=rfl
@[simp] theorem qh{ks:List Z8}:bN (.dct ks ds) (.str x)=Z2 ks ds (.inr x):=rfl
@[simp] theorem pC:JB (.int i)=b8:=rfl
@[simp] theorem uc:JB .non=b8:=rfl
@[simp] theorem tq{b:Bool}:JB (.bl b)=b8:=rfl
@[simp] theorem rh:NM "int" "bool"=b3 ba:=by decide+kernel
@[simp] theorem qo:NM "int" "int"=b3 b8:=by decide+kernel
@[simp] theorem uO:NM "tuple" "tuple"=b3 b8:=by decide+kernel
@[simp] theorem qv:NM "str" "str"=b3 b8:=by decide+kernel
@[simp] theorem uu:NM "list" "list"=b3 b8:=by decide+kernel
@[simp] theorem tD{n:String}:US (.int i) (.ty n)=(NM "int" n).map cF.bl:=rfl
@[simp] theorem rY{n:String}:US (.tup ds) (.ty n)=(NM "tuple" n).map cF.bl:=rfl
@[simp] theorem so{n:String}:US (.lst ds) (.ty n)=(NM "list" n).map cF.bl:=rfl
@[simp] theorem qW{n:String}:US (.str x) (.ty n)=(NM "str" n).map cF.bl:=rfl
@[simp] theorem pK:NW .non .non=b3 (.bl b8):=rfl
@[simp] theorem sY:NW (.int i) .non=b3 (.bl ba):=rfl
@[simp] theorem oV:NW (.str x) .non=b3 (.bl ba):=rfl
@[simp] theorem pF:NW (.tup ds) .non=b3 (.bl ba):=rfl
@[simp] theorem uE:SM .non .non=b3 (.bl ba):=rfl
@[simp] theorem pA:SM (.int i) .non=b3 (.bl b8):=rfl
@[simp] theorem tP:SM (.str x) .non=b3 (.bl b8):=rfl
@[simp] theorem uJ:SM (.tup ds) .non=b3 (.bl b8):=rfl
end
section
variable{d x:cF}{δ δ1:Ev}{r acc:List cF}{gg:VG}{tb:VB}{fe:VF}{n nl:Nat}{g:VS}
def qk1(n nl:Nat)(gg:VG)(tb:VB)(fe:VF)(r acc:List cF)(o:Option Ev):Option (List cF×Ev):=o.bind λδ1=>(tb δ1).bind λp=>if p.1=b8 then(fe p.2).bind λq=>if acc.length<16777216 then YO n nl gg tb fe r (acc++[q.1]) (q.2.take n)else b4 else YO n nl gg tb fe r acc (p.2.take n)
def qk2(n nl:Nat)(gg:VG)(tb:VB)(fe:VF)(r acc:List cF)(o:Option (Bool×Ev)):Option (List cF×Ev):=o.bind λp=>if p.1=b8 then(fe p.2).bind λq=>if acc.length<16777216 then YO n nl gg tb fe r (acc++[q.1]) (q.2.take n)else b4 else YO n nl gg tb fe r acc (p.2.take n)
def qk3(n nl:Nat)(gg:VG)(tb:VB)(fe:VF)(r acc:List cF)(o:Option (cF×Ev)):Option (List cF×Ev):=o.bind λq=>if acc.length<16777216 then YO n nl gg tb fe r (acc++[q.1]) (q.2.take n)else b4
@[simp] theorem tz:YO n nl gg tb fe [] acc δ=b3 (acc,δ):=rfl
@[simp] theorem Q1:YO n nl gg tb fe (d::r) acc δ=qk1 n nl gg tb fe r acc (gg d (δ++JA nl)):=rfl
@[simp] theorem JH:qk1 n nl gg tb fe r acc (b3 δ)=qk2 n nl gg tb fe r acc (tb δ):=rfl
@[simp] theorem BC:qk2 n nl gg tb fe r acc (b3 (b8,δ))=qk3 n nl gg tb fe r acc (fe δ):=rfl
@[simp] theorem Yq:qk2 n nl gg tb fe r acc (b3 (ba,δ))=YO n nl gg tb fe r acc (δ.take n):=rfl
@[simp] theorem BD:qk3 n nl gg tb fe r acc (b3 (x,δ))=if acc.length<16777216 then YO n nl gg tb fe r (acc++[x]) (δ.take n)else b4:=rfl
def qf1(gg:VG)(g:VS)(r:List cF)(o:Option Ev):Option Ou:=o.bind λδ1=>(g δ1).bind (again (WI gg g r))
def qf2(gg:VG)(g:VS)(r:List cF)(o:Option Ou):Option Ou:=o.bind (again (WI gg g r))
@[simp] theorem oU:WI gg g [] δ=b3 (.nx δ):=rfl
@[simp] theorem TH:WI gg g (d::r) δ=qf1 gg g r (gg d δ):=rfl
@[simp] theorem PB:qf1 gg g r (b3 δ)=qf2 gg g r (g δ):=rfl
@[simp] theorem PC:qf2 gg g r (b3 (.nx δ))=WI gg g r δ:=rfl
@[simp] theorem rX:qf2 gg g r (b3 (.ct δ))=WI gg g r δ:=rfl
@[simp] theorem oQ:qf2 gg g r (b3 (.bk δ))=b3 (.nx δ):=rfl
@[simp] theorem pD:qf2 gg g r (b3 (.rt d δ))=b3 (.rt d δ):=rfl
@[simp] theorem pE{ss:Ev}:X6 [] ss δ=δ:=by cases ss<;>rfl
@[simp] theorem tJ{i:Nat}{is:List Nat}{ss:Ev}:X6 (i::is) (.ow d::ss) δ=X6 is ss (δ.set i (.ow d)):=rfl
@[simp] theorem rT{i:Nat}{is:List Nat}{ss:Ev}:X6 (i::is) (.va d::ss) δ=X6 is ss δ:=rfl
@[simp] theorem qq{i:Nat}{is:List Nat}{ss:Ev}:X6 (i::is) (.no::ss) δ=X6 is ss δ:=rfl
end
@[simp] theorem AU:JA 1=[.no]:=rfl
@[simp] theorem Xa:JA 2=[.no,.no]:=rfl
@[simp] theorem tK:JA 3=[.no,.no,.no]:=rfl
@[simp] theorem rK{i:Int}:YW i 0=[]:=rfl
@[simp] theorem u9:YW 0 1=[.int 0]:=rfl
@[simp] theorem tI:YW 0 2=[.int 0,.int 1]:=rfl
@[simp] theorem qE:YW 0 3=[.int 0,.int 1,.int 2]:=rfl
@[simp] theorem qf:YW 0 4=[.int 0,.int 1,.int 2,.int 3]:=rfl
def SZ{α:Type}{xs:List α}{i:Int}(a:0<=i)(h1:i<xs.length):RG xs i=xs[i.toNat]? :=by unfold RG ixN;rw[if_pos a,if_pos h1];rfl
def CC{α:Type}{xs:List α}{i:Int}(a:0<=i)(h1:i<xs.length):∃x∈xs,RG xs i=b3 x:=by
 rw[SZ a h1];have h:i.toNat<xs.length:=by lia
 exact⟨xs[i.toNat],Ma _,Dr h⟩
section
variable{F:aJ}{fa fb fc:VF}{δ:Ev}{x y z d o:cF}{j:Nat}
noncomputable def BB(δ:Ev):Option (cF×List cF)->Option (cF×Ev)
 |some (d,[])=>b3 (d,δ)
 |_=>b4
@[simp] theorem ub:BB δ (b3 (d,[]))=b3 (d,δ):=rfl
def CF{n:Nat}{ds:List cF}{as:List AV}(h:UY δ as=b3 ds)(a:ds.length=n)(b:SI as=[])(c:VA [] as 0=b8):qCb n [] F as δ (b3 ds)=BB δ (F ds):=by
 have hc:S9 [] as δ=b8:=by simp[b]
 rw[mT,if_pos ⟨a,hc⟩];cases F ds with
 |none=>rfl
 |some q=>
  obtain⟨r,os⟩:=q;rw[gU];cases os with
  |nil=>simp[c,BB]
  |cons o os=>simp[BB]
def qx1(F:aJ)(r:Option (cF×Ev)):Option (cF×Ev):=r.bind λp=>BB p.2 (F [p.1])
@[simp] theorem qH:qx1 F (b3 (x,δ))=BB δ (F [x]):=rfl
@[simp high] theorem call1:bW 1 [] F (aE fa bO) δ=qx1 F (fa δ):=by
 rw[L8,EA];cases fa δ with
 |none=>rfl
 |some p=>exact CF (as:=[.d p.1]) rfl rfl rfl rfl
def qx2(F:aJ)(r:Option (cF×Ev))(fb:VF):Option (cF×Ev):=r.bind λp=>(fb p.2).bind λq=>BB q.2 (F [p.1,q.1])
def qx2b(F:aJ)(x:cF)(r:Option (cF×Ev)):Option (cF×Ev):=r.bind λq=>BB q.2 (F [x,q.1])
@[simp] theorem cZ:qx2 F (b3 (x,δ)) fb=qx2b F x (fb δ):=rfl
@[simp] theorem qr:qx2b F x (b3 (y,δ))=BB δ (F [x,y]):=rfl
@[simp high] theorem call2:bW 2 [] F (aE fa (aE fb bO)) δ=qx2 F (fa δ) fb:=by
 rw[L8,EA];cases fa δ with
 |none=>rfl
 |some p=>
  rw[qa_s,EA,cZ];cases fb p.2 with
  |none=>rfl
  |some q=>exact CF (as:=[.d p.1,.d q.1]) rfl rfl rfl rfl
def qx3(F:aJ)(r:Option (cF×Ev))(fb fc:VF):Option (cF×Ev):=r.bind λp=>(fb p.2).bind λq=>(fc q.2).bind λs=>BB s.2 (F [p.1,q.1,s.1])
def qx3b(F:aJ)(x:cF)(r:Option (cF×Ev))(fc:VF):Option (cF×Ev):=r.bind λq=>(fc q.2).bind λs=>BB s.2 (F [x,q.1,s.1])
def qx3c(F:aJ)(x y:cF)(r:Option (cF×Ev)):Option (cF×Ev):=r.bind λs=>BB s.2 (F [x,y,s.1])
@[simp] theorem Ze:qx3 F (b3 (x,δ)) fb fc=qx3b F x (fb δ) fc:=rfl
@[simp] theorem dI:qx3b F x (b3 (y,δ)) fc=qx3c F x y (fc δ):=rfl
@[simp] theorem ro:qx3c F x y (b3 (z,δ))=BB δ (F [x,y,z]):=rfl
@[simp high] theorem call3:bW 3 [] F (aE fa (aE fb (aE fc bO))) δ=qx3 F (fa δ) fb fc:=by
 rw[L8,EA];cases fa δ with
 |none=>rfl
 |some p=>
  rw[qa_s,EA,Ze];cases fb p.2 with
  |none=>rfl
  |some q=>
   rw[qa_s,EA,dI];cases fc q.2 with
   |none=>rfl
   |some s=>exact CF (as:=[.d p.1,.d q.1,.d s.1]) rfl rfl rfl rfl
noncomputable def qw3(j:Nat)(δ:Ev):Option (cF×List cF)->Option (cF×Ev)
 |some (r,[o])=>b3 (r,δ.set j (.ow o))
 |_=>b4
def qw2(F:aJ)(j:Nat)(x y:cF)(δ:Ev):Option Sl->Option (cF×Ev)
 |some (.ow d)=>qw3 j δ (F [x,d,y])
 |_=>b4
def qwb(F:aJ)(j:Nat)(x:cF)(r:Option (cF×Ev)):Option (cF×Ev):=r.bind λq=>qw2 F j x q.1 q.2 q.2[j]?
def qwa(F:aJ)(j:Nat)(x:cF)(δ:Ev)(fb:VF)(s:Option cF):Option (cF×Ev):=s.bind λ_=>qwb F j x (fb δ)
def qw(F:aJ)(j:Nat)(r:Option (cF×Ev))(fb:VF):Option (cF×Ev):=r.bind λp=>qwa F j p.1 p.2 fb (slot p.2 j)
@[simp] theorem sg:qw3 j δ (b3 (x,[o]))=b3 (x,δ.set j (.ow o)):=rfl
@[simp] theorem uB:qw2 F j x y δ (b3 (.ow d))=qw3 j δ (F [x,d,y]):=rfl
@[simp] theorem hU:qwb F j x (b3 (y,δ))=qw2 F j x y δ δ[j]? :=rfl
@[simp] theorem kQ:qwa F j x δ fb (b3 d)=qwb F j x (fb δ):=rfl
@[simp] theorem qw_s:qw F j (b3 (x,δ)) fb=qwa F j x δ fb (slot δ j):=rfl
@[simp high] theorem callO:bW 3 [1] F (aE fa (aO j (aE fb bO))) δ=qw F j (fa δ) fb:=by
 rw[L8,EA];cases fa δ with
 |none=>rfl
 |some p=>
  obtain⟨x,δ1⟩:=p;rw[qa_s,aO_e,qw_s];cases h:slot δ1 j with
  |none=>rfl
  |some b=>
   rw[lm,EA,kQ];cases fb δ1 with
   |none=>rfl
   |some q=>
    obtain⟨y,δ2⟩:=q;rw[hU,qa_s,gD,Vk,Vk,Vk,fR];cases h2:δ2[j]? with
    |none=>simp[h2,qsl,qCb,qw2]
    |some s=>
     cases s with
     |no=>simp[h2,qsl,qCb,qw2]
     |va d=>simp[h2,qw2]
     |ow d=>
      simp[h2];cases F [x,d,y]with
      |none=>rfl
      |some r=>
       obtain⟨v,os⟩:=r;cases os with
       |nil=>simp[qw3]
       |cons o os=>
        cases os with
        |nil=>simp
        |cons a os=>simp[qw3]
end
def WG:cF:=.int 999
def Yx:cF:=.tup [.str "plus",.str "minus",.str "times",.str "least",.str "most",.str "less",.str "over"]
def UZ:cF:=.int 64
def MT:cF:=.int 40
def OK:cF:=.int 63
def GB:cF:=.tup [.str "row",.str "row"]
def QK:cF:=.dct [.inr "number",.inr "pick",.inr "load",.inr "take",.inr "store",.inr "put"] [.tup [.str "word"],.tup [.str "row",.str "row",.str "row"],.tup [.str "place"],.tup [.str "place",.str "row",.str "row"],.tup [.str "place",.str "row"],.tup [.str "place",.str "row",.str "row"]]
def QZ:cF:=.tup [.str "store",.str "put"]
def QJ:cF:=.int 2
def OJ:cF:=.int 4
def V4:cF:=.int 400
noncomputable abbrev LW:List Ug:=["NoBlock","NoProgram","NoRow"]
noncomputable abbrev SA:List Ug:=["NoBlock","NoCells","NoRow","NoLanes","NoPlan","NoProgram","NoTree","NoLoop","NoText","NoName","TooMany","TooLong","NotValid","Nothing"]
def P0:VS:=
   (bR (YQ (MS (fB (f2 US (fV 0) (fC (.ty "bool")))) (YE (fB (f2 US (fV 0) (fC (.ty "int"))))))
   (bE (fC (.bl ba)))
   aI)
   (bE (f3 oLe oLe (fV 1) (fV 0) (fV 2))))
def a9:aJ:=Z3 3 [] P0
def KY:VS:=
   (bR (YQ (fB (f2 (ZF ba) (fV 0) (fC Yx)))
   (bE (fC GB))
   aI)
   (bE (f2 Xu (fC QK) (fV 0))))
def YH:aJ:=Z3 1 [] KY
def TM:VS:=
   (bE (f2 (ZF b8) (f2 bN (fV 0) (fC (.int 0))) (fC QZ)))
def X0:aJ:=Z3 1 [] TM
def KZ:VS:=
   (λ_=>b4)
def KC:aJ:=Z3 1 [] KZ
def P7:VS:=
   (bE (UD (bW 3 [] a9 (aE (fV 0) (aE (fC (.int 0)) (aE (f2 RY (f1 ZG (fV 1)) (fC (.int 1))) bO)))) (f2 bN (fV 1) (fV 0))))
def YG:aJ:=Z3 2 [] P7
def KS:VS:=
   (bR (YQ (fB (f2 YL (fV 0) (fC (.str "word"))))
   (bE (bW 3 [] a9 (aE (fV 1) (aE (fC (.int 0)) (aE (fC WG) bO)))))
   aI)
   (bR (YQ (fB (f2 YL (fV 0) (fC (.str "place"))))
   (bE (bW 3 [] a9 (aE (fV 1) (aE (fC (.int 0)) (aE (fC OK) bO)))))
   aI)
   (bE (bW 2 [] YG (aE (fV 1) (aE (fV 2) bO))))))
def RF:aJ:=Z3 3 [] KS
def KW:VS:=
   (bR (YQ (MS (YE (fB (f2 US (fV 0) (fC (.ty "tuple"))))) (fB (f2 YL (f1 ZG (fV 0)) (fC (.int 0)))))
   (bE (fC (.bl ba)))
   aI)
   (bR (FP 2 3 (fV 0))
   (bR (ZZ 4 (xV (GQ (fB (f2 US (fV 2) (fC (.ty "str")))) (bW 1 [] YH (aE (fV 2) bO)) (fC .non))))
   (bR (YQ (MS (fB (f2 NW (fV 4) (fC .non))) (fB (f2 UT (f1 ZG (fV 4)) (f1 ZG (fV 3)))))
   (bE (fC (.bl ba)))
   aI)
   (bE (f1 C3 (ZD [1] 2 (iZip (fV 4) (fV 3)) (PN 2 (bH (gN 1) (bH (gN 2) YY))) V7 (bW 3 [] RF (aE (fV 1) (aE (fV 2) (aE (fV 0) bO)))))))))))
def T5:aJ:=Z3 5 [] KW
def W0:VS:=
   (bR (YQ (YE (fB (bW 2 [] T5 (aE (fV 4) (aO 3 bO)))))
   (bE (fC (.bl ba)))
   aI)
   (XW 3 WX (cD (bW 1 [] X0 (aE (fV 4) bO)) bP)))
def PY:VS:=
   (bR (YQ (MS (YE (fB (f2 US (fV 0) (fC (.ty "tuple"))))) (fB (f2 UT (f1 ZG (fV 0)) (fC (.int 2)))))
   (bE (fC (.bl ba)))
   aI)
   (bR (MO (fV 0) (PN 2 (bH (gN 1) (bH (gN 2) YY))))
   (bR (YQ (YE (fB (bW 3 [] a9 (aE (fV 1) (aE (fC (.int 0)) (aE (fC UZ) bO))))))
   (bE (fC (.bl ba)))
   aI)
   (bR (YQ (MS (YE (fB (f2 US (fV 2) (fC (.ty "tuple"))))) (fB (f2 oGt (f1 ZG (fV 2)) (fC MT))))
   (bE (fC (.bl ba)))
   aI)
   (bR (ZZ 3 (xO (Z7 bP)))
   (bR (U5 (W7 (fV 2)) (gN 4)
   W0)
   (bE (fC (.bl b8)))))))))
def X4:aJ:=Z3 5 [] PY
def M0:VS:=
   (λ_=>b4)
def MR:aJ:=Z3 6 [] M0
def OP:VS:=
   (bR (ZZ 1 (xV (f1 ZG (f2 bN (fV 0) (fC (.int 1))))))
   (bR (ZZ 2 (xV (fComp0 (iR1 (fV 1)))))
   (bE (ZD [0] 2 (W7 (fV 2)) (PN 2 (bH (gN 1) (bH (gN 2) YY))) (fB (bW 3 [] MR (aE (fV 0) (aE (fV 1) (aE (fV 2) bO))))) (aH (cD (fV 1) (cD (fV 2) bP)))))))
def N7:aJ:=Z3 3 [] OP
def PZ:VS:=
   (bE (bW 3 [] a9 (aE (fV 0) (aE (fC QJ) (aE (fC OJ) bO)))))
def SV:aJ:=Z3 1 [] PZ
def VE:VS:=
   (bE (UD (f2 US (fV 0) (fC (.ty "tuple"))) (f2 YL (f1 ZG (fV 0)) (fV 1))))
def YM:aJ:=Z3 2 [] VE
def Q4:VS:=
   (bR (YQ (QT (fB (f2 YL (f1 ZG (fV 0)) (fC (.int 2)))) (QT (fB (f2 US (f2 bN (fV 0) (fC (.int 0))) (fC (.ty "str")))) (fB (f2 YL (f2 bN (fV 0) (fC (.int 0))) (fC (.str "number"))))))
   (bE (UD (bW 2 [] YM (aE (f2 bN (fV 0) (fC (.int 1))) (aE (fV 1) bO))) (f1 C3 (ZD [] 1 (W7 (f2 bN (fV 0) (fC (.int 1)))) (gN 0) V7 (bW 3 [] a9 (aE (fV 0) (aE (fC (.int 0)) (aE (fC WG) bO))))))))
   aI)
   (bE (bW 2 [] T5 (aE (fV 0) (aE (fV 2) bO)))))
def VN:aJ:=Z3 3 [] Q4
def RL:VS:=
   (bR (YQ (MS (fB (f2 UT (f1 ZG (fV 0)) (fC (.int 1)))) (YE (fB (bW 2 [] YM (aE (f2 bN (fV 0) (fC (.int 0))) (aE (fV 1) bO))))))
   (bE (fC (.bl ba)))
   aI)
   (bE (f1 C3 (ZD [2] 1 (W7 (f2 bN (fV 0) (fC (.int 0)))) (gN 1) V7 (bW 2 [] YG (aE (fV 1) (aE (fV 0) bO)))))))
def UV:aJ:=Z3 3 [] RL
def TK:VS:=
   (bR (YQ (MS (fB (f2 UT (f1 ZG (fV 0)) (fC (.int 3)))) (MS (YE (fB (bW 2 [] YG (aE (f2 bN (fV 0) (fC (.int 0))) (aE (fV 2) bO))))) (YE (fB (bW 2 [] YG (aE (f2 bN (fV 0) (fC (.int 1))) (aE (fV 2) bO)))))))
   (bE (fC (.bl ba)))
   aI)
   (bE (UD (bW 2 [] YM (aE (f2 bN (fV 0) (fC (.int 2))) (aE (fV 1) bO))) (f1 C3 (ZD [1] 1 (W7 (f2 bN (fV 0) (fC (.int 2)))) (gN 1) V7 (bW 3 [] a9 (aE (fV 1) (aE (fC (.int 0)) (aE (f2 RY (f2 TU (fC (.int 2)) (fV 0)) (fC (.int 1))) bO)))))))))
def VT:aJ:=Z3 3 [] TK
def NI:VS:=
   (bE (UD (f2 YL (f1 ZG (fV 0)) (fC (.int 2))) (UD (bW 2 [] YG (aE (f2 bN (fV 0) (fC (.int 0))) (aE (fV 2) bO))) (bW 3 [] a9 (aE (f2 bN (fV 0) (fC (.int 1))) (aE (fC (.int 0)) (aE (f2 RY (fV 1) (fC (.int 1))) bO)))))))
def QW:aJ:=Z3 3 [] NI
def WO:VS:=
   (bR (YQ (MS (YE (fB (f2 US (fV 0) (fC (.ty "tuple"))))) (MS (fB (f2 YL (f1 ZG (fV 0)) (fC (.int 0)))) (YE (fB (f2 US (f2 bN (fV 0) (fC (.int 0))) (fC (.ty "str")))))))
   (bE (fC (.bl ba)))
   aI)
   (bR (U2 4 5 (xV (f2 bN (fV 0) (fC (.int 0)))) (xV (F3 (fV 0) (F4 (fC (.int 1))) D1)))
   (bR (YQ (fB (f2 YL (fV 4) (fC (.str "wide"))))
   (bE (bW 3 [] VN (aE (fV 5) (aE (fV 1) (aE (fV 3) bO)))))
   aI)
   (bR (YQ (fB (f2 YL (fV 4) (fC (.str "gather"))))
   (bE (bW 3 [] UV (aE (fV 5) (aE (fV 1) (aE (fV 2) bO)))))
   aI)
   (bR (YQ (fB (f2 YL (fV 4) (fC (.str "shuffle"))))
   (bE (bW 3 [] VT (aE (fV 5) (aE (fV 1) (aE (fV 3) bO)))))
   aI)
   (bR (YQ (fB (f2 YL (fV 4) (fC (.str "lane"))))
   (bE (bW 3 [] QW (aE (fV 5) (aE (fV 1) (aE (fV 3) bO)))))
   aI)
   (bE (bW 2 [] T5 (aE (fV 0) (aE (fV 2) bO))))))))))
def XY:aJ:=Z3 6 [] WO
def MX:VS:=
   (bR (YQ (fB (f2 YL (f2 bN (fV 0) (fC (.int 0))) (fC (.str "wide"))))
   (bE (GQ (fB (bW 1 [] X0 (aE (F3 (fV 0) (F4 (fC (.int 1))) D1) bO))) (fC (.str "pack")) (fC .non)))
   aI)
   (bR (YQ (fB (f2 (ZF ba) (f2 bN (fV 0) (fC (.int 0))) (aH (cD (fC (.str "gather")) (cD (fC (.str "shuffle")) bP)))))
   (bE (fC (.str "pack")))
   aI)
   (bE (GQ (fB (bW 1 [] X0 (aE (fV 0) bO))) (fC (.str "word")) (fC .non)))))
def X5:aJ:=Z3 1 [] MX
def ZK:VS:=
   (bR (YQ (YE (fB (bW 4 [] XY (aE (fV 4) (aE (fV 1) (aO 2 (aO 3 bO)))))))
   (bE (fC (.bl ba)))
   aI)
   (bR (ZZ 5 (xV (bW 1 [] X5 (aE (fV 4) bO))))
   (bR (XW 2 WX (cD (f2 YL (fV 5) (fC (.str "word"))) bP))
   (XW 3 WX (cD (f2 YL (fV 5) (fC (.str "pack"))) bP)))))
def XJ:VS:=
   (bR (U2 2 3 (xO (Z7 bP)) (xO (Z7 bP)))
   (bR (U5 (W7 (fV 0)) (gN 4)
   ZK)
   (bE (fC (.bl b8)))))
def YF:aJ:=Z3 6 [] XJ
def TJ:VS:=
   (bR (YQ (MS (YE (fB (f2 US (fV 0) (fC (.ty "tuple"))))) (fB (f2 UT (f1 ZG (fV 0)) (fC (.int 3)))))
   (bE (fC (.bl ba)))
   aI)
   (bR (MO (fV 0) (PN 3 (bH (gN 1) (bH (gN 2) (bH (gN 3) YY)))))
   (bR (YQ (MS (YE (fB (bW 1 [] SV (aE (fV 1) bO)))) (YE (fB (bW 3 [] a9 (aE (fV 2) (aE (fC (.int 0)) (aE (fC UZ) bO)))))))
   (bE (fC (.bl ba)))
   aI)
   (bR (YQ (MS (YE (fB (f2 US (fV 3) (fC (.ty "tuple"))))) (fB (f2 oGt (f1 ZG (fV 3)) (fC V4))))
   (bE (fC (.bl ba)))
   aI)
   (bE (bW 2 [] YF (aE (fV 3) (aE (fV 1) bO))))))))
def aT:aJ:=Z3 4 [] TJ
def WN:VS:=
   (bR (MO (fV 0) (PN 3 (bH (gN 3) (bH (gN 4) (bH (gN 5) YY)))))
   (bR (YQ (YE (fB (bW 3 [] a9 (aE (fV 1) (aE (fC (.int 0)) (aE (f2 RY (f1 ZG (fV 5)) (fC (.int 1))) bO))))))
   (bE (fC (.bl ba)))
   aI)
   (bR (ZZ 6 (xV (bW 1 [] X5 (aE (f2 bN (fV 5) (fV 1)) bO))))
   (bR (YQ (fB (f2 YL (fV 6) (fC (.str "pack"))))
   (bE (bW 3 [] a9 (aE (fV 2) (aE (fC (.int 0)) (aE (f2 RY (fV 3) (fC (.int 1))) bO)))))
   aI)
   (bE (UD (f2 YL (fV 6) (fC (.str "word"))) (f2 NW (fV 2) (fC .non))))))))
def aA:aJ:=Z3 7 [] WN
def OQ:VS:=
   (bR (YQ (fB (f2 YL (f2 bN (fV 0) (fC (.int 0))) (fC (.str "lane"))))
   (bE (aH (cD (f2 bN (fV 0) (fC (.int 1))) (cD (f2 bN (fV 0) (fC (.int 2))) bP))))
   aI)
   (bR (YQ (fB (f2 YL (f2 bN (fV 0) (fC (.int 0))) (fC (.str "gather"))))
   (bE (aH (cD (f2 bN (f2 bN (fV 0) (fC (.int 1))) (fV 1)) (cD (fC .non) bP))))
   aI)
   (bR (YQ (fB (f2 YL (f2 bN (fV 0) (fC (.int 0))) (fC (.str "shuffle"))))
   (bR (ZZ 3 (xV (f2 bN (f2 bN (fV 0) (fC (.int 3))) (fV 1))))
   (bE (GQ (fB (f2 oLt (fV 3) (fV 2))) (aH (cD (f2 bN (fV 0) (fC (.int 1))) (cD (fV 3) bP))) (aH (cD (f2 bN (fV 0) (fC (.int 2))) (cD (f2 RY (fV 3) (fV 2)) bP))))))
   aI)
   (bE (fC .non)))))
def SY:aJ:=Z3 4 [] OQ
def NC:VS:=
   (bR (MO (fV 6) (PN 2 (bH (gN 1) (bH (gN 2) YY))))
   (ZZ 6 (xV (bW 3 [] SY (aE (f2 bN (fV 5) (fV 1)) (aE (fV 2) (aE (fV 3) bO)))))))
def GU:VS:=
   (bR (MO (fV 0) (PN 3 (bH (gN 3) (bH (gN 4) (bH (gN 5) YY)))))
   (bR (ZZ 6 (xV (aH (cD (fV 1) (cD (fV 2) bP)))))
   (bR (T2 (fB (f2 SM (fV 6) (fC .non)))
   NC)
   (bR (YQ (fB (f2 YL (f2 bN (f2 bN (fV 5) (fV 1)) (fC (.int 0))) (fC (.str "number"))))
   (bE (aH (cD (fC (.str "number")) (cD (f2 bN (f2 bN (fV 5) (fV 1)) (fC (.int 1))) bP))))
   aI)
   (λ_=>b4)))))
def N8:aJ:=Z3 7 [] GU
def RO:VS:=
   (bR (YQ (YE (fB (bW 1 [] aT (aE (fV 0) bO))))
   (λ_=>b4)
   aI)
   (bR (YQ (YE (fB (bW 3 [] aA (aE (fV 0) (aE (fV 1) (aE (fV 2) bO))))))
   (λ_=>b4)
   aI)
   (bE (bW 3 [] N8 (aE (fV 0) (aE (fV 1) (aE (fV 2) bO)))))))
def WY:aJ:=Z3 3 [] RO
def PM:VZ:=
   (F0 (DY (YE (fB (bW 1 [] aT (aE (fV 0) bO)))) (λδ=>b3 (("NoProgram",b4),δ)) zNo)
   (DZ (YQ (YE (fB (bW 1 [] aT (aE (fV 0) bO))))
   (λ_=>b4)
   aI)
   (DY (YE (fB (bW 3 [] aA (aE (fV 0) (aE (fV 1) (aE (fV 2) bO)))))) (MF "NoRow" "row" (aE (fV 1) bO)) zNo)))
def U9:List cF->Option Xw:=FM 3 PM
def KU:VS:=
   (bR (MO (fV 0) (PN 3 (bH (gN 2) (bH (gN 3) (bH (gN 4) YY)))))
   (bR (YQ (MS (YE (fB (f2 US (fV 1) (fC (.ty "tuple"))))) (fB (f2 UT (f1 ZG (fV 1)) (fC (.int 2)))))
   (bE (fC (.bl ba)))
   aI)
   (bR (MO (fV 1) (PN 2 (bH (gN 5) (bH (gN 6) YY))))
   (bR (YQ (YE (fB (bW 3 [] a9 (aE (fV 5) (aE (fC (.int 0)) (aE (f2 RY (f1 ZG (fV 4)) (fC (.int 1))) bO))))))
   (bE (fC (.bl ba)))
   aI)
   (bE (GQ (fB (f2 YL (f2 bN (f2 bN (fV 4) (fV 5)) (fC (.int 0))) (fC (.str "wide")))) (bW 3 [] a9 (aE (fV 6) (aE (fC (.int 0)) (aE (f2 RY (fV 2) (fC (.int 1))) bO)))) (f2 NW (fV 6) (fC .non))))))))
def PP:aJ:=Z3 7 [] KU
def V8:VS:=
   (bR (ZZ 5 (xV (GQ (fB (f2 YL (f2 bN (fV 3) (fC (.int 0))) (fC (.str "number")))) (f2 NW (fV 4) (fC .non)) (bW 2 [] PP (aE (fV 1) (aE (fV 4) bO))))))
   (YQ (YE (fB (fV 5)))
   (bE (fC (.bl ba)))
   aI))
def UO:VS:=
   (bR (YQ (MS (YE (fB (f2 US (fV 2) (fC (.ty "list"))))) (fB (f2 UT (f1 ZG (fV 2)) (f1 ZG (f2 bN (fV 0) (fC (.int 1)))))))
   (bE (fC (.bl ba)))
   aI)
   (bR (U5 (iZip (f2 bN (fV 0) (fC (.int 1))) (fV 2)) (PN 2 (bH (gN 3) (bH (gN 4) YY)))
   V8)
   (bR (ZZ 6 (xV (ZD [] 1 (W7 (fV 2)) (gN 0) (fB (f2 SM (fV 0) (fC .non))) (fV 0))))
   (bE (f2 YL (f1 A0 (fV 6)) (f1 ZG (fV 6)))))))
def YZ:aJ:=Z3 7 [] UO
def KR:VS:=
   (λ_=>b4)
def KB:aJ:=Z3 1 [] KR
def MV:VS:=
   (λ_=>b4)
def MP:aJ:=Z3 10 [] MV
def om:VS:=
   (bR (ZZ 7 (xV (bW 1 [] KB (aE (fV 6) bO))))
   (YQ (MS (fB (f2 YL (f2 bN (fV 7) (fC (.int 0))) (fC (.str "over")))) (fB (f2 SM (bW 1 [] KC (aE (fV 7) bO)) (fC .non))))
   (bR (ZZ 8 (xV (GQ (fB (f2 YL (f2 bN (fV 6) (fC (.int 0))) (fC (.str "wide")))) (TD (fV 1)) (Z7 (cD (fC .non) bP)))))
   (XW 4 mExt (cD (ZD [5] 1 (W7 (fV 8)) (gN 1) V7 (aH (cD (fV 0) (cD (fV 1) bP)))) bP)))
   aI))
def AG:VS:=
   (bR (MO (fV 0) (PN 3 (bH (gN 1) (bH (gN 2) (bH (gN 3) YY)))))
   (bR (ZZ 4 (xO (Z7 bP)))
   (bR (U5 (RQ (fV 3)) (PN 2 (bH (gN 5) (bH (gN 6) YY)))
   om)
   (bE (fO 4)))))
def Wi:aJ:=Z3 9 [] AG
def MW:VS:=
   (λ_=>b4)
def MQ:aJ:=Z3 2 [] MW
def MI:VS:=
   (YQ (QT (fB (f2 SM (f2 bN (fV 1) (fV 2)) (fC .non))) (YE (fB (bW 2 [] MQ (aE (f2 bN (fV 1) (fV 2)) (aE (f2 bN (fV 1) (fV 3)) bO))))))
   (bE (fC (.bl ba)))
   aI)
def QM:VS:=
   (bR (U5 (W7 (bW 1 [] N7 (aE (fV 0) bO))) (PN 2 (bH (gN 2) (bH (gN 3) YY)))
   MI)
   (bE (fC (.bl b8))))
def QH:aJ:=Z3 4 [] QM
def MA:VS:=
   (bR (YQ (YE (fB (bW 1 [] X4 (aE (fV 0) bO))))
   (λ_=>b4)
   aI)
   (bR (YQ (YE (fB (bW 1 [] aT (aE (fV 1) bO))))
   (λ_=>b4)
   aI)
   (bR (YQ (MS (fB (f2 UT (f2 bN (fV 0) (fC (.int 0))) (f2 bN (fV 1) (fC (.int 1))))) (YE (fB (bW 3 [] YZ (aE (fV 0) (aE (fV 1) (aE (fV 2) bO)))))))
   (bE (fC (.bl ba)))
   aI)
   (bR (ZZ 3 (xV (ZD [] 2 (RQ (fV 2)) (PN 2 (bH (gN 0) (bH (gN 1) YY))) (fB (f2 SM (fV 1) (fC .non))) (fV 0))))
   (bR (YQ (YE (fB (f1 C3 (ZD [0,1,2] 1 (W7 (fV 3)) (gN 3) V7 (bW 4 [] MP (aE (fV 0) (aE (fV 1) (aE (fV 2) (aE (fV 3) bO)))))))))
   (bE (fC (.bl ba)))
   aI)
   (bE (UD (f1 C3 (ZD [2] 1 (W7 (bW 1 [] Wi (aE (fV 1) bO))) (gN 1) V7 (f2 (ZF ba) (fV 1) (fV 0)))) (bW 2 [] QH (aE (fV 0) (aE (fV 2) bO))))))))))
def QX:aJ:=Z3 4 [] MA
def HN:VZ:=
   (F0 (DY (YE (fB (bW 1 [] X4 (aE (fV 0) bO)))) (λδ=>b3 (("NoBlock",b4),δ)) zNo)
   (DZ (YQ (YE (fB (bW 1 [] X4 (aE (fV 0) bO))))
   (λ_=>b4)
   aI)
   (DY (YE (fB (bW 1 [] aT (aE (fV 1) bO)))) (λδ=>b3 (("NoProgram",b4),δ)) zNo)))
def OC:List cF->Option Xw:=FM 4 HN
def SJ:VS:=
   (ZZ 2 (xV (f2 AX (fV 2) (fC (.int 1000003)))))
def UP:VS:=
   (bR (YQ (fB (f2 oLt (fV 1) (f1 ZG (fV 0))))
   (bE (f2 bN (fV 0) (fV 1)))
   aI)
   (bR (YQ (fB (f2 YL (fV 0) (Z7 bP)))
   (bE (fC (.int 0)))
   aI)
   (bR (ZZ 2 (xV (f2 bN (fV 0) (f2 G6 (fV 1) (f1 ZG (fV 0))))))
   (bR (U5 (iR1 (f2 oMin (f2 AX (fV 1) (f1 ZG (fV 0))) (fC (.int 60)))) (gN 3)
   SJ)
   (bE (f2 Y4 (f2 Y4 (f2 TU (f2 bN (fV 0) (f2 G6 (fV 1) (f1 ZG (fV 0)))) (fC (.int 31))) (fV 1)) (f2 TU (fV 2) (fC (.int 101)))))))))
def YD:aJ:=Z3 4 [] UP
def RM:VS:=
   (bR (ZZ 3 (xV (f2 G6 (f2 Y4 (f2 Y4 (f2 TU (bW 2 [] YD (aE (fV 0) (aE (fV 1) bO))) (fC (.int 1103515245))) (f2 TU (fC (.int 7919)) (fV 1))) (fC (.int 12345))) (fC (.int 2147483647)))))
   (bE (f2 G6 (f2 G6 (f2 G6 (f2 oPow (fV 3) (fC (.int 5))) (fC (.int 2147483647))) (fC (.int 999983))) (fV 2))))
def UW:aJ:=Z3 4 [] RM
def P1:VS:=
   (bR (XW 1 WX (cD (fC (.int 0)) bP))
   (bE (bW 3 [] UW (aE (fV 0) (aE (f1 ZG (fO 1)) (aE (fV 2) bO))))))
def aY:aJ:=Z3 3 [1] P1
def P5:VS:=
   (bE (f2 bN (fV 2) (bW 3 [1] aY (aE (fV 0) (aO 1 (aE (f1 ZG (fV 2)) bO))))))
def aZ:aJ:=Z3 3 [1] P5
def RN:VS:=
   (bR (FN 2 (fV 3) (f2 G6 (f2 Y4 (GO 2 (fV 3) (bW 3 [1] aY (aE (fV 0) (aO 1 (aE (fV 4) bO))))) (bW 3 [1] aZ (aE (fV 0) (aO 1 (aE (Z7 (cD (fC (.int 1)) (cD (fC (.int 1)) (cD (fC (.int 1)) (cD (fC (.int 0)) (cD (fC (.int 3)) bP)))))) bO))))) (fV 4)))
   (bE (f2 bN (fO 2) (fV 3))))
def Y2:aJ:=Z3 5 [1,2] RN
def NK:VS:=
   (bR (ZZ 5 (xV (bW 3 [1] aY (aE (fV 0) (aO 1 (aE (fC (.int 13)) bO))))))
   (bR (YQ (MS (fB (f2 YL (fV 2) (Z7 bP))) (fB (f2 YL (fV 5) (fC (.int 0)))))
   (bR (YQ (fB (f2 YL (bW 3 [1] aY (aE (fV 0) (aO 1 (aE (fC (.int 2)) bO)))) (fC (.int 0))))
   (bE (aH (cD (fC (.str "number")) (cD (bW 3 [1] aZ (aE (fV 0) (aO 1 (aE (Z7 (cD (fC (.int 0)) (cD (fC (.int 1)) (cD (fC (.int 2)) (cD (fC (.int 5)) (cD (fC (.int 999)) (cD (bW 3 [1] aY (aE (fV 0) (aO 1 (aE (fC (.int 1000)) bO)))) bP))))))) bO)))) bP))))
   aI)
   (bE (aH (cD (fC (.str "load")) (cD (bW 5 [1,2] Y2 (aE (fV 0) (aO 1 (aO 3 (aE (fC (.str "load")) (aE (fV 4) bO)))))) bP)))))
   aI)
   (bR (MO (ZD [0,1,2] 1 (iR1 (fC (.int 3))) (gN 3) V7 (f2 bN (fV 2) (f2 oMax (fC (.int 0)) (f2 RY (f2 RY (f1 ZG (fV 2)) (fC (.int 1))) (bW 3 [1] aY (aE (fV 0) (aO 1 (aE (fC (.int 6)) bO)))))))) (PN 3 (bH (gN 6) (bH (gN 7) (bH (gN 8) YY)))))
   (bR (YQ (fB (f2 (ZF ba) (fV 5) (aH (cD (fC (.int 1)) (cD (fC (.int 2)) bP)))))
   (bE (aH (cD (fC (.str "load")) (cD (bW 5 [1,2] Y2 (aE (fV 0) (aO 1 (aO 3 (aE (fC (.str "load")) (aE (fV 4) bO)))))) bP))))
   aI)
   (bR (YQ (fB (f2 YL (fV 5) (fC (.int 3))))
   (bE (aH (cD (fC (.str "take")) (cD (bW 5 [1,2] Y2 (aE (fV 0) (aO 1 (aO 3 (aE (fC (.str "take")) (aE (fV 4) bO)))))) (cD (fV 8) (cD (fV 6) bP))))))
   aI)
   (bR (YQ (fB (f2 (ZF ba) (fV 5) (aH (cD (fC (.int 4)) (cD (fC (.int 5)) bP)))))
   (bE (aH (cD (fC (.str "store")) (cD (bW 5 [1,2] Y2 (aE (fV 0) (aO 1 (aO 3 (aE (fC (.str "store")) (aE (fV 4) bO)))))) (cD (fV 6) bP)))))
   aI)
   (bR (YQ (fB (f2 YL (fV 5) (fC (.int 6))))
   (bE (aH (cD (fC (.str "put")) (cD (bW 5 [1,2] Y2 (aE (fV 0) (aO 1 (aO 3 (aE (fC (.str "put")) (aE (fV 4) bO)))))) (cD (fV 6) (cD (fV 8) bP))))))
   aI)
   (bR (YQ (fB (f2 YL (fV 5) (fC (.int 7))))
   (bE (aH (cD (fC (.str "pick")) (cD (fV 8) (cD (fV 6) (cD (fV 7) bP))))))
   aI)
   (bE (aH (cD (f2 bN (Z7 (cD (fC (.str "over")) (cD (fC (.str "plus")) (cD (fC (.str "minus")) (cD (fC (.str "times")) (cD (fC (.str "least")) (cD (fC (.str "most")) (cD (fC (.str "less")) bP)))))))) (bW 3 [1] aY (aE (fV 0) (aO 1 (aE (fC (.int 7)) bO))))) (cD (fV 6) (cD (fV 7) bP)))))))))))))
def T6:aJ:=Z3 9 [1,3] NK
def X2:VS:=
   (bR (ZZ 10 (xV (f2 Y4 (f2 C4 (fV 3) (fV 9)) (bW 3 [1] aZ (aE (fV 0) (aO 1 (aE (Z7 (cD (fC (.int 1)) (cD (fC (.int 1)) (cD (fC (.int 1)) (cD (fC (.int 1)) (cD (f1 VJ (fC (.int 1))) (cD (fC (.int 0)) (cD (fC (.int 2)) bP)))))))) bO)))))))
   (XW 8 WX (cD (GQ (QT (fB (f3 oLe oLt (fC (.int 0)) (fV 10) (f1 ZG (fV 3)))) (fB (f2 UT (f2 bN (fV 3) (fV 10)) (f2 RY (f1 ZG (fV 2)) (fC (.int 1)))))) (f2 bN (fV 3) (fV 10)) (fV 9)) bP)))
def TL:VS:=
   (bR (ZZ 6 (xV (f2 bN (fV 2) (f1 VJ (fC (.int 1))))))
   (bR (ZZ 7 (xV (GQ (fB (f2 (ZF ba) (f2 bN (fV 6) (fC (.int 0))) (aH (cD (fC (.str "load")) (cD (fC (.str "take")) (cD (fC (.str "store")) (cD (fC (.str "put")) bP))))))) (fC (.int 2)) (fC (.int 1)))))
   (bR (ZZ 8 (xO (Z7 bP)))
   (bR (U5 (W7 (F3 (fV 6) (F4 (fV 7)) D1)) (gN 9)
   X2)
   (bR (YQ (fB (f2 YL (fV 7) (fC (.int 1))))
   (bE (f2 Y4 (F3 (fV 6) D1 (F4 (fC (.int 1)))) (f1 WA (fO 8))))
   aI)
   (bR (FN 4 (f2 bN (fV 6) (fC (.int 0))) (f2 G6 (f2 Y4 (f2 bN (fV 6) (fC (.int 1))) (fC (.int 1))) (fV 5)))
   (bE (f2 Y4 (aH (cD (f2 bN (fV 6) (fC (.int 0))) (cD (f2 bN (fO 4) (f2 bN (fV 6) (fC (.int 0)))) bP))) (f1 WA (fO 8))))))))))
def XB:aJ:=Z3 11 [1,4] TL
def X3:VS:=
   (YQ (QT (fB (f2 oLt (f1 ZG (fO 4)) (fV 2))) (fB (f2 UT (f2 bN (f2 bN (fO 4) (f1 VJ (fC (.int 1)))) (fC (.int 0))) (fC (.str "number")))))
   (bR (XW 4 WX (cD (bW 6 [1,4] XB (aE (fV 0) (aO 1 (aO 4 (aO 5 (aO 6 (aE (fV 3) bO))))))) bP))
   (YQ (fB (f2 (ZF b8) (f2 bN (f2 bN (fO 4) (f1 VJ (fC (.int 1)))) (fC (.int 0))) (aH (cD (fC (.str "store")) (cD (fC (.str "put")) bP)))))
   (XW 5 WX (cD (f2 RY (f1 ZG (fO 4)) (fC (.int 1))) bP))
   aI))
   aI)
def VY:VS:=
   (bR (XW 4 WX (cD (bW 5 [1,3] T6 (aE (fV 0) (aO 1 (aO 5 (aO 6 (aE (fV 3) bO)))))) bP))
   (bR (YQ (fB (f2 (ZF b8) (f2 bN (f2 bN (fO 4) (f1 VJ (fC (.int 1)))) (fC (.int 0))) (aH (cD (fC (.str "store")) (cD (fC (.str "put")) bP)))))
   (XW 5 WX (cD (f2 RY (f1 ZG (fO 4)) (fC (.int 1))) bP))
   aI)
   (U5 (iR1 (bW 3 [1] aZ (aE (fV 0) (aO 1 (aE (Z7 (cD (fC (.int 0)) (cD (fC (.int 1)) (cD (fC (.int 1)) (cD (fC (.int 2)) (cD (fC (.int 3)) bP)))))) bO))))) (gN 7)
   X3)))
def P6:VS:=
   (bR (M5 4 5 6 (xO (Z7 bP)) (xO (Z7 bP)) (xO (fC (.dct [] []))))
   (bR (T2 (fB (f2 oLt (f1 ZG (fO 4)) (fV 2)))
   VY)
   (bE (f1 WA (fO 4)))))
def SX:aJ:=Z3 8 [1] P6
def MY:VS:=
   (bR (YQ (fB (f2 YL (f2 bN (fV 0) (fC (.int 0))) (fC (.str "number"))))
   (bE (Z7 bP))
   aI)
   (bE (GQ (fB (f2 (ZF ba) (f2 bN (fV 0) (fC (.int 0))) (aH (cD (fC (.str "load")) (cD (fC (.str "take")) (cD (fC (.str "store")) (cD (fC (.str "put")) bP))))))) (f1 E8 (F3 (fV 0) (F4 (fC (.int 2))) D1)) (f1 E8 (F3 (fV 0) (F4 (fC (.int 1))) D1)))))
def Y1:aJ:=Z3 1 [] MY
def NJ:VS:=
   (bR (ZZ 2 (xV (f2 bN (f2 bN (fV 0) (fC (.int 1))) (fV 1))))
   (bR (YQ (fB (f2 (ZF ba) (f2 bN (fV 2) (fC (.int 0))) (aH (cD (fC (.str "load")) (cD (fC (.str "take")) (cD (fC (.str "store")) (cD (fC (.str "put")) bP)))))))
   (bE (f2 oGe (f2 bN (fV 2) (fC (.int 1))) (f2 bN (fV 0) (fC (.int 0)))))
   aI)
   (bE (UD (f2 YL (f2 bN (fV 2) (fC (.int 0))) (fC (.str "over"))) (f2 (ZF b8) (F3 (f2 bN (f2 bN (fV 0) (fC (.int 1))) (f2 bN (fV 2) (fC (.int 2)))) D1 (F4 (fC (.int 2)))) (ZD [] 1 (iR2 (fC (.int 1)) (fC (.int 1000))) (gN 0) V7 (aH (cD (fC (.str "number")) (cD (fV 0) bP)))))))))
def WL:aJ:=Z3 3 [] NJ
def VU:VS:=
   (bR (ZZ 7 (xV (ZD [] 1 (W7 (aH (cD (fV 6) (cD (fV 4) bP)))) (gN 0) (fB (f2 (ZF ba) (f2 bN (fV 0) (fC (.int 0))) (aH (cD (fC (.str "store")) (cD (fC (.str "put")) bP))))) (fV 0))))
   (bR (ZZ 8 (xO (Z7 (cD (f2 (ZF ba) (fV 5) (bW 1 [] Y1 (aE (fV 4) bO))) (cD (UD (bW 2 [] WL (aE (fV 0) (aE (fV 5) bO))) (bW 2 [] WL (aE (fV 0) (aE (fV 3) bO)))) bP)))))
   (bR (XW 8 WX (cD (UD (f2 (ZF ba) (f2 bN (fV 6) (fC (.int 0))) (fV 2)) (UD (f2 (ZF ba) (f2 bN (fV 4) (fC (.int 0))) (fV 2)) (UD (f2 YL (f2 bN (fV 6) (fC (.int 1))) (f2 bN (fV 4) (fC (.int 1)))) (f2 UT (fV 7) (Z7 bP))))) bP))
   (bR (XW 8 WX (cD (UD (bW 2 [] WL (aE (fV 0) (aE (fV 5) bO))) (f2 (ZF ba) (f2 bN (fV 4) (fC (.int 0))) (aH (cD (fC (.str "store")) (cD (fC (.str "put")) bP))))) bP))
   (bR (XW 8 WX (cD (UD (bW 2 [] WL (aE (fV 0) (aE (fV 3) bO))) (f2 (ZF ba) (f2 bN (fV 6) (fC (.int 0))) (aH (cD (fC (.str "store")) (cD (fC (.str "put")) bP))))) bP))
   (YQ (fB (f2 (ZF ba) (fC (.bl b8)) (fO 8)))
   (XW 1 WX (cD (aH (cD (fV 5) (cD (fV 3) bP))) bP))
   aI))))))
def VW:VS:=
   (U5 (RQ (F3 (f2 bN (fV 0) (fC (.int 1))) D1 (F4 (fV 3)))) (PN 2 (bH (gN 5) (bH (gN 6) YY)))
   VU)
def P2:VS:=
   (bR (U2 1 2 (xO (Z7 bP)) (xV (aH (cD (fC (.str "load")) (cD (fC (.str "take")) (cD (fC (.str "store")) (cD (fC (.str "put")) bP)))))))
   (bR (U5 (RQ (f2 bN (fV 0) (fC (.int 1)))) (PN 2 (bH (gN 3) (bH (gN 4) YY)))
   VW)
   (bE (f1 C5 (fO 1)))))
def SW:aJ:=Z3 9 [] P2
def YS:VS:=
   (bR (ZZ 6 (xV (ZD [3,4] 1 (W7 (fO 4)) (gN 2) (fB (f2 YL (ZD [1,2] 2 (W7 (fV 0)) (PN 2 (bH (gN 2) (bH (gN 3) YY))) (QT (fB (f2 YL (fV 3) (fV 1))) (fB (f2 (ZF ba) (fV 2) (fO 0)))) (fC (.int 1))) (Z7 bP))) (fV 2))))
   (bR (XW 5 WX (cD (bW 3 [1] aZ (aE (fV 0) (aO 1 (aE (fV 6) bO)))) bP))
   (XW 4 mRem (cD (f2 bN (fO 5) (f1 VJ (fC (.int 1)))) bP))))
def W1:VS:=
   (bR (M5 3 4 5 (xV (bW 1 [] SW (aE (fV 2) bO))) (xO (TD (f1 ZG (f2 bN (fV 2) (fC (.int 1)))))) (xO (Z7 bP)))
   (bR (T2 (fB (f2 UT (fO 4) (Z7 bP)))
   YS)
   (bE (fO 5))))
def X9:aJ:=Z3 7 [1] W1
def ZO:VS:=
   (bR (YQ (fB (f2 YL (f2 bN (fV 0) (fC (.int 0))) (fC (.str "number"))))
   (bE (fV 0))
   aI)
   (bR (ZZ 2 (xV (GQ (fB (f2 (ZF ba) (f2 bN (fV 0) (fC (.int 0))) (aH (cD (fC (.str "load")) (cD (fC (.str "take")) (cD (fC (.str "store")) (cD (fC (.str "put")) bP))))))) (fC (.int 2)) (fC (.int 1)))))
   (bE (f2 Y4 (F3 (fV 0) D1 (F4 (fV 2))) (f1 WA (ZD [1] 1 (W7 (F3 (fV 0) (F4 (fV 2)) D1)) (gN 1) V7 (f2 bN (fV 0) (fV 1))))))))
def aL:aJ:=Z3 3 [] ZO
def U0:VS:=
   (bR (ZZ 3 (xV (bW 3 [1] aZ (aE (fV 0) (aO 1 (aE (Z7 (cD (fC (.int 3)) (cD (fC (.int 6)) (cD (fC (.int 9)) (cD (fC (.int 64)) bP))))) bO))))))
   (bR (ZZ 4 (xV (bW 3 [1] aZ (aE (fV 0) (aO 1 (aE (Z7 (cD (fC (.int 0)) (cD (fV 3) (cD (fV 3) (cD (bW 3 [1] aY (aE (fV 0) (aO 1 (aE (f2 Y4 (fV 3) (fC (.int 1))) bO)))) bP))))) bO))))))
   (bR (ZZ 5 (xV (aH (cD (fV 4) (cD (bW 4 [1] SX (aE (fV 0) (aO 1 (aE (bW 3 [1] aY (aE (fV 0) (aO 1 (aE (f2 Y4 (fV 2) (fC (.int 1))) bO)))) (aE (fV 3) bO))))) bP)))))
   (bR (YQ (fB (f2 oGt (bW 3 [1] aY (aE (fV 0) (aO 1 (aE (fC (.int 3)) bO)))) (fC (.int 0))))
   (bE (fV 5))
   aI)
   (bR (ZZ 6 (xV (bW 3 [1] X9 (aE (fV 0) (aO 1 (aE (fV 5) bO))))))
   (bR (ZZ 7 (xV (f1 AW (ZD [] 2 (RQ (fV 6)) (PN 2 (bH (gN 0) (bH (gN 1) YY))) V7 (aH (cD (fV 1) (cD (fV 0) bP)))))))
   (bE (aH (cD (fV 4) (cD (f1 WA (ZD [5,7] 1 (W7 (fV 6)) (gN 2) V7 (bW 2 [] aL (aE (f2 bN (f2 bN (fV 0) (fC (.int 1))) (fV 2)) (aE (fV 1) bO))))) bP))))))))))
def W8:aJ:=Z3 8 [1] U0
def MZ:VS:=
   (bR (ZZ 1 (xO (Z7 (cD (f2 (RX LW SA) (fV 0) (fC (.fn "NoBlock"))) (cD (f2 (RX LW SA) (fV 0) (fC (.fn "NoCells"))) (cD (f2 (RX LW SA) (fV 0) (fC (.fn "NoRow"))) (cD (f2 (RX LW SA) (fV 0) (fC (.fn "NoLanes"))) bP)))))))
   (bR (XW 1 mExt (cD (Z7 (cD (f2 (RX LW SA) (fV 0) (fC (.fn "NoPlan"))) (cD (f2 (RX LW SA) (fV 0) (fC (.fn "NoProgram"))) (cD (f2 (RX LW SA) (fV 0) (fC (.fn "NoTree"))) (cD (f2 (RX LW SA) (fV 0) (fC (.fn "NoLoop"))) bP))))) bP))
   (bR (XW 1 mExt (cD (Z7 (cD (f2 (RX LW SA) (fV 0) (fC (.fn "NoText"))) (cD (f2 (RX LW SA) (fV 0) (fC (.fn "NoName"))) (cD (f2 (RX LW SA) (fV 0) (fC (.fn "TooMany"))) (cD (f2 (RX LW SA) (fV 0) (fC (.fn "TooLong"))) bP))))) bP))
   (bR (XW 1 mExt (cD (Z7 (cD (f2 (RX LW SA) (fV 0) (fC (.fn "NotValid"))) (cD (f2 (RX LW SA) (fV 0) (fC (.fn "Nothing"))) bP))) bP))
   (bR (YQ (MS (fB (f2 UT (f2 G2 (fO 1) (fC (.bl b8))) (fC (.int 1)))) (YE (fB (f2 (RX LW SA) (fV 0) (fC (.ty "ValueError"))))))
   (bE (aH (cD (fC (.str "refused")) (cD (f1 VJ (fC (.int 1))) bP))))
   aI)
   (bE (aH (cD (fC (.str "refused")) (cD (f2 G4 (fO 1) (fC (.bl b8))) bP)))))))))
def UX:aJ:=Z3 2 [] MZ
def P4:VS:=
   (bR (ZZ 2 (xV (fC (.lst [.non,.int 5,.tup [],.tup [.int 0],.tup [.int 0,.lst []],.lst [.int 0,.tup []],.tup [.int (-1),.tup []],.tup [.int 65,.tup []],.tup [.bl b8,.tup []],.tup [.str "0",.tup []],.tup [.int 0,.tup [],.tup []],.tup [.int 0,.tup [.tup []]]]))))
   (bR (ZZ 2 (xV (f2 Y4 (fV 2) (fC (.lst [.tup [.int 0,.tup [.tup [.str "number"]]],.tup [.int 0,.tup [.tup [.str "number",.int 1000]]],.tup [.int 0,.tup [.tup [.str "plus",.int 0,.int 0]]],.tup [.int 0,.tup [.lst [.str "load",.int 0]]]])))))
   (bR (ZZ 2 (xV (f2 Y4 (fV 2) (fC (.lst [.tup [.int 0,.tup [.tup [.str "load",.int 64]]],.tup [.int 0,.tup [.tup [.str "load",.int (-1)]]],.tup [.int 0,.tup [.tup [.str "halve",.int 0]]],.tup [.int 0,.tup [.tup [.int 5,.int 0]]]])))))
   (bR (ZZ 2 (xV (f2 Y4 (fV 2) (Z7 (cD (fC (.tup [.int 0,.tup [.tup [.str "number",.int 1],.tup [.str "store",.int 0,.int 0],.tup [.str "plus",.int 0,.int 1]]])) (cD (aH (cD (fC (.int 0)) (cD (f2 QQ (fC (.tup [.tup [.str "number",.int 1]])) (fC (.int 41))) bP))) bP))))))
   (bR (ZZ 2 (xV (f2 Y4 (fV 2) (fC (.lst [.tup [.int 0,.tup [.tup [.str "number",.int 1],.tup [.str "plus",.int 0,.int 1]]]])))))
   (bE (bW 3 [1] aZ (aE (fV 0) (aO 1 (aE (fV 2) bO))))))))))
def U8:aJ:=Z3 3 [1] P4
def V9:VS:=
   (bR (U2 9 10 (xV (bW 3 [1] aY (aE (fV 0) (aO 1 (aE (fC (.int 6)) bO))))) (xV (f1 ZG (fO 5))))
   (bR (YQ (fB (f2 YL (fV 9) (fC (.int 0))))
   (XW 5 WX (cD (aH (cD (fC (.str "gather")) (cD (f1 WA (ZD [0,1,6] 1 (iR1 (fV 3)) (gN 3) V7 (bW 3 [1] aZ (aE (fV 0) (aO 1 (aO 2 bO)))))) bP))) bP))
   (YQ (fB (f2 YL (fV 9) (fC (.int 1))))
   (bR (ZZ 11 (xV (f1 WA (ZD [0,1,3] 1 (iR1 (fV 3)) (gN 3) V7 (bW 3 [1] aY (aE (fV 0) (aO 1 (aE (f2 TU (fC (.int 2)) (fV 2)) bO))))))))
   (XW 5 WX (cD (aH (cD (fC (.str "shuffle")) (cD (bW 3 [1] aZ (aE (fV 0) (aO 1 (aO 7 bO)))) (cD (bW 3 [1] aZ (aE (fV 0) (aO 1 (aO 7 bO)))) (cD (fV 11) bP))))) bP)))
   (YQ (fB (f2 YL (fV 9) (fC (.int 2))))
   (XW 5 WX (cD (aH (cD (fC (.str "lane")) (cD (bW 3 [1] aZ (aE (fV 0) (aO 1 (aO 7 bO)))) (cD (bW 3 [1] aY (aE (fV 0) (aO 1 (aE (fV 3) bO)))) bP)))) bP))
   (bR (ZZ 12 (xV (bW 4 [1] (insD 3 T6) (aE (fV 0) (aO 1 (aIf (fB (f2 YL (fV 9) (fC (.int 3)))) 6 7 (aE (fV 4) bO)))))))
   (XW 5 WX (cD (GQ (MS (fB (f2 YL (fV 9) (fC (.int 3)))) (fB (f2 YL (f2 bN (fV 12) (fC (.int 0))) (fC (.str "number"))))) (fV 12) (f2 Y4 (aH (cD (fC (.str "wide")) bP)) (fV 12))) bP))))))
   (bR (ZZ 13 (xV (GQ (fB (f2 YL (f2 bN (f2 bN (fO 5) (f1 VJ (fC (.int 1)))) (fC (.int 0))) (fC (.str "wide")))) (F3 (f2 bN (fO 5) (f1 VJ (fC (.int 1)))) (F4 (fC (.int 1))) D1) (f2 bN (fO 5) (f1 VJ (fC (.int 1)))))))
   (YQ (fB (f2 (ZF b8) (f2 bN (fV 13) (fC (.int 0))) (aH (cD (fC (.str "store")) (cD (fC (.str "put")) bP)))))
   (YQ (fB (f2 (ZF ba) (f2 bN (f2 bN (fO 5) (f1 VJ (fC (.int 1)))) (fC (.int 0))) (aH (cD (fC (.str "wide")) (cD (fC (.str "gather")) (cD (fC (.str "shuffle")) bP))))))
   (XW 7 WX (cD (fV 10) bP))
   (XW 6 WX (cD (fV 10) bP)))
   aI))))
def UQ:VS:=
   (bR (U2 3 4 (xV (bW 3 [1] aZ (aE (fV 0) (aO 1 (aE (Z7 (cD (fC (.int 2)) (cD (fC (.int 3)) (cD (fC (.int 4)) bP)))) bO))))) (xV (bW 3 [1] aZ (aE (fV 0) (aO 1 (aE (Z7 (cD (fC (.int 4)) (cD (fC (.int 9)) (cD (fC (.int 64)) bP)))) bO))))))
   (bR (M5 5 6 7 (xO (Z7 (cD (aH (cD (fC (.str "number")) (cD (bW 3 [1] aY (aE (fV 0) (aO 1 (aE (fC (.int 1000)) bO)))) bP))) bP))) (xO (Z7 (cD (fC (.int 0)) bP))) (xO (Z7 bP)))
   (bR (XW 5 WX (cD (aH (cD (fC (.str "wide")) (cD (fC (.str "number")) (cD (f1 WA (ZD [0,1] 1 (iR1 (fV 3)) (gN 2) V7 (bW 3 [1] aY (aE (fV 0) (aO 1 (aE (fC (.int 1000)) bO)))))) bP)))) bP))
   (bR (XW 7 WX (cD (fC (.int 1)) bP))
   (bR (U5 (iR1 (bW 3 [1] aY (aE (fV 0) (aO 1 (aE (f2 Y4 (fV 2) (fC (.int 1))) bO))))) (gN 8)
   V9)
   (bE (aH (cD (fV 3) (cD (bW 3 [1] aY (aE (fV 0) (aO 1 (aE (f2 Y4 (fV 4) (fC (.int 1))) bO)))) (cD (f1 WA (fO 5)) bP))))))))))
def XR:aJ:=Z3 14 [1] UQ
def WP:VS:=
   (LI (bE (GQ (fB (f2 YL (fV 0) (fC (.int 0)))) (bW 3 [] QX (aE (fV 1) (aE (fV 2) (aE (fV 3) bO)))) (bW 3 [] WY (aE (fV 1) (aE (fV 2) (aE (fV 3) bO))))))
   (DY (fB (f2 YL (fV 0) (fC (.int 0)))) (M8 3 OC (aE (fV 1) (aE (fV 2) (aE (fV 3) bO)))) (M8 3 U9 (aE (fV 1) (aE (fV 2) (aE (fV 3) bO)))))
   4 LW "NoRow" (bE (aH (cD (fC (.str "row")) (cD (f1 (G5 ["NoRow"] "row") (fV 4)) bP)))) (bE (bW 1 [] UX (aE (fV 4) bO))))
def bB:aJ:=Z3 5 [] WP
def LZ:VS:=
   (YQ (fB (f2 UT (bW 4 [] bB (aE (fC (.int 1)) (aE (fV 3) (aE (fC (.int 1)) (aE (fV 11) bO))))) (aH (cD (fC (.str "row")) (cD (fC (.int 1)) bP)))))
   (bE (fC (.bl ba)))
   aI)
def L5:VS:=
   (YQ (fB (f2 UT (bW 4 [] bB (aE (fC (.int 1)) (aE (fV 3) (aE (fC (.int 0)) (aE (fV 11) bO))))) (aH (cD (fC (.str "row")) (cD (fC (.int 0)) bP)))))
   (bE (fC (.bl ba)))
   aI)
def OG:VS:=
   (YQ (fB (f2 UT (bW 4 [] bB (aE (fC (.int 1)) (aE (fV 3) (aE (fV 10) (aE (bW 3 [1] aZ (aE (fV 0) (aO 1 (aE (Z7 (cD (fC .non) (cD (fC (.int 0)) bP))) bO)))) bO))))) (aH (cD (fC (.str "row")) (cD (fV 10) bP)))))
   (bE (fC (.bl ba)))
   aI)
def OH:VS:=
   (bR (ZZ 9 (xV (GQ (fB (f2 YL (f2 bN (fV 8) (fC (.int 0))) (fC (.str "wide")))) (F3 (fV 8) (F4 (fC (.int 1))) D1) (fV 8))))
   (YQ (fB (f2 (ZF ba) (f2 bN (fV 9) (fC (.int 0))) (aH (cD (fC (.str "store")) (cD (fC (.str "put")) bP)))))
   (XW 6 WX (cD (fV 7) bP))
   aI))
def Vp:VS:=
   (bR (ZZ 1 (xO (Z7 bP)))
   (bR (U2 2 3 (xV (bW 3 [1] W8 (aE (fV 0) (aO 1 (aE (fC (.int 6)) bO))))) (xV (bW 3 [1] XR (aE (fV 0) (aO 1 (aE (fC (.int 8)) bO))))))
   (bR (ZZ 4 (xV (bW 3 [1] aZ (aE (fV 0) (aO 1 (aE (Z7 (cD (fC .non) (cD (fC (.int 5)) (cD (aH bP) (cD (aH (cD (fC (.int 2)) (cD (fC (.int 0)) bP))) (cD (fC (.tup [.int 1,.int 0,.tup []])) (cD (fC (.tup [.int 2,.int 0,.lst []])) (cD (fC (.tup [.int 2,.int 0,.tup [.tup []]])) (cD (fC (.str "program")) (cD (fV 2) bP)))))))))) bO))))))
   (bR (YQ (fB (f2 UT (bW 4 [] bB (aE (fC (.int 0)) (aE (bW 2 [1] U8 (aE (fV 0) (aO 1 bO))) (aE (fC .non) (aE (fC .non) bO))))) (aH (cD (fC (.str "refused")) (cD (fC (.int 0)) bP)))))
   (bE (fC (.bl ba)))
   aI)
   (bR (YQ (MS (fB (f2 UT (bW 4 [] bB (aE (fC (.int 0)) (aE (fV 2) (aE (fV 4) (aE (fC .non) bO))))) (aH (cD (fC (.str "refused")) (cD (fC (.int 5)) bP))))) (fB (f2 UT (bW 4 [] bB (aE (fC (.int 1)) (aE (fV 4) (aE (fC .non) (aE (fC .non) bO))))) (aH (cD (fC (.str "refused")) (cD (fC (.int 5)) bP))))))
   (bE (fC (.bl ba)))
   aI)
   (bR (U2 5 6 (xV (f1 ZG (f2 bN (fV 3) (fC (.int 2))))) (xO (Z7 bP)))
   (bR (U5 (RQ (f2 bN (fV 3) (fC (.int 2)))) (PN 2 (bH (gN 7) (bH (gN 8) YY)))
   OH)
   (bR (U5 (W7 (f2 Y4 (Z7 (cD (fC .non) (cD (f1 VJ (fC (.int 1))) (cD (fC (.str "0")) (cD (fV 5) (cD (Z7 (cD (fC (.int 0)) bP)) bP)))))) (fO 6))) (gN 10)
   OG)
   (bR (U5 (W7 (Z7 (cD (fC (.int 0)) (cD (f1 VJ (fC (.int 1))) (cD (fC (.str "0")) (cD (fC (.bl b8)) bP)))))) (gN 11)
   L5)
   (bR (U5 (W7 (Z7 (cD (fC .non) (cD (f1 VJ (fC (.int 1))) (cD (f2 bN (fV 3) (fC (.int 0))) (cD (fC (.str "0")) (cD (fC (.bl b8)) bP))))))) (gN 11)
   LZ)
   (bR (ZZ 12 (xV (bW 3 [1] aZ (aE (fV 0) (aO 1 (aE (Z7 (cD (fC .non) (cD (fC (.int 5)) (cD (fC (.str "sheet")) (cD (aH bP) (cD (f2 QQ (Z7 (cD (fC (.int 5)) bP)) (f1 ZG (f2 bN (fV 2) (fC (.int 1))))) (cD (f2 QQ (fC (.lst [.tup []])) (f1 ZG (f2 bN (fV 2) (fC (.int 1))))) (cD (EN (LA (fC (.int 0)) (fC .non) A7)) bP)))))))) bO))))))
   (bR (YQ (QT (fB (f2 UT (f2 bN (fV 2) (fC (.int 1))) (aH bP))) (fB (f2 FA (bW 4 [] bB (aE (fC (.int 0)) (aE (fV 2) (aE (fV 3) (aE (fV 12) bO))))) (fC (.bl ba)))))
   (bE (fC (.bl ba)))
   aI)
   (bE (UD (f2 oIsB (bW 4 [] bB (aE (fC (.int 0)) (aE (fC (.tup [.int 3,.tup []])) (aE (fC (.tup [.int 2,.int 3,.tup []])) (aE (Z7 bP) bO))))) (fC (.bl b8))) (f2 YL (bW 4 [] bB (aE (fC (.int 1)) (aE (fV 3) (aE (fC (.int 0)) (aE (fC .non) bO))))) (f2 bN (f2 bN (fV 3) (fC (.int 2))) (fC (.int 0))))))))))))))))))
def HP:aJ:=Z3 13 [] Vp
end L2
namespace RR
open PySem L2
section
open PySem.Spec PyProof.Rows
def mkDg{P:Be}{w:Ul}{K:Aj}{mg:Ug->Option Uc}{base:Um}{x:Ug}{st:Up}{f:Ud}{ps:List Ug}{sp:Sp}{k:Nat}(X:∀x a,Fg K Ui x=b3 (b3 (.ref a))->mg x=b3 (.ref a))(p:A4 K x st f)(ok:∀{fd:Cr},LX K x x st f fd->U4 P w K mg base CX0 k f fd ps sp)(l:∀{kV doc h:Uc}{i:Option Ud}{e ct:Uc}(g:List Uc),g.length=ps.length->bindArgs (Je x x (YT st) (aC st) (bX st) .none kV doc h i e ct) ⟨g,[]⟩=pure (ps.zip g)):Def P w K mg base x k ps sp f:=by obtain⟨m,od,kV,doc,h,i,e,ct,j,a,b,c,d⟩:=p;have U:=GS (st:=st) b c d;exact⟨X _ _ a,⟨_,ok U,U.binds λ_ _ _ _ _ _=>l⟩,d⟩
def okWg(P:Be)(w:Ul)(K:Aj)(mg:Ug->Option Uc)(base:Um){x q:Ug}{st:Up}{f:Ud}{fd:Cr}(N ps:List Ug)(k:Nat)(g:VS)(ml:List Nat)(F:LX K x q st f fd)(S:ZI N ps (bX st))(d:∀{a:Uc}{A:Bx}{outer:List Env}{s:Ae}{H:Hp}{E:XK}(_:ZI N ps (bX st)) (b:X1 k (A.deeper (envOfC q (bX st) s.heap.objs.size f a))) (_:(A.deeper (envOfC q (bX st) s.heap.objs.size f a)).units+64<cLine) (_:(A.deeper (envOfC q (bX st) s.heap.objs.size f a)).units+1<cLine),V6 (RK CX0 P w K mg base N q (bX st) f a A outer s H E).nox (aC st) (U7 K ml g))(c:ps.length<=N.length:=by decide):U4 P w K mg base CX0 (k+1) f fd ps (spV K ml ps.length (Z3 N.length ml g)):=
 LX.okV F S c λa A outer s H E b=>d S b b.units (Vm b)
end
section
open PySem.Spec PyProof.Rows
def jP{P:Be}{w:Ul}{K:Aj}{mg:Ug->Option Uc}{base:Um}{x:Ug}{st:Up}{f:Ud}{ps:List Ug}{j:List cF->Option Xw}{k:Nat}(X:∀x a,Fg K Ui x=b3 (b3 (.ref a))->mg x=b3 (.ref a))(p:A4 K x st f)(ok:∀{fd:Cr},LX K x x st f fd->U4 P w K mg base (CXv P w) k f fd ps (spX K ps.length j))(m:∀{kV doc h:Uc}{i:Option Ud}{e ct:Uc}(g:List Uc),g.length=ps.length->bindArgs (Je x x (YT st) (aC st) (bX st) .none kV doc h i e ct) ⟨g,[]⟩=pure (ps.zip g)):DefX P w K mg base x k ps j f:=by obtain⟨n,od,kV,doc,h,i,e,ct,l,a,b,c,d⟩:=p;have U:=GS (st:=st) b c d;exact⟨X _ _ a,⟨_,ok U,U.binds λ_ _ _ _ _ _=>m⟩,d⟩
def mO{P:Be}{w:Ul}{K:Aj}{mg:Ug->Option Uc}{base:Um}{x:Ug}{st:Up}{f:Ud}{ps:List Ug}{sp:Sp}{k:Nat}(X:∀x a,Fg K Ui x=b3 (b3 (.ref a))->mg x=b3 (.ref a))(p:A4 K x st f)(ok:∀{fd:Cr},LX K x x st f fd->FnH P w K mg base k f fd ps sp)(l:∀{kV doc h:Uc}{i:Option Ud}{e ct:Uc}(g:List Uc),g.length=ps.length->bindArgs (Je x x (YT st) (aC st) (bX st) .none kV doc h i e ct) ⟨g,[]⟩=pure (ps.zip g)):DefH P w K mg base x k ps sp f:=by obtain⟨m,od,kV,doc,h,i,e,ct,j,a,b,c,d⟩:=p;have U:=GS (st:=st) b c d;exact⟨X _ _ a,⟨_,ok U,U.binds λ_ _ _ _ _ _=>l⟩,d⟩
end
abbrev Gn(K:Aj)(x:Ug)(v:Uc):Prop:=Fg K Ui x=b3 (b3 v)
def tS(xs:List (Ug×Nat)):Uq:=⟨.type "tuple",b4,.seq (xs.map λz=>Mi z.1 z.2).toArray 0,#[]⟩
theorem Len1{α:Type}{P:List α->Prop}(z:∀a,P [a]):∀b:List α,b.length=1->P b
 |[a],_=>z a
theorem Len2{α:Type}{P:List α->Prop}(z:∀a b,P [a,b]):∀c:List α,c.length=2->P c
 |[a,b],_=>z a b
theorem Len3{α:Type}{P:List α->Prop}(z:∀a b c,P [a,b,c]):∀d:List α,d.length=3->P d
 |[a,b,c],_=>z a b c
theorem Len4{α:Type}{P:List α->Prop}(z:∀a b c d,P [a,b,c,d]):∀e:List α,e.length=4->P e
 |[a,b,c,d],_=>z a b c d
theorem Len5{α:Type}{P:List α->Prop}(z:∀a b c d e,P [a,b,c,d,e]):∀f:List α,f.length=5->P f
 |[a,b,c,d,e],_=>z a b c d e
theorem Len6{α:Type}{P:List α->Prop}(z:∀a b c d e f,P [a,b,c,d,e,f]):∀g:List α,g.length=6->P g
 |[a,b,c,d,e,f],_=>z a b c d e f
def zB0{K:Aj}{fd:Cr}(f:Ud)(F:LX K "__init__" "NoRow.__init__" (mem 4 0) f fd):HQ K "NoRow.__init__" (mem 4 0) "row" "there is no such row" f fd:=
 ⟨F,CT,F.binds λ_ _ _ _ _ _=>Len2 λ_ _=>rfl,rfl,rfl,rfl,by decide,by decide,⟨_,_,_,_,_,_,_,_,_,_,_,_,rfl,λ_ _=>rfl,λ_ _=>rfl,λ_ _=>rfl⟩⟩
structure Txt(w:Ul)(K:Aj)(mg:Ug->Option Uc):Prop where
 fnm:∀x a,Gn K x (.ref a)->mg x=b3 (.ref a)
 fni:∀x i t,Gn K x (.int i t)->mg x=b3 (.int i t)
 p_x0:A4 K "is_whole" (top 19) 224
 p_x1:A4 K "parts_of" (top 28) 241
 p_x2:A4 K "makes_word" (top 29) 248
 p_x3:A4 K "place_of" (top 30) 255
 p_x4:A4 K "may_name" (top 32) 267
 p_x5:A4 K "fits" (top 33) 274
 p_x6:A4 K "is_row" (top 34) 279
 p_x7:A4 K "is_block" (top 35) 286
 p_x8:A4 K "must_stay" (top 41) 321
 p_x9:A4 K "must_pairs" (top 42) 326
 p_x10:A4 K "is_lanes" (top 46) 333
 p_x11:A4 K "is_for_lanes" (top 49) 340
 p_x12:A4 K "is_wide" (top 50) 345
 p_x13:A4 K "is_gather" (top 51) 350
 p_x14:A4 K "is_shuffle" (top 52) 355
 p_x15:A4 K "is_lane" (top 53) 362
 p_x16:A4 K "is_program_row" (top 54) 369
 p_x17:A4 K "kind_made" (top 55) 376
 p_x18:A4 K "are_program_rows" (top 56) 383
 p_x19:A4 K "is_program" (top 57) 390
 p_x20:A4 K "has_word" (top 59) 397
 p_x21:A4 K "taken_from" (top 60) 404
 p_x22:A4 K "trace" (top 61) 411
 o_a1:K.lookup 412=b3 ⟨.type "tuple",b4,.seq #[.none] 0,#[]⟩
 a_x23:Fg K Ui "traced"=b3 (b3 (.ref 419))
 l_x23:K.lookup 419=b3 ⟨.type "function",b4,.func (Je "traced" "traced" (YT (top 62)) (aC (top 62)) (bX (top 62)) (.ref 412) .none .none KK.m4 b4 (.ref 418) .none),#[]⟩
 c_x23:Lj K (.ref 418) "traced"=b8
 k_x23:Hx K (.ref 419)=b8
 p_x24:A4 K "is_entry" (top 63) 426
 p_x25:A4 K "are_entries" (top 64) 431
 p_x26:A4 K "deed_row" (top 65) 438
 p_x27:A4 K "does_same" (top 66) 443
 p_x28:A4 K "doers" (top 68) 455
 p_x30:A4 K "is_lesser" (top 70) 469
 p_x29:A4 K "keeps_order" (top 69) 462
 p_x31:A4 K "shows" (top 71) 474
 p_x32:A4 K "_law_cell_at" (top 73) 481
 p_x33:A4 K "_law_mixed" (top 74) 488
 p_x34:A4 K "_law_draw" (top 75) 495
 p_x35:A4 K "_law_pick" (top 76) 502
 p_x36:A4 K "_law_place" (top 77) 509
 p_x37:A4 K "_law_row" (top 78) 514
 p_x39:A4 K "_law_next" (top 80) 528
 p_x38:A4 K "_law_rows" (top 79) 521
 p_x41:A4 K "_law_names" (top 82) 540
 p_x42:A4 K "_law_may" (top 83) 545
 p_x43:A4 K "_law_must" (top 84) 550
 p_x46:A4 K "_law_mixed_order" (top 87) 569
 p_x47:A4 K "_law_renamed" (top 88) 574
 p_x40:A4 K "_law_block" (top 81) 533
 p_x44:A4 K "_law_which" (top 85) 557
 p_x45:A4 K "_law_none" (top 86) 564
 p_x48:A4 K "_law_program" (top 89) 579
 p_x49:A4 K "_law_ask" (top 90) 586
 n_len:mg "len"=b4
 n_range:mg "range"=b4
 n_min:mg "min"=b4
 n_max:mg "max"=b4
 RW:mg "list"=b4
 n_tuple:mg "tuple"=b4
 n_sorted:mg "sorted"=b4
 n_isinstance:mg "isinstance"=b4
 n_bool:mg "bool"=b4
 n_int:mg "int"=b4
 n_str:mg "str"=b4
 n_enumerate:mg "enumerate"=b4
 n_zip:mg "zip"=b4
 n_all:mg "all"=b4
 n_dict:mg "dict"=b4
 n_ValueError:mg "ValueError"=b4
 n_set:mg "set"=b4
 g_MOST_WORD:Gn K "MOST_WORD" (.int 999 460)
 o_a10:K.lookup 217=b3 (tS [("plus",462),("minus",463),("times",464),("least",465),("most",466),("less",467),("over",468)])
 g_DEEDS:Gn K "DEEDS" (.ref 217)
 g_MOST_SURE:Gn K "MOST_SURE" (.int 64 481)
 g_MOST_ROWS:Gn K "MOST_ROWS" (.int 40 483)
 g_MOST_PLACE:Gn K "MOST_PLACE" (.int 63 485)
 o_a16:K.lookup 225=b3 (tS [("row",487),("row",488)])
 g_DEED_PARTS:Gn K "DEED_PARTS" (.ref 225)
 o_a24:K.lookup 227=b3 (tS [("word",491)])
 o_a28:K.lookup 228=b3 (tS [("row",493),("row",494),("row",495)])
 o_a30:K.lookup 229=b3 (tS [("place",497)])
 o_a34:K.lookup 230=b3 (tS [("place",499),("row",500),("row",501)])
 o_a37:K.lookup 231=b3 (tS [("place",503),("row",504)])
 o_a41:K.lookup 232=b3 (tS [("place",506),("row",507),("row",508)])
 o_a42:K.lookup 226=b3 ⟨.type "dict",b4,.dict #[⟨Ez w.params "number",.str "number" 490,.ref 227⟩,⟨Ez w.params "pick",.str "pick" 492,.ref 228⟩,⟨Ez w.params "load",.str "load" 496,.ref 229⟩,⟨Ez w.params "take",.str "take" 498,.ref 230⟩,⟨Ez w.params "store",.str "store" 502,.ref 231⟩,⟨Ez w.params "put",.str "put" 505,.ref 232⟩] 6,#[]⟩
 g_OTHER_PARTS:Gn K "OTHER_PARTS" (.ref 226)
 o_a51:K.lookup 234=b3 (tS [("store",519),("put",520)])
 g_WRITERS:Gn K "WRITERS" (.ref 234)
 g_LEAST_LANES:Gn K "LEAST_LANES" (.int 2 639)
 g_MOST_LANES:Gn K "MOST_LANES" (.int 4 641)
 g_MOST_PROGRAM_ROWS:Gn K "MOST_PROGRAM_ROWS" (.int 400 652)
 g_Nothing:Gn K "Nothing" (.ref 214)
 g_NotValid:Gn K "NotValid" (.ref 202)
 g_TooLong:Gn K "TooLong" (.ref 183)
 g_TooMany:Gn K "TooMany" (.ref 171)
 g_NoName:Gn K "NoName" (.ref 159)
 g_NoText:Gn K "NoText" (.ref 140)
 g_NoLoop:Gn K "NoLoop" (.ref 128)
 g_NoTree:Gn K "NoTree" (.ref 116)
 g_NoProgram:Gn K "NoProgram" (.ref 104)
 g_NoPlan:Gn K "NoPlan" (.ref 92)
 g_NoLanes:Gn K "NoLanes" (.ref 80)
 g_NoRow:Gn K "NoRow" (.ref 68)
 g_NoCells:Gn K "NoCells" (.ref 49)
 g_NoBlock:Gn K "NoBlock" (.ref 37)
 xc_NoBlock:XE K "NoBlock" 37
 xc_NoProgram:XE K "NoProgram" 104
 xc_NoRow:XZ K "NoRow" "row" 68
 xq_NoRow:xqOk K LW "NoRow" 68=b8
 xk:xiOk K LW SA=b8
 p_x50:A4 K "law" (top 91) 593
section
open PySem.Spec PyProof.Rows
def VO(P:Be){w:Ul}{K:Aj}{mg:Ug->Option Uc}(base:Um){x:Ug}{st:Up}{f:Ud}(N ps:List Ug)(k:Nat)(g:VS)(ml:List Nat)(T:Txt w K mg)(p:A4 K x st f)(h:∀{a:Uc}{A:Bx}{outer:List Env}{s:Ae}{H:Hp}{E:XK}(_:ZI N ps (bX st)) (j:X1 k (A.deeper (envOfC x (bX st) s.heap.objs.size f a))) (_:(A.deeper (envOfC x (bX st) s.heap.objs.size f a)).units+64<cLine) (_:(A.deeper (envOfC x (bX st) s.heap.objs.size f a)).units+1<cLine),V6 (RK CX0 P w K mg base N x (bX st) f a A outer s H E).nox (aC st) (U7 K ml g))(S:ZI N ps (bX st):=by exact CT)(c:ps.length<=N.length:=by decide)(e:∀{kV doc d:Uc}{i:Option Ud}{a ct:Uc}(b:List Uc),b.length=ps.length->bindArgs (Je x x (YT st) (aC st) (bX st) .none kV doc d i a ct) ⟨b,[]⟩=pure (ps.zip b):=by first|exact Len1 λ_=>rfl|exact Len2 λ_ _=>rfl|exact Len3 λ_ _ _=>rfl|exact Len4 λ_ _ _ _=>rfl|exact Len5 λ_ _ _ _ _=>rfl|exact Len6 λ_ _ _ _ _ _=>rfl):ZC P w K mg base x (k+1) ps ml (Z3 N.length ml g) f:=
 mkDg T.fnm p (λF=>okWg P w K mg base N ps k g ml F S h c) e
end
section
variable{P:Be}{w:Ul}{K:Aj}{mg:Ug->Option Uc}{base:Um}(T:Txt w K mg)
include T
def vI{x:Ug}{i:Int}{t:Nat}(g:Gn K x (.int i t)):∃u v,mg x=b3 u/\aG v u/\∀N H M,aD K N H M v (.int i):=⟨_,.int i,T.fni _ _ _ g,⟨_,rfl⟩,λ_ _ _=>.int _⟩
omit T in
def rS{N:Ud->Prop}{H:Hp}{M:Ud->Prop}{a:Ud}{xs:List (Ug×Nat)}(o:K.lookup a=b3 (tS xs))(hl:xs.length<=9:=by decide):aD K N H M (.ref a) (.tup (xs.map λz=>.str z.1)):=by
 refine .tup (xs:=xs.map λz=>.str z.1) (.inr ⟨_,_,_,o,rfl,rfl,by show(xs.map _).length<=_;rw[Ci];exact Dj hl (by decide),?_⟩) ?_
 ·show aK _ (xs.map λz => Mi z.1 z.2)
  clear o hl;induction xs with
  |nil=>exact .nil
  |cons z zs b=>exact .cons ⟨_,rfl⟩ b
 ·clear o hl
  induction xs with
  |nil=>exact .nil
  |cons z zs b=>exact .cons (.str _) b
def vS{x:Ug}{a:Ud}{xs:List (Ug×Nat)}(g:Gn K x (.ref a))(o:K.lookup a=b3 (tS xs))(hl:xs.length<=9:=by decide):∃u v,mg x=b3 u/\aG v u/\∀N H M,aD K N H M v (.tup (xs.map λz=>.str z.1)):=⟨_,.ref a,T.fnm _ _ g,rfl,λ_ _ _=>rS o hl⟩
def vF{x:Ug}{a:Ud}(g:Gn K x (.ref a)):∃u v,mg x=b3 u/\aG v u/\∀N H M,aD K N H M v (.fn x):=⟨_,.ref a,T.fnm _ _ g,rfl,λ_ _ _=>.fn g⟩
def vX{x:Ug}{C:Ud}(h:XE K x C):∃C,XE K x C/\mg x=b3 (.ref C):=⟨_,h,T.fnm _ _ h.xc.at_⟩
def vZ{x n:Ug}{C:Ud}(h:XZ K x n C):∃C,XZ K x n C/\mg x=b3 (.ref C):=⟨_,h,T.fnm _ _ h.xc.at_⟩
def J7:∃u v,mg "OTHER_PARTS"=b3 u/\aG v u/\∀N H M,aD K N H M v QK:=
 ⟨_,.ref 226,T.fnm _ _ T.g_OTHER_PARTS,rfl,λ_ _ _=>(.ktb (D:=[("number",.ref 227),("pick",.ref 228),("load",.ref 229),("take",.ref 230),("store",.ref 231),("put",.ref 232)]) ⟨(by decide),_,_,_,T.o_a42,⟨rfl,rfl,rfl⟩,rfl,(.cons rfl rfl (.cons rfl rfl (.cons rfl rfl (.cons rfl rfl (.cons rfl rfl (.cons rfl rfl .nil))))))⟩ (.cons (rS T.o_a24) (.cons (rS T.o_a28) (.cons (rS T.o_a30) (.cons (rS T.o_a34) (.cons (rS T.o_a37) (.cons (rS T.o_a41) .nil)))))))⟩
def xi:XI K LW SA:=XI.of (Jh.mpr ⟨⟨_,T.xc_NoBlock.xc⟩,Jh.mpr ⟨⟨_,T.xc_NoProgram.xc⟩,Jh.mpr ⟨⟨_,T.xc_NoRow.xc⟩,nofun⟩⟩⟩) T.xk
noncomputable abbrev Nx0:List Ug:=["thing","low","high"]
abbrev Nx1:List Ug:=["deed"]
abbrev Nx2:List Ug:=["row"]
abbrev Nx4:List Ug:=["thing","able"]
abbrev Nx5:List Ug:=["part","thing","able"]
noncomputable abbrev Nx6:List Ug:=["thing","able","deed","rest","parts"]
noncomputable abbrev Nx7:List Ug:=["thing","sure","rows","able","row"]
abbrev Qx7:List Ug:=["thing"]
noncomputable abbrev Nx8:List Ug:=["block","first","second","rows","first_faults","second_faults"]
abbrev Qx8:List Ug:=["block","first","second"]
noncomputable abbrev Nx9:List Ug:=["block","many","pairs"]
abbrev Qx9:List Ug:=["block"]
abbrev Nx11:List Ug:=["thing","lanes"]
abbrev F5:List Ug:=["rest","lanes","packs"]
abbrev Nx13:List Ug:=["rest","lanes","words"]
noncomputable abbrev Nx16:List Ug:=["thing","lanes","words","packs","deed","rest"]
abbrev Qx16:List Ug:=["thing","lanes","words","packs"]
noncomputable abbrev Nx18:List Ug:=["rows","lanes","words","packs","row","kind"]
abbrev Qx18:List Ug:=["rows","lanes"]
abbrev Nx19:List Ug:=["thing","lanes","sure","rows"]
noncomputable abbrev Nx20:List Ug:=["program","row","lane","lanes","sure","rows","kind"]
abbrev SH:List Ug:=["program","row","lane"]
noncomputable abbrev Nx21:List Ug:=["row","lane","lanes","at"]
abbrev Qx21:List Ug:=["row","lane","lanes"]
noncomputable abbrev Nx22:List Ug:=["program","row","lane","lanes","sure","rows","source"]
noncomputable abbrev Nx24:List Ug:=["program","thing","lanes","sure","rows","row","lane"]
abbrev Qx24:List Ug:=["program","thing"]
noncomputable abbrev Nx25:List Ug:=["block","program","thing","row","entry","good","there"]
abbrev D5:List Ug:=["block","program","thing"]
noncomputable abbrev Nx27:List Ug:=["block","program","sheet","at","row","where","lane","there","place","found"]
abbrev Qx27:List Ug:=["block","program","sheet","at"]
noncomputable abbrev Nx28:List Ug:=["program","lanes","sure","rows","found","at","row","there","places"]
abbrev Qx28:List Ug:=["program"]
abbrev Nx30:List Ug:=["entry","other"]
abbrev Nx29:List Ug:=["block","sheet","first","second"]
abbrev Qx29:List Ug:=["block","sheet"]
abbrev Nx31:List Ug:=["block","program","thing","rows"]
noncomputable abbrev Nx32:List Ug:=["_law_script","_law_k","_law_rest","_law_again"]
abbrev Qx32:List Ug:=["_law_script","_law_k"]
noncomputable abbrev Nx33:List Ug:=["_law_script","_law_k","_law_bound","_law_drawn"]
abbrev Qx33:List Ug:=["_law_script","_law_k","_law_bound"]
abbrev Nx34:List Ug:=["_law_script","_law_town","_law_bound"]
abbrev Nx35:List Ug:=["_law_script","_law_town","_law_some"]
noncomputable abbrev Nx36:List Ug:=["_law_script","_law_town","_law_seen","_law_deed","_law_room"]
noncomputable abbrev Nx37:List Ug:=["_law_script","_law_town","_law_made","_law_seen","_law_room","_law_kind","_law_a","_law_b","_law_c"]
abbrev Qx37:List Ug:=["_law_script","_law_town","_law_made","_law_seen","_law_room"]
noncomputable abbrev Nx39:List Ug:=["_law_script","_law_town","_law_rows_here","_law_made","_law_seen","_law_room","_law_last","_law_first","_law_names_here","_law_name","_law_at"]
abbrev Qx39:List Ug:=["_law_script","_law_town","_law_rows_here","_law_made","_law_seen","_law_room"]
noncomputable abbrev Nx38:List Ug:=["_law_script","_law_town","_law_many","_law_room","_law_rows_here","_law_made","_law_seen","_law_again"]
abbrev Qx38:List Ug:=["_law_script","_law_town","_law_many","_law_room"]
abbrev Nx41:List Ug:=["_law_row_here"]
noncomputable abbrev Nx42:List Ug:=["_law_block_here","_law_row_here","_law_here"]
abbrev Qx42:List Ug:=["_law_block_here","_law_row_here"]
noncomputable abbrev Nx43:List Ug:=["_law_block_here","_law_made","_law_cells","_law_two","_law_there","_law_one","_law_here","_law_writes","_law_reasons"]
abbrev Qx43:List Ug:=["_law_block_here"]
noncomputable abbrev Nx46:List Ug:=["_law_script","_law_town","_law_block_here","_law_pairs","_law_left","_law_made","_law_ready"]
abbrev Qx46:List Ug:=["_law_script","_law_town","_law_block_here"]
abbrev Nx47:List Ug:=["_law_row_here","_law_names_here","_law_first"]
abbrev Qx47:List Ug:=["_law_row_here","_law_names_here"]
noncomputable abbrev Nx40:List Ug:=["_law_script","_law_town","_law_most","_law_room","_law_sure","_law_block_here","_law_order_there","_law_names_here"]
abbrev Qx40:List Ug:=["_law_script","_law_town","_law_most"]
abbrev Nx44:List Ug:=["_law_e","_law_own"]
abbrev Qx44:List Ug:=["_law_e"]
abbrev Qx45:List Ug:=["_law_script","_law_town"]
noncomputable abbrev Nx48:List Ug:=["_law_script","_law_town","_law_most","_law_broad","_law_room","_law_rows_here","_law_words","_law_wides","_law_again","_law_kind","_law_here","_law_picks","_law_row_here","_law_inner"]
noncomputable abbrev Nx49:List Ug:=["_law_what","_law_one","_law_two","_law_three","_law_e"]
abbrev Qx49:List Ug:=["_law_what","_law_one","_law_two","_law_three"]
noncomputable abbrev Nx50:List Ug:=["_law_script","_law_town","_law_block_here","_law_program_here","_law_odd","_law_many","_law_silent","_law_number","_law_row_here","_law_inner","_law_wrong","_law_lane","_law_thing"]
abbrev Qx50:List Ug:=["_law_script"]
def NA:ZC P w K mg base "is_whole" 1 Nx0 [] a9 224:=
 VO P base Nx0 Nx0 0 P0 [] T T.p_x0 λsc c b a=>by
  refine cA ?_ ?_
  ·exact(bC (WD (XV (aP (PJ T.n_isinstance (vv 0) (DW T.n_bool ko))) (YK (aB (aP (PJ T.n_isinstance (vv 0) (DW T.n_int dN)))))))
   (b7 (bU Z0))
   bQ)
  exact b7 (bU (nk Vi Vi s_le s_le (vv 1) (vv 0) (vv 2)))
def D_x1:ZC P w K mg base "parts_of" 1 Nx1 [] YH 241:=
 VO P base Nx1 Nx1 0 KY [] T T.p_x1 λsc c b a=>by
  refine cA ?_ ?_
  ·exact (bC (a8 (TQ b) (YA (neg := ba)) (vv 0) (aM (by rfl) (vS T T.g_DEEDS T.o_a10)) (by with_unfolding_all rfl))
   (b7 (bU (aM (by rfl) (vS T T.g_DEED_PARTS T.o_a16))))
   bQ)
  exact b7 (bU (nH rfl a (aM (by rfl) (J7 T)) (vv 0) ⟨rfl,rfl,rfl,rfl⟩))
def D_x2:ZC P w K mg base "makes_word" 1 Nx2 [] X0 248:=
 VO P base Nx2 Nx2 0 TM [] T T.p_x2 λsc c b a=>by exact(b7 (bU (XM (OT b) (YA (neg:=b8)) (ZV a (vv 0) cE) (aM (by rfl) (vS T T.g_WRITERS T.o_a51)) (by with_unfolding_all rfl))))
def D_x3:ZC P w K mg base "place_of" 1 Nx2 [] KC 255:=
 VO P base Nx2 Nx2 0 KZ [] T T.p_x3 λsc c b a=>by exact VR
def D_x4:ZC P w K mg base "may_name" 2 Nx4 [] YG 267:=
 VO P base Nx4 Nx4 1 P7 [] T T.p_x4 λsc b c a=>by exact(b7 (bU (XX (bJ (NA T) b (b9 (vv 0) (b9 cE (b9 (b5 (YB WR UJ (YJ T.n_len (vv 1)) cE)) b6)))) (WT (ZV a (vv 1) (vv 0))))))
def D_x5:ZC P w K mg base "fits" 3 Nx5 [] RF 274:=
 VO P base Nx5 Nx5 2 KS [] T T.p_x5 λsc a b c=>by
  refine cA ?_ ?_
  ·exact(bC (YX b (vv 0) bV)
   (b7 (bU (bJ (NA T) a (b9 (vv 1) (b9 cE (b9 (b5 (aM (by rfl) (vI T T.g_MOST_WORD))) b6))))))
   bQ)
  refine cA ?_ ?_
  ·exact(bC (YX b (vv 0) bV)
   (b7 (bU (bJ (NA T) a (b9 (vv 1) (b9 cE (b9 (b5 (aM (by rfl) (vI T T.g_MOST_PLACE))) b6))))))
   bQ)
  exact b7 (bU (bJ (D_x4 T) a (b9 (vv 1) (b9 (vv 2) b6))))
def D_x6:ZC P w K mg base "is_row" 4 Nx4 [] T5 279:=
 VO P base Nx6 Nx4 3 KW [] T T.p_x6 λsc b a d=>by
  refine cA ?_ ?_
  ·exact(bC (WD (XV (aB (aP (PJ T.n_isinstance (vv 0) (DW T.n_tuple ZL)))) (YK (YX a (YJ T.n_len (vv 0)) cE))))
   (b7 (bU Z0))
   bQ)
  refine cA ?_ ?_
  ·exact(Zm (i:=2) (j:=3) rfl rfl sc.nd rfl rfl (by decide) (Ey rfl) (Ey rfl) (vv 0))
  refine cA ?_ ?_
  ·exact(aN sc.nd (Z9 (b5 (VM (aP (PJ T.n_isinstance (vv 2) (DW T.n_str CD))) (bJ (D_x1 T) b (b9 (vv 2) b6)) ZU))))
  refine cA ?_ ?_
  ·exact(bC (WD (XV (a8 G8 BP (vv 4) ZU) (YK (a8 (UF a) UI (YJ T.n_len (vv 4)) (YJ T.n_len (vv 3))))))
   (b7 (bU Z0))
   bQ)
  exact b7 (bU (LP (kAll rfl) JL (by rfl) T.n_all NE (bF (ZM ["able","part","given"] [1] 2 (Wz rfl (by rfl) T.n_zip (vv 4) (vv 3)) (λc _ _ _ _=>⟨(YR (K:=K) rfl rfl (bL (bT c) (bL (bT c) ZJ))),X8,(b5 (bJ (D_x5 T) b (b9 (vv 1) (b9 (vv 2) (b9 (vv 0) b6)))))⟩)))))
def D_x7:ZC P w K mg base "is_block" 5 Qx7 [] X4 286:=
 VO P base Nx7 Qx7 4 PY [] T T.p_x7 λsc a c b=>by
  refine cA ?_ ?_
  ·exact(bC (WD (XV (aB (aP (PJ T.n_isinstance (vv 0) (DW T.n_tuple ZL)))) (YK (a8 (UF c) UI (YJ T.n_len (vv 0)) cE))))
   (b7 (bU Z0))
   bQ)
  refine cA ?_ ?_
  ·exact(T3 (vv 0) (YR (K:=K) rfl rfl (bL (bT sc.nd) (bL (bT sc.nd) ZJ))))
  refine cA ?_ ?_
  ·exact (bC (aB (aP (bJ (NA T) a (b9 (vv 1) (b9 cE (b9 (b5 (aM (by rfl) (vI T T.g_MOST_SURE))) b6))))))
   (b7 (bU Z0))
   bQ)
  refine cA ?_ ?_
  ·exact (bC (WD (XV (aB (aP (PJ T.n_isinstance (vv 2) (DW T.n_tuple ZL)))) (YK (a8 Vn s_gt (YJ T.n_len (vv 2)) (aM (by rfl) (vI T T.g_MOST_ROWS))))))
   (b7 (bU Z0))
   bQ)
  refine cA ?_ ?_
  ·exact(aN sc.nd (WV (aS (bS bY))))
  refine cA ?_ ?_
  ·exact(XO Ce rfl (YI rfl (vv 2)) (bT sc.nd)
   (cA (bC (aB (aP (bJ (D_x6 T) a (b9 (vv 4) (aV (pv 3) b6)))))
   (b7 (bU Z0))
   bQ)
   (b7 (ZW Au Av aQ ZA (pv 3) (bS (cG (bJ (D_x2 T) a (b9 (vv 4) b6)) bY))))))
  exact b7 (bU Z0)
def D_x8:ZC P w K mg base "must_stay" 1 Qx8 [] MR 321:=
 VO P base Nx8 Qx8 0 M0 [] T T.p_x8 λsc c b a=>by exact VR
def D_x9:ZC P w K mg base "must_pairs" 2 Qx9 [] N7 326:=
 VO P base Nx9 Qx9 1 OP [] T T.p_x9 λsc c d a=>by
  refine cA ?_ ?_
  ·exact(aN sc.nd (Z9 (b5 (YJ T.n_len (ZV a (vv 0) cE)))))
  refine cA ?_ ?_
  ·exact(vs_setC0 ["many","first","second"] [1] ba sc.nd (W9 (by rfl) T.n_range (vv 1)))
  exact b7 (bU (bF (ZM ["block","first","second"] [0] 2 (YI rfl (vv 2)) (λb _ _ _ _=>⟨(YR (K:=K) rfl rfl (bL (bT b) (bL (bT b) ZJ))),(N3 (aP (bJ (D_x8 T) c (b9 (vv 0) (b9 (vv 1) (b9 (vv 2) b6)))))),(b5 (bI (cG (vv 1) (cG (vv 2) bY))))⟩))))
def eG:ZC P w K mg base "is_lanes" 2 Qx7 [] SV 333:=
 VO P base Qx7 Qx7 1 PZ [] T T.p_x10 λsc b c a=>by exact(b7 (bU (bJ (NA T) b (b9 (vv 0) (b9 (b5 (aM (by rfl) (vI T T.g_LEAST_LANES))) (b9 (b5 (aM (by rfl) (vI T T.g_MOST_LANES))) b6))))))
def Vo:ZC P w K mg base "is_for_lanes" 1 Nx11 [] YM 340:=
 VO P base Nx11 Nx11 0 VE [] T T.p_x11 λsc c b a=>by exact(b7 (bU (XX (PJ T.n_isinstance (vv 0) (DW T.n_tuple ZL)) (WT (veq b (YJ T.n_len (vv 0)) (vv 1))))))
def mX:ZC P w K mg base "is_wide" 5 F5 [] VN 345:=
 VO P base F5 F5 4 Q4 [] T T.p_x12 λsc b c a=>by
  refine cA ?_ ?_
  ·exact(bC (WD (QF (YX c (YJ T.n_len (vv 0)) cE) (QF (aP (PJ T.n_isinstance (ZV a (vv 0) cE) (DW T.n_str CD))) (RD (YX c (ZV a (vv 0) cE) bV)))))
   (b7 (bU (XX (bJ (Vo T) b (b9 (b5 (ZV a (vv 0) cE)) (b9 (vv 1) b6))) (WT (LP (kAll rfl) JL (by rfl) T.n_all NE (bF (ZM ["word"] [] 1 (YI rfl (b5 (ZV a (vv 0) cE))) (λd _ _ _ _=>⟨(bT d),X8,(b5 (bJ (NA T) b (b9 (vv 0) (b9 cE (b9 (b5 (aM (by rfl) (vI T T.g_MOST_WORD))) b6)))))⟩))))))))
   bQ)
  exact b7 (bU (bJ (D_x6 T) b (b9 (vv 0) (b9 (vv 2) b6))))
def nj:ZC P w K mg base "is_gather" 3 Nx13 [] UV 350:=
 VO P base Nx13 Nx13 2 RL [] T T.p_x13 λsc b c a=>by
  refine cA ?_ ?_
  ·exact(bC (WD (XV (a8 (UF c) UI (YJ T.n_len (vv 0)) cE) (YK (aB (aP (bJ (Vo T) b (b9 (b5 (ZV a (vv 0) cE)) (b9 (vv 1) b6))))))))
   (b7 (bU Z0))
   bQ)
  exact b7 (bU (LP (kAll rfl) JL (by rfl) T.n_all NE (bF (ZM ["words","row"] [2] 1 (YI rfl (b5 (ZV a (vv 0) cE))) (λd _ _ _ _=>⟨(bT d),X8,(b5 (bJ (D_x4 T) b (b9 (vv 1) (b9 (vv 0) b6))))⟩)))))
def iZ:ZC P w K mg base "is_shuffle" 3 F5 [] VT 355:=
 VO P base F5 F5 2 TK [] T T.p_x14 λsc b c a=>by
  refine cA ?_ ?_
  ·exact(bC (WD (XV (a8 (UF c) UI (YJ T.n_len (vv 0)) cE) (XV (aB (aP (bJ (D_x4 T) b (b9 (b5 (ZV a (vv 0) cE)) (b9 (vv 2) b6))))) (YK (aB (aP (bJ (D_x4 T) b (b9 (b5 (ZV a (vv 0) cE)) (b9 (vv 2) b6)))))))))
   (b7 (bU Z0))
   bQ)
  exact b7 (bU (XX (bJ (Vo T) b (b9 (b5 (ZV a (vv 0) cE)) (b9 (vv 1) b6))) (WT (LP (kAll rfl) JL (by rfl) T.n_all NE (bF (ZM ["lanes","at"] [1] 1 (YI rfl (b5 (ZV a (vv 0) cE))) (λd _ _ _ _=>⟨(bT d),X8,(b5 (bJ (NA T) b (b9 (vv 1) (b9 cE (b9 (b5 (YB WR UJ (Z4 NQ Q0 cE (vv 0)) cE)) b6)))))⟩)))))))
def fE:ZC P w K mg base "is_lane" 3 F5 [] QW 362:=
 VO P base F5 F5 2 NI [] T T.p_x15 λsc b c a=>by exact(b7 (bU (XX (veq c (YJ T.n_len (vv 0)) cE) (XX (bJ (D_x4 T) b (b9 (b5 (ZV a (vv 0) cE)) (b9 (vv 2) b6))) (WT (bJ (NA T) b (b9 (b5 (ZV a (vv 0) cE)) (b9 cE (b9 (b5 (YB WR UJ (vv 1) cE)) b6)))))))))
def eU:ZC P w K mg base "is_program_row" 6 Qx16 [] XY 369:=
 VO P base Nx16 Qx16 5 WO [] T T.p_x16 λsc c b a=>by
  refine cA ?_ ?_
  ·exact(bC (WD (XV (aB (aP (PJ T.n_isinstance (vv 0) (DW T.n_tuple ZL)))) (XV (YX b (YJ T.n_len (vv 0)) cE) (YK (aB (aP (PJ T.n_isinstance (ZV a (vv 0) cE) (DW T.n_str CD))))))))
   (b7 (bU Z0))
   bQ)
  refine cA ?_ ?_
  ·exact(RB (i:=4) (j:=5) rfl sc.nd rfl rfl (by decide) rfl rfl (Z9 (b5 (ZV a (vv 0) cE))) (Z9 (b5 (SR rfl (vv 0) (SU cE) SS))) rfl)
  refine cA ?_ ?_
  ·exact(bC (YX b (vv 4) bV)
   (b7 (bU (bJ (mX T) c (b9 (vv 5) (b9 (vv 1) (b9 (vv 3) b6))))))
   bQ)
  refine cA ?_ ?_
  ·exact(bC (YX b (vv 4) bV)
   (b7 (bU (bJ (nj T) c (b9 (vv 5) (b9 (vv 1) (b9 (vv 2) b6))))))
   bQ)
  refine cA ?_ ?_
  ·exact(bC (YX b (vv 4) bV)
   (b7 (bU (bJ (iZ T) c (b9 (vv 5) (b9 (vv 1) (b9 (vv 3) b6))))))
   bQ)
  refine cA ?_ ?_
  ·exact(bC (YX b (vv 4) bV)
   (b7 (bU (bJ (fE T) c (b9 (vv 5) (b9 (vv 1) (b9 (vv 3) b6))))))
   bQ)
  exact b7 (bU (bJ (D_x6 T) c (b9 (vv 0) (b9 (vv 2) b6))))
def Yi:ZC P w K mg base "kind_made" 2 Nx2 [] X5 376:=
 VO P base Nx2 Nx2 1 MX [] T T.p_x17 λsc c b a=>by
  refine cA ?_ ?_
  ·exact(bC (YX b (ZV a (vv 0) cE) bV)
   (b7 (bU (VM (aP (bJ (D_x2 T) c (b9 (b5 (SR rfl (vv 0) (SU cE) SS)) b6))) bV ZU)))
   bQ)
  refine cA ?_ ?_
  ·exact (bC (a8 (TQ b) (YA (neg := ba)) (ZV a (vv 0) cE) (bI (cG bV (cG bV bY))) (by with_unfolding_all rfl))
   (b7 (bU bV))
   bQ)
  exact b7 (bU (VM (aP (bJ (D_x2 T) c (b9 (vv 0) b6))) bV ZU))
def oB:ZC P w K mg base "are_program_rows" 7 Qx18 [] YF 383:=
 VO P base Nx18 Qx18 6 XJ [] T T.p_x18 λsc b a c=>by
  refine cA ?_ ?_
  ·exact(RB (i:=2) (j:=3) rfl sc.nd rfl rfl (by decide) rfl rfl (WV (aS (bS bY))) (WV (aS (bS bY))) rfl)
  refine cA ?_ ?_
  ·exact(XO Ce rfl (YI rfl (vv 0)) (bT sc.nd)
   (cA (bC (aB (aP (bJ (eU T) b (b9 (vv 4) (b9 (vv 1) (aV (pv 2) (aV (pv 3) b6)))))))
   (b7 (bU Z0))
   bQ)
   (cA (aN sc.nd (Z9 (b5 (bJ (Yi T) b (b9 (vv 4) b6)))))
   (cA (ZW Au Av aQ ZA (pv 2) (bS (cG (veq a (vv 5) bV) bY)))
   (b7 (ZW Au Av aQ ZA (pv 3) (bS (cG (veq a (vv 5) bV) bY))))))))
  exact b7 (bU Z0)
def D2:ZC P w K mg base "is_program" 8 Qx7 [] aT 390:=
 VO P base Nx19 Qx7 7 TJ [] T T.p_x19 λsc a c b=>by
  refine cA ?_ ?_
  ·exact(bC (WD (XV (aB (aP (PJ T.n_isinstance (vv 0) (DW T.n_tuple ZL)))) (YK (a8 (UF c) UI (YJ T.n_len (vv 0)) cE))))
   (b7 (bU Z0))
   bQ)
  refine cA ?_ ?_
  ·exact(T3 (vv 0) (YR (K:=K) rfl rfl (bL (bT sc.nd) (bL (bT sc.nd) (bL (bT sc.nd) ZJ)))))
  refine cA ?_ ?_
  ·exact (bC (WD (XV (aB (aP (bJ (eG T) a (b9 (vv 1) b6)))) (YK (aB (aP (bJ (NA T) a (b9 (vv 2) (b9 cE (b9 (b5 (aM (by rfl) (vI T T.g_MOST_SURE))) b6)))))))))
   (b7 (bU Z0))
   bQ)
  refine cA ?_ ?_
  ·exact (bC (WD (XV (aB (aP (PJ T.n_isinstance (vv 3) (DW T.n_tuple ZL)))) (YK (a8 Vn s_gt (YJ T.n_len (vv 3)) (aM (by rfl) (vI T T.g_MOST_PROGRAM_ROWS))))))
   (b7 (bU Z0))
   bQ)
  exact b7 (bU (bJ (oB T) a (b9 (vv 3) (b9 (vv 1) b6))))
def Xi:ZC P w K mg base "has_word" 3 SH [] aA 397:=
 VO P base Nx20 SH 2 WN [] T T.p_x20 λsc b c a=>by
  refine cA ?_ ?_
  ·exact(T3 (vv 0) (YR (K:=K) rfl rfl (bL (bT sc.nd) (bL (bT sc.nd) (bL (bT sc.nd) ZJ)))))
  refine cA ?_ ?_
  ·exact(bC (aB (aP (bJ (NA T) b (b9 (vv 1) (b9 cE (b9 (b5 (YB WR UJ (YJ T.n_len (vv 5)) cE)) b6))))))
   (b7 (bU Z0))
   bQ)
  refine cA ?_ ?_
  ·exact(aN sc.nd (Z9 (b5 (bJ (Yi T) b (b9 (b5 (ZV a (vv 5) (vv 1))) b6)))))
  refine cA ?_ ?_
  ·exact(bC (YX c (vv 6) bV)
   (b7 (bU (bJ (NA T) b (b9 (vv 2) (b9 cE (b9 (b5 (YB WR UJ (vv 3) cE)) b6))))))
   bQ)
  exact b7 (bU (XX (veq c (vv 6) bV) (WT (XM G8 BP (vv 2) ZU))))
def fW:ZC P w K mg base "taken_from" 1 Qx21 [] SY 404:=
 VO P base Nx21 Qx21 0 OQ [] T T.p_x21 λsc c b a=>by
  refine cA ?_ ?_
  ·exact(bC (YX b (ZV a (vv 0) cE) bV)
   (b7 (bU (bI (cG (ZV a (vv 0) cE) (cG (ZV a (vv 0) cE) bY)))))
   bQ)
  refine cA ?_ ?_
  ·exact(bC (YX b (ZV a (vv 0) cE) bV)
   (b7 (bU (bI (cG (ZV a (ZV a (vv 0) cE) (vv 1)) (cG ZU bY)))))
   bQ)
  refine cA ?_ ?_
  ·exact(bC (YX b (ZV a (vv 0) cE) bV)
   (cA (aN sc.nd (Z9 (b5 (ZV a (ZV a (vv 0) cE) (vv 1)))))
   (b7 (bU (VM (a8 FC s_lt (vv 3) (vv 2)) (bI (cG (ZV a (vv 0) cE) (cG (vv 3) bY))) (bI (cG (ZV a (vv 0) cE) (cG (YB WR UJ (vv 3) (vv 2)) bY)))))))
   bQ)
  exact b7 (bU ZU)
def jI:ZC P w K mg base "trace" 2 SH [] N8 411:=
 VO P base Nx22 SH 1 GU [] T T.p_x22 λsc c b a=>by
  refine cA ?_ ?_
  ·exact(T3 (vv 0) (YR (K:=K) rfl rfl (bL (bT sc.nd) (bL (bT sc.nd) (bL (bT sc.nd) ZJ)))))
  refine cA ?_ ?_
  ·exact(aN sc.nd (Z9 (b5 (bI (cG (vv 1) (cG (vv 2) bY))))))
  refine cA ?_ ?_
  ·exact(LS Ce (a8 OX LJ (vv 6) ZU)
   (cA (T3 (vv 6) (YR (K:=K) rfl rfl (bL (bT sc.nd) (bL (bT sc.nd) ZJ))))
   (b7 (aN sc.nd (Z9 (b5 (bJ (fW T) c (b9 (b5 (ZV a (vv 5) (vv 1))) (b9 (vv 2) (b9 (vv 3) b6))))))))))
  refine cA ?_ ?_
  ·exact(bC (YX b (ZV a (ZV a (vv 5) (vv 1)) cE) bV)
   (b7 (bU (bI (cG bV (cG (ZV a (ZV a (vv 5) (vv 1)) cE) bY)))))
   bQ)
  exact VR
omit T in
def ou:ZI SH SH (bX (top 62)):=CT
def mZ{d f:Ud}{fd:Cr}(F:N9 K "traced" "traced" (top 62) (.ref d) f fd):U4 P w K mg base CX0 9 f fd SH (spV K [] 3 WY):=
 N9.okV (P:=P) (w:=w) (mg:=mg) (base:=base) (K:=K) (N:=SH) (ps:=SH) (k:=8) (g:=RO) (ml:=[]) F ou (by decide) λc A outer s H E a=>by
  have e:=a.units;have b:=Vm a;refine cA ?_ ?_
  ·exact(bC (aB (aP (bJ (D2 T) a (b9 (vv 0) b6))))
   (b7 UL)
   bQ)
  refine cA ?_ ?_
  ·exact(bC (aB (aP (bJ (Xi T) a (b9 (vv 0) (b9 (vv 1) (b9 (vv 2) b6))))))
   (b7 UL)
   bQ)
  exact b7 (bU (bJ (jI T) a (b9 (vv 0) (b9 (vv 1) (b9 (vv 2) b6)))))
def jx:ZC P w K mg base "traced" 9 SH [] WY 419:=
 ⟨T.fnm _ _ T.a_x23,⟨_,mZ T (L9 (st:=top 62) T.l_x23 T.c_x23 T.k_x23),(L9 (st:=top 62) T.l_x23 T.c_x23 T.k_x23).binds (ps:=SH) (ds:=[]) (m:=3) T.o_a1 rfl λ_ _ _ _ _ _ a hl=>match a,hl with|[_,_,_],_=>⟨_,rfl,rfl⟩⟩,T.k_x23⟩
omit T in
def gH:ZI SH SH (bX (top 62)):=CT
def cU{c:Uc}{f:Ud}{fd:Cr}(F:N9 K "traced" "traced" (top 62) c f fd):U4 P w K mg base (CXv P w) 9 f fd SH (spX K 3 U9):=
 okZ P w K mg base SH SH 8 PM F gH λ_ _ _ _ _ _ a d b=>by
  exact(B6 (W6 (B5 (aB (aP (bJ (D2 T) a (b9 (vv 0) b6)))) (W6 (LU rfl HG rfl (by rfl) (vX T T.xc_NoProgram))) HM))
   (B7 (bC (aB (aP (bJ (D2 T) a (b9 (vv 0) b6))))
   (b7 UL)
   bQ)
   (W6 (B5 (aB (aP (bJ (Xi T) a (b9 (vv 0) (b9 (vv 1) (b9 (vv 2) b6)))))) (W6 (oM rfl cY rfl a (by rfl) (vZ T T.xc_NoRow) (λ_=>T.fnm _ _) (b9 (vv 1) b6))) HM))))
def Zh:DefX P w K mg base "traced" 9 SH U9 419:=
 ⟨T.fnm _ _ T.a_x23,⟨_,cU T (L9 (st:=top 62) T.l_x23 T.c_x23 T.k_x23),(L9 (st:=top 62) T.l_x23 T.c_x23 T.k_x23).binds (ps:=SH) (ds:=[]) (m:=3) T.o_a1 rfl λ_ _ _ _ _ _ a hl=>match a,hl with|[_,_,_],_=>⟨_,rfl,rfl⟩⟩,T.k_x23⟩
def km:ZC P w K mg base "is_entry" 2 Qx24 [] PP 426:=
 VO P base Nx24 Qx24 1 KU [] T T.p_x24 λsc c b a=>by
  refine cA ?_ ?_
  ·exact(T3 (vv 0) (YR (K:=K) rfl rfl (bL (bT sc.nd) (bL (bT sc.nd) (bL (bT sc.nd) ZJ)))))
  refine cA ?_ ?_
  ·exact(bC (WD (XV (aB (aP (PJ T.n_isinstance (vv 1) (DW T.n_tuple ZL)))) (YK (a8 (UF b) UI (YJ T.n_len (vv 1)) cE))))
   (b7 (bU Z0))
   bQ)
  refine cA ?_ ?_
  ·exact(T3 (vv 1) (YR (K:=K) rfl rfl (bL (bT sc.nd) (bL (bT sc.nd) ZJ))))
  refine cA ?_ ?_
  ·exact(bC (aB (aP (bJ (NA T) c (b9 (vv 5) (b9 cE (b9 (b5 (YB WR UJ (YJ T.n_len (vv 4)) cE)) b6))))))
   (b7 (bU Z0))
   bQ)
  exact b7 (bU (VM (YX b (ZV a (ZV a (vv 4) (vv 5)) cE) bV) (bJ (NA T) c (b9 (vv 6) (b9 cE (b9 (b5 (YB WR UJ (vv 2) cE)) b6)))) (XM G8 BP (vv 6) ZU)))
def lE:ZC P w K mg base "are_entries" 3 D5 [] YZ 431:=
 VO P base Nx25 D5 2 UO [] T T.p_x25 λsc c b a=>by
  refine cA ?_ ?_
  ·exact(bC (WD (XV (aB (aP (PJ T.n_isinstance (vv 2) (DW T.RW OI)))) (YK (a8 (UF b) UI (YJ T.n_len (vv 2)) (YJ T.n_len (ZV a (vv 0) cE))))))
   (b7 (bU Z0))
   bQ)
  refine cA ?_ ?_
  ·exact (XO Ce rfl (Wz rfl (by rfl) T.n_zip (b5 (ZV a (vv 0) cE)) (vv 2)) (YR (K := K) rfl rfl (bL (bT sc.nd) (bL (bT sc.nd) ZJ)))
   (cA (aN sc.nd (Z9 (b5 (VM (YX b (ZV a (vv 3) cE) bV) (XM G8 BP (vv 4) ZU) (bJ (km T) c (b9 (vv 1) (b9 (vv 4) b6)))))))
   (b7 (bC (aB (aP (vv 5)))
   (b7 (bU Z0))
   bQ))))
  refine cA ?_ ?_
  ·exact(LR ba sc.nd ["entry"] [] 1 (YI rfl (vv 2)) (λd _ _ _ _=>⟨(bT d),(N3 (a8 OX LJ (vv 0) ZU)),(vv 0)⟩))
  exact b7 (bU (veq b (ka T.n_len T.n_set (vv 6)) (YJ T.n_len (vv 6))))
def cN:ZC P w K mg base "deed_row" 1 Nx2 [] KB 438:=
 VO P base Nx2 Nx2 0 KR [] T T.p_x26 λsc c b a=>by exact VR
def kO:ZC P w K mg base "does_same" 1 Qx27 [] MP 443:=
 VO P base Nx27 Qx27 0 MV [] T T.p_x27 λsc c b a=>by exact VR
def gQ:ZC P w K mg base "doers" 2 Qx28 [] Wi 455:=
 VO P base Nx28 Qx28 1 AG [] T T.p_x28 λsc c b a=>by
  refine cA ?_ ?_
  ·exact(T3 (vv 0) (YR (K:=K) rfl rfl (bL (bT sc.nd) (bL (bT sc.nd) (bL (bT sc.nd) ZJ)))))
  refine cA ?_ ?_
  ·exact(aN sc.nd (WV (aS (bS bY))))
  refine cA ?_ ?_
  ·exact (XO Ce rfl (RA rfl (by rfl) T.n_enumerate (vv 3)) (YR (K := K) rfl rfl (bL (bT sc.nd) (bL (bT sc.nd) ZJ)))
   (cA (aN sc.nd (Z9 (b5 (bJ (cN T) c (b9 (vv 6) b6)))))
   (b7 (bC (WD (XV (YX b (ZV a (vv 7) cE) bV) (YK (a8 OX LJ (bJ (D_x3 T) c (b9 (vv 7) b6)) ZU))))
   (cA (aN sc.nd (Z9 (b5 (VM (YX b (ZV a (vv 6) cE) bV) (bF (JV rfl (by rfl) T.RW OI (by rfl) T.n_range EC (vv 1))) (bF (aS (bS (cG ZU bY))))))))
   (b7 (ZW Gd Ge (AM (K:=K) rfl) G0 (pv 4) (bS (cG (bF (ZM ["at","lane"] [5] 1 (YI rfl (vv 8)) (λd _ _ _ _=>⟨(bT d),X8,(b5 (bI (cG (vv 0) (cG (vv 1) bY))))⟩))) bY)))))
   bQ))))
  exact b7 (BZ (pv 4))
def dY:ZC P w K mg base "is_lesser" 1 Nx30 [] MQ 469:=
 VO P base Nx30 Nx30 0 MW [] T T.p_x30 λsc c b a=>by exact VR
def eK:ZC P w K mg base "keeps_order" 3 Qx29 [] QH 462:=
 VO P base Nx29 Qx29 2 QM [] T T.p_x29 λsc b c a=>by
  refine cA ?_ ?_
  ·exact(XO Ce rfl (YI rfl (b5 (bJ (D_x9 T) b (b9 (vv 0) b6)))) (YR (K:=K) rfl rfl (bL (bT sc.nd) (bL (bT sc.nd) ZJ)))
   (b7 (bC (WD (QF (a8 OX LJ (ZV a (vv 1) (vv 2)) ZU) (RD (aB (aP (bJ (dY T) b (b9 (b5 (ZV a (vv 1) (vv 2))) (b9 (b5 (ZV a (vv 1) (vv 3))) b6))))))))
   (b7 (bU Z0))
   bQ)))
  exact b7 (bU Z0)
def cO:ZC P w K mg base "shows" 9 D5 [] QX 474:=
 VO P base Nx31 D5 8 MA [] T T.p_x31 λsc a d c=>by
  refine cA ?_ ?_
  ·exact(bC (aB (aP (bJ (D_x7 T) a (b9 (vv 0) b6))))
   (b7 UL)
   bQ)
  refine cA ?_ ?_
  ·exact(bC (aB (aP (bJ (D2 T) a (b9 (vv 1) b6))))
   (b7 UL)
   bQ)
  refine cA ?_ ?_
  ·exact(bC (WD (XV (a8 (UF d) UI (ZV c (vv 0) cE) (ZV c (vv 1) cE)) (YK (aB (aP (bJ (lE T) a (b9 (vv 0) (b9 (vv 1) (b9 (vv 2) b6)))))))))
   (b7 (bU Z0))
   bQ)
  refine cA ?_ ?_
  ·exact(LR ba sc.nd ["at","entry"] [] 2 (RA rfl (by rfl) T.n_enumerate (vv 2)) (λb _ _ _ _=>⟨(YR (K:=K) rfl rfl (bL (bT b) (bL (bT b) ZJ))),(N3 (a8 OX LJ (vv 1) ZU)),(vv 0)⟩))
  refine cA ?_ ?_
  ·exact (bC (aB (aP (LP (kAll rfl) JL (by rfl) T.n_all NE (bF (ZM ["block","program","thing","at"] [0,1,2] 1 (YI rfl (vv 3)) (λb _ _ _ _ => ⟨(bT b),X8,(b5 (bJ (kO T) a (b9 (vv 0) (b9 (vv 1) (b9 (vv 2) (b9 (vv 3) b6))))))⟩))))))
   (b7 (bU Z0))
   bQ)
  exact b7 (bU (XX (LP (kAll rfl) JL (by rfl) T.n_all NE (bF (ZM ["thing","entry"] [2] 1 (YI rfl (b5 (bJ (gQ T) a (b9 (vv 1) b6)))) (λb _ _ _ _=>⟨(bT b),X8,(b5 (XM (TQ d) (YA (neg:=ba)) (vv 1) (vv 0) (by with_unfolding_all rfl)))⟩)))) (WT (bJ (eK T) a (b9 (vv 0) (b9 (vv 2) b6))))))
omit T in
def lG:ZI Nx31 D5 (bX (top 71)):=CT
def iS{c:Uc}{f:Ud}{fd:Cr}(F:N9 K "shows" "shows" (top 71) c f fd):U4 P w K mg base (CXv P w) 9 f fd D5 (spX K 3 OC):=
 okZ P w K mg base Nx31 D5 8 HN F lG λ_ _ _ _ _ _ a d b=>by
  exact(B6 (W6 (B5 (aB (aP (bJ (D_x7 T) a (b9 (vv 0) b6)))) (W6 (LU rfl HG rfl (by rfl) (vX T T.xc_NoBlock))) HM))
   (B7 (bC (aB (aP (bJ (D_x7 T) a (b9 (vv 0) b6))))
   (b7 UL)
   bQ)
   (W6 (B5 (aB (aP (bJ (D2 T) a (b9 (vv 1) b6)))) (W6 (LU rfl HG rfl (by rfl) (vX T T.xc_NoProgram))) HM))))
def lZ:DefX P w K mg base "shows" 9 D5 OC 474:=
 jP T.fnm T.p_x31 (λU=>iS T U.d) (Len3 λ_ _ _=>rfl)
def l7:ZC P w K mg base "_law_cell_at" 1 Qx32 [] YD 481:=
 VO P base Nx32 Qx32 0 UP [] T T.p_x32 λsc c b a=>by
  refine cA ?_ ?_
  ·exact(bC (a8 FC s_lt (vv 1) (YJ T.n_len (vv 0)))
   (b7 (bU (ZV a (vv 0) (vv 1))))
   bQ)
  refine cA ?_ ?_
  ·exact(bC (YX b (vv 0) (bF (aS (bS bY))))
   (b7 (bU cE))
   bQ)
  refine cA ?_ ?_
  ·exact(aN sc.nd (Z9 (b5 (ZV a (vv 0) (YB RZ M7 (vv 1) (YJ T.n_len (vv 0)))))))
  refine cA ?_ ?_
  ·exact (XO Ce rfl (W9 (by rfl) T.n_range (WU (Zf rfl) iV (by rfl) T.n_min lX (YB A1 Ym (vv 1) (YJ T.n_len (vv 0))) cE)) (bT sc.nd)
   (b7 (aN sc.nd (Z9 (b5 (YB A1 Ym (vv 2) cE))))))
  exact b7 (bU (Z4 XT Y0 (Z4 XT Y0 (Z4 NQ Q0 (ZV a (vv 0) (YB RZ M7 (vv 1) (YJ T.n_len (vv 0)))) cE) (vv 1)) (Z4 NQ Q0 (vv 2) cE)))
def nP:ZC P w K mg base "_law_mixed" 2 Qx33 [] UW 488:=
 VO P base Nx33 Qx33 1 RM [] T T.p_x33 λsc b c a=>by
  refine cA ?_ ?_
  ·exact(aN sc.nd (Z9 (b5 (YB RZ M7 (Z4 XT Y0 (Z4 XT Y0 (Z4 NQ Q0 (bJ (l7 T) b (b9 (vv 0) (b9 (vv 1) b6))) cE) (Z4 NQ Q0 cE (vv 1))) cE) cE))))
  exact b7 (bU (YB RZ M7 (YB RZ M7 (YB RZ M7 (YB lF lj (vv 3) cE) cE) cE) (vv 2)))
def WE:ZC P w K mg base "_law_draw" 3 Nx34 [1] aY 495:=
 VO P base Nx34 Nx34 2 P1 [1] T T.p_x34 λsc b c a=>by
  refine cA ?_ ?_
  ·exact(ZW Au Av aQ ZA (pv 1) (bS (cG cE bY)))
  exact b7 (bU (bJ (nP T) b (b9 (vv 0) (b9 (b5 (YJ T.n_len (vo 1))) (b9 (vv 2) b6)))))
def WF:ZC P w K mg base "_law_pick" 4 Nx35 [1] aZ 502:=
 VO P base Nx35 Nx35 3 P5 [1] T T.p_x35 λsc b c a=>by exact(b7 (bU (ZV a (vv 2) (bJ (WE T) b (b9 (vv 0) (aV (pv 1) (b9 (b5 (YJ T.n_len (vv 2))) b6)))))))
def D3:ZC P w K mg base "_law_place" 5 Nx36 [1,2] Y2 509:=
 VO P base Nx36 Nx36 4 RN [1,2] T T.p_x36 λsc b c a=>by
  refine cA ?_ ?_
  ·exact(BY a (pv 2) (vv 3) (b5 (YB RZ M7 (Z4 XT Y0 (mm a (pv 2) (vv 3) (b5 (bJ (WE T) b (b9 (vv 0) (aV (pv 1) (b9 (vv 4) b6))))) ⟨rfl,rfl,rfl,rfl⟩) (bJ (WF T) b (b9 (vv 0) (aV (pv 1) (b9 (bF (aS (bS (cG cE (cG cE (cG cE (cG cE (cG cE bY)))))))) b6))))) (vv 4))) rfl)
  exact b7 (bU (ZV a (vo 2) (vv 3)))
def Wf:ZC P w K mg base "_law_row" 6 Qx37 [1,3] T6 514:=
 VO P base Nx37 Qx37 5 NK [1,3] T T.p_x37 λsc a b c=>by
  refine cA ?_ ?_
  ·exact(aN sc.nd (Z9 (b5 (bJ (WE T) a (b9 (vv 0) (aV (pv 1) (b9 cE b6)))))))
  refine cA ?_ ?_
  ·exact(bC (WD (XV (YX b (vv 2) (bF (aS (bS bY)))) (YK (YX b (vv 5) cE))))
   (cA (bC (YX b (bJ (WE T) a (b9 (vv 0) (aV (pv 1) (b9 cE b6)))) cE)
   (b7 (bU (bI (cG bV (cG (bJ (WF T) a (b9 (vv 0) (aV (pv 1) (b9 (bF (aS (bS (cG cE (cG cE (cG cE (cG cE (cG cE (cG (bJ (WE T) a (b9 (vv 0) (aV (pv 1) (b9 cE b6)))) bY))))))))) b6)))) bY)))))
   bQ)
   (b7 (bU (bI (cG bV (cG (bJ (D3 T) a (b9 (vv 0) (aV (pv 1) (aV (pv 3) (b9 bV (b9 (vv 4) b6)))))) bY))))))
   bQ)
  refine cA ?_ ?_
  ·exact(T3 (bF (ZM ["_law_script","_law_town","_law_made","_law_k"] [0,1,2] 1 (W9 (by rfl) T.n_range cE) (λd _ _ _ _=>⟨(bT d),X8,(b5 (ZV c (vv 2) (WU (nB rfl) cV (by rfl) T.n_max eO cE (YB WR UJ (YB WR UJ (YJ T.n_len (vv 2)) cE) (bJ (WE T) a (b9 (vv 0) (aV (pv 1) (b9 cE b6))))))))⟩))) (YR (K:=K) rfl rfl (bL (bT sc.nd) (bL (bT sc.nd) (bL (bT sc.nd) ZJ)))))
  refine cA ?_ ?_
  ·exact (bC (a8 (TQ b) (YA (neg := ba)) (vv 5) (bI (cG cE (cG cE bY))) (by with_unfolding_all rfl))
   (b7 (bU (bI (cG bV (cG (bJ (D3 T) a (b9 (vv 0) (aV (pv 1) (aV (pv 3) (b9 bV (b9 (vv 4) b6)))))) bY)))))
   bQ)
  refine cA ?_ ?_
  ·exact(bC (YX b (vv 5) cE)
   (b7 (bU (bI (cG bV (cG (bJ (D3 T) a (b9 (vv 0) (aV (pv 1) (aV (pv 3) (b9 bV (b9 (vv 4) b6)))))) (cG (vv 8) (cG (vv 6) bY)))))))
   bQ)
  refine cA ?_ ?_
  ·exact (bC (a8 (TQ b) (YA (neg := ba)) (vv 5) (bI (cG cE (cG cE bY))) (by with_unfolding_all rfl))
   (b7 (bU (bI (cG bV (cG (bJ (D3 T) a (b9 (vv 0) (aV (pv 1) (aV (pv 3) (b9 bV (b9 (vv 4) b6)))))) (cG (vv 6) bY))))))
   bQ)
  refine cA ?_ ?_
  ·exact(bC (YX b (vv 5) cE)
   (b7 (bU (bI (cG bV (cG (bJ (D3 T) a (b9 (vv 0) (aV (pv 1) (aV (pv 3) (b9 bV (b9 (vv 4) b6)))))) (cG (vv 6) (cG (vv 8) bY)))))))
   bQ)
  refine cA ?_ ?_
  ·exact(bC (YX b (vv 5) cE)
   (b7 (bU (bI (cG bV (cG (vv 8) (cG (vv 6) (cG (vv 7) bY)))))))
   bQ)
  exact b7 (bU (bI (cG (ZV c (bF (aS (bS (cG bV (cG bV (cG bV (cG bV (cG bV (cG bV (cG bV bY)))))))))) (bJ (WE T) a (b9 (vv 0) (aV (pv 1) (b9 cE b6))))) (cG (vv 6) (cG (vv 7) bY)))))
def mj:ZC P w K mg base "_law_next" 5 Qx39 [1,4] XB 528:=
 VO P base Nx39 Qx39 4 TL [1,4] T T.p_x39 λsc c b a=>by
  refine cA ?_ ?_
  ·exact(aN sc.nd (Z9 (b5 (ZV a (vv 2) (XN cE)))))
  refine cA ?_ ?_
  ·exact(aN sc.nd (Z9 (b5 (VM (a8 (TQ b) (YA (neg:=ba)) (ZV a (vv 6) cE) (bI (cG bV (cG bV (cG bV (cG bV bY))))) (by with_unfolding_all rfl)) cE cE))))
  refine cA ?_ ?_
  ·exact(aN sc.nd (WV (aS (bS bY))))
  refine cA ?_ ?_
  ·exact(XO Ce rfl (YI rfl (b5 (SR rfl (vv 6) (SU (vv 7)) SS))) (bT sc.nd)
   (cA (aN sc.nd (Z9 (b5 (Z4 XT Y0 (mK rfl (vv 3) (vv 9)) (bJ (WF T) c (b9 (vv 0) (aV (pv 1) (b9 (bF (aS (bS (cG cE (cG cE (cG cE (cG cE (cG (XN cE) (cG cE (cG cE bY)))))))))) b6))))))))
   (b7 (ZW Au Av aQ ZA (pv 8) (bS (cG (VM (WD (QF (lK Vi FC s_le s_lt cE (vv 10) (YJ T.n_len (vv 3))) (RD (a8 (UF b) UI (ZV a (vv 3) (vv 10)) (YB WR UJ (YJ T.n_len (vv 2)) cE))))) (ZV a (vv 3) (vv 10)) (vv 9)) bY))))))
  refine cA ?_ ?_
  ·exact(bC (YX b (vv 7) cE)
   (b7 (bU (Z4 XT Y0 (SR rfl (vv 6) SS (SU cE)) (PH V1 V0 (by rfl) T.n_tuple ZL (vo 8)))))
   bQ)
  refine cA ?_ ?_
  ·exact(BY a (pv 4) (ZV a (vv 6) cE) (b5 (YB RZ M7 (Z4 XT Y0 (ZV a (vv 6) cE) cE) (vv 5))) rfl)
  exact b7 (bU (Z4 XT Y0 (bI (cG (ZV a (vv 6) cE) (cG (ZV a (vo 4) (ZV a (vv 6) cE)) bY))) (PH V1 V0 (by rfl) T.n_tuple ZL (vo 8))))
def gG:ZC P w K mg base "_law_rows" 7 Qx38 [1] SX 521:=
 VO P base Nx38 Qx38 6 P6 [1] T T.p_x38 λsc c b a=>by
  refine cA ?_ ?_
  ·exact(jY (i:=4) (j:=5) (k:=6) rfl sc.nd rfl rfl rfl (by decide) (by decide) (by decide) rfl rfl rfl (WV (aS (bS bY))) (WV (aS (bS bY))) (WV gS) rfl)
  refine cA ?_ ?_
  ·exact(LS Ce (a8 FC s_lt (YJ T.n_len (vo 4)) (vv 2))
   (cA (ZW Au Av aQ ZA (pv 4) (bS (cG (bJ (Wf T) c (b9 (vv 0) (aV (pv 1) (aV (pv 5) (aV (pv 6) (b9 (vv 3) b6)))))) bY)))
   (cA (bC (a8 (OT b) (YA (neg:=b8)) (ZV a (ZV a (vo 4) (XN cE)) cE) (bI (cG bV (cG bV bY))) (by with_unfolding_all rfl))
   (b7 (ZW Au Av aQ ZA (pv 5) (bS (cG (YB WR UJ (YJ T.n_len (vo 4)) cE) bY))))
   bQ)
   (b7 (XO Ce rfl (W9 (by rfl) T.n_range (bJ (WF T) c (b9 (vv 0) (aV (pv 1) (b9 (bF (aS (bS (cG cE (cG cE (cG cE (cG cE (cG cE bY)))))))) b6))))) (bT sc.nd)
   (b7 (bC (WD (QF (a8 FC s_lt (YJ T.n_len (vo 4)) (vv 2)) (RD (a8 (UF b) UI (ZV a (ZV a (vo 4) (XN cE)) cE) bV))))
   (cA (ZW Au Av aQ ZA (pv 4) (bS (cG (bJ (mj T) c (b9 (vv 0) (aV (pv 1) (aV (pv 4) (aV (pv 5) (aV (pv 6) (b9 (vv 3) b6))))))) bY)))
   (b7 (bC (a8 (OT b) (YA (neg:=b8)) (ZV a (ZV a (vo 4) (XN cE)) cE) (bI (cG bV (cG bV bY))) (by with_unfolding_all rfl))
   (b7 (ZW Au Av aQ ZA (pv 5) (bS (cG (YB WR UJ (YJ T.n_len (vo 4)) cE) bY))))
   bQ)))
   bQ)))))))
  exact b7 (bU (PH V1 V0 (by rfl) T.n_tuple ZL (vo 4)))
def iI:ZC P w K mg base "_law_names" 1 Nx41 [] Y1 540:=
 VO P base Nx41 Nx41 0 MY [] T T.p_x41 λsc c b a=>by
  refine cA ?_ ?_
  ·exact(bC (YX b (ZV a (vv 0) cE) bV)
   (b7 (bU (bF (aS (bS bY)))))
   bQ)
  exact b7 (bU (VM (a8 (TQ b) (YA (neg:=ba)) (ZV a (vv 0) cE) (bI (cG bV (cG bV (cG bV (cG bV bY))))) (by with_unfolding_all rfl)) (bF (Ys Wv RW (by rfl) T.RW OI (Vj (SR rfl (vv 0) (SU cE) SS)))) (bF (Ys Wv RW (by rfl) T.RW OI (Vj (SR rfl (vv 0) (SU cE) SS))))))
def Vc:ZC P w K mg base "_law_may" 1 Qx42 [] WL 545:=
 VO P base Nx42 Qx42 0 NJ [] T T.p_x42 λsc d b a=>by
  refine cA ?_ ?_
  ·exact(aN sc.nd (Z9 (b5 (ZV a (ZV a (vv 0) cE) (vv 1)))))
  refine cA ?_ ?_
  ·exact (bC (a8 (TQ b) (YA (neg := ba)) (ZV a (vv 2) cE) (bI (cG bV (cG bV (cG bV (cG bV bY))))) (by with_unfolding_all rfl))
   (b7 (bU (XM lR s_ge (ZV a (vv 2) cE) (ZV a (vv 0) cE))))
   bQ)
  exact b7 (bU (XX (veq b (ZV a (vv 2) cE) bV) (WT (XM (OT b) (YA (neg:=b8)) (SR rfl (ZV a (ZV a (vv 0) cE) (ZV a (vv 2) cE)) SS (SU cE)) (bF (ZM ["_law_k"] [] 1 (JU (by rfl) T.n_range cE cE) (λc _ _ _ _=>⟨(bT c),X8,(b5 (bI (cG bV (cG (vv 0) bY))))⟩))) (by with_unfolding_all rfl)))))
def nK:ZC P w K mg base "_law_must" 2 Qx43 [] SW 550:=
 VO P base Nx43 Qx43 1 P2 [] T T.p_x43 λsc c b a=>by
  refine cA ?_ ?_
  ·exact(RB (i:=1) (j:=2) rfl sc.nd rfl rfl (by decide) rfl rfl (WV (aS (bS bY))) (Z9 (b5 (bI (cG bV (cG bV (cG bV (cG bV bY))))))) rfl)
  refine cA ?_ ?_
  ·exact (XO Ce rfl (RA rfl (by rfl) T.n_enumerate (b5 (ZV a (vv 0) cE))) (YR (K := K) rfl rfl (bL (bT sc.nd) (bL (bT sc.nd) ZJ)))
   (b7 (XO Ce rfl (RA rfl (by rfl) T.n_enumerate (b5 (SR rfl (ZV a (vv 0) cE) SS (SU (vv 3))))) (YR (K:=K) rfl rfl (bL (bT sc.nd) (bL (bT sc.nd) ZJ)))
   (cA (LR ba sc.nd ["_law_row_here"] [] 1 (YI rfl (b5 (bI (cG (vv 6) (cG (vv 4) bY))))) (λd _ _ _ _=>⟨(bT d),(N3 (a8 (TQ b) (YA (neg:=ba)) (ZV a (vv 0) cE) (bI (cG bV (cG bV bY))) (by with_unfolding_all rfl))),(vv 0)⟩))
   (cA (aN sc.nd (WV (aS (bS (cG (XM (TQ b) (YA (neg:=ba)) (vv 5) (bJ (iI T) c (b9 (vv 4) b6)) (by with_unfolding_all rfl)) (cG (XX (bJ (Vc T) c (b9 (vv 0) (b9 (vv 5) b6))) (WT (bJ (Vc T) c (b9 (vv 0) (b9 (vv 3) b6))))) bY))))))
   (cA (ZW Au Av aQ ZA (pv 8) (bS (cG (XX (XM (TQ b) (YA (neg:=ba)) (ZV a (vv 6) cE) (vv 2) (by with_unfolding_all rfl)) (XX (XM (TQ b) (YA (neg:=ba)) (ZV a (vv 4) cE) (vv 2) (by with_unfolding_all rfl)) (XX (veq b (ZV a (vv 6) cE) (ZV a (vv 4) cE)) (WT (XM (UF b) UI (vv 7) (bF (aS (bS bY)))))))) bY)))
   (cA (ZW Au Av aQ ZA (pv 8) (bS (cG (XX (bJ (Vc T) c (b9 (vv 0) (b9 (vv 5) b6))) (WT (XM (TQ b) (YA (neg:=ba)) (ZV a (vv 4) cE) (bI (cG bV (cG bV bY))) (by with_unfolding_all rfl)))) bY)))
   (cA (ZW Au Av aQ ZA (pv 8) (bS (cG (XX (bJ (Vc T) c (b9 (vv 0) (b9 (vv 3) b6))) (WT (XM (TQ b) (YA (neg:=ba)) (ZV a (vv 6) cE) (bI (cG bV (cG bV bY))) (by with_unfolding_all rfl)))) bY)))
   (b7 (bC (a8 (TQ b) (YA (neg:=ba)) Z0 (vo 8) (by with_unfolding_all rfl))
   (b7 (ZW Au Av aQ ZA (pv 1) (bS (cG (bI (cG (vv 5) (cG (vv 3) bY))) bY))))
   bQ))))))))))
  exact b7 (bU (bF (kj oK m9 (by rfl) T.n_sorted mM (Vj (vo 1)))))
def lC:ZC P w K mg base "_law_mixed_order" 5 Qx46 [1] X9 569:=
 VO P base Nx46 Qx46 4 W1 [1] T T.p_x46 λsc d b a=>by
  refine cA ?_ ?_
  ·exact(B0 (i:=3) (j:=4) (k:=5) rfl rfl sc.nd rfl rfl rfl (by decide) (by decide) (by decide) (Du rfl) (Du rfl) (Ey rfl) (Z9 (b5 (bJ (nK T) d (b9 (vv 2) b6)))) (WV (JV rfl (by rfl) T.RW OI (by rfl) T.n_range EC (YJ T.n_len (ZV a (vv 2) cE)))) (WV (aS (bS bY))))
  refine cA ?_ ?_
  ·exact(LS Ce (a8 (UF b) UI (vo 4) (bF (aS (bS bY))))
   (cA (oF ba sc.nd ["_law_pairs","_law_left","_law_row_here"] [3,4] 1 (jw rfl (vo 4)) (λc _ _ _ _=>⟨(bT c),(N3 (YX b (bF (ZM ["_law_left","_law_row_here","_law_one","_law_two"] [1,2] 2 (YI rfl (vv 0)) (λc _ _ _ _=>⟨(YR (K:=K) rfl rfl (bL (bT c) (bL (bT c) ZJ))),(N3 (WD (QF (YX b (vv 3) (vv 1)) (RD (a8 (TQ b) (YA (neg:=ba)) (vv 2) (vo 0) (by with_unfolding_all rfl)))))),cE⟩))) (bF (aS (bS bY))))),(vv 2)⟩))
   (cA (ZW Au Av aQ ZA (pv 5) (bS (cG (bJ (WF T) d (b9 (vv 0) (aV (pv 1) (b9 (vv 6) b6)))) bY)))
   (b7 (ZW PySem.F.slot_list_remove PySem.F.type_list_remove lT fH (pv 4) (bS (cG (ZV a (vo 5) (XN cE)) bY)))))))
  exact b7 (BZ (pv 5))
def lb:ZC P w K mg base "_law_renamed" 1 Qx47 [] aL 574:=
 VO P base Nx47 Qx47 0 ZO [] T T.p_x47 λsc d b a=>by
  refine cA ?_ ?_
  ·exact(bC (YX b (ZV a (vv 0) cE) bV)
   (b7 (bU (vv 0)))
   bQ)
  refine cA ?_ ?_
  ·exact(aN sc.nd (Z9 (b5 (VM (a8 (TQ b) (YA (neg:=ba)) (ZV a (vv 0) cE) (bI (cG bV (cG bV (cG bV (cG bV bY))))) (by with_unfolding_all rfl)) cE cE))))
  exact b7 (bU (Z4 XT Y0 (SR rfl (vv 0) SS (SU (vv 2))) (PH V1 V0 (by rfl) T.n_tuple ZL (bF (ZM ["_law_names_here","_law_name"] [1] 1 (YI rfl (b5 (SR rfl (vv 0) (SU (vv 2)) SS))) (λc _ _ _ _=>⟨(bT c),X8,(b5 (ZV a (vv 0) (vv 1)))⟩))))))
def cQ:ZC P w K mg base "_law_block" 8 Qx40 [1] W8 533:=
 VO P base Nx40 Qx40 7 U0 [1] T T.p_x40 λsc a d b=>by
  refine cA ?_ ?_
  ·exact(aN sc.nd (Z9 (b5 (bJ (WF T) a (b9 (vv 0) (aV (pv 1) (b9 (bF (aS (bS (cG cE (cG cE (cG cE (cG cE bY))))))) b6)))))))
  refine cA ?_ ?_
  ·exact(aN sc.nd (Z9 (b5 (bJ (WF T) a (b9 (vv 0) (aV (pv 1) (b9 (bF (aS (bS (cG cE (cG (vv 3) (cG (vv 3) (cG (bJ (WE T) a (b9 (vv 0) (aV (pv 1) (b9 (b5 (Z4 XT Y0 (vv 3) cE)) b6)))) bY))))))) b6)))))))
  refine cA ?_ ?_
  ·exact(aN sc.nd (Z9 (b5 (bI (cG (vv 4) (cG (bJ (gG T) a (b9 (vv 0) (aV (pv 1) (b9 (b5 (bJ (WE T) a (b9 (vv 0) (aV (pv 1) (b9 (b5 (Z4 XT Y0 (vv 2) cE)) b6))))) (b9 (vv 3) b6))))) bY))))))
  refine cA ?_ ?_
  ·exact(bC (a8 Vn s_gt (bJ (WE T) a (b9 (vv 0) (aV (pv 1) (b9 cE b6)))) cE)
   (b7 (bU (vv 5)))
   bQ)
  refine cA ?_ ?_
  ·exact(aN sc.nd (Z9 (b5 (bJ (lC T) a (b9 (vv 0) (aV (pv 1) (b9 (vv 5) b6)))))))
  refine cA ?_ ?_
  ·exact(aN sc.nd (Z9 (bF (Zg rfl rfl (by rfl) T.n_dict lS (bF (ZM ["_law_number","_law_row_here"] [] 2 (RA rfl (by rfl) T.n_enumerate (vv 6)) (λc _ _ _ _=>⟨(YR (K:=K) rfl rfl (bL (bT c) (bL (bT c) ZJ))),X8,(b5 (bI (cG (vv 1) (cG (vv 0) bY))))⟩)))))))
  exact b7 (bU (bI (cG (vv 4) (cG (PH V1 V0 (by rfl) T.n_tuple ZL (bF (ZM ["_law_block_here","_law_names_here","_law_row_here"] [5,7] 1 (YI rfl (vv 6)) (λc _ _ _ _=>⟨(bT c),X8,(b5 (bJ (lb T) a (b9 (b5 (ZV b (ZV b (vv 0) cE) (vv 2))) (b9 (vv 1) b6))))⟩)))) bY))))
omit T in
def zCK:ZI Nx44 Qx44 (bX (top 85)):=CT
def jF{f:Ud}{fd:Cr}(F:LX K "_law_which" "_law_which" (top 85) f fd):FnH P w K mg base 1 f fd Qx44 (spV K [] 1 UX):=
 okWH P w K mg base Nx44 Qx44 0 MZ [] F zCK λ_ _ _ _ _ c b a=>by
  refine cA ?_ ?_
  ·exact(aN zCK.nd (WV (aS (bS (cG (WU P8 (VL (xi T)) (by rfl) T.n_isinstance aR (vv 0) (aM (by rfl) (vF T T.g_NoBlock))) (cG (WU P8 (VL (xi T)) (by rfl) T.n_isinstance aR (vv 0) (aM (by rfl) (vF T T.g_NoCells))) (cG (WU P8 (VL (xi T)) (by rfl) T.n_isinstance aR (vv 0) (aM (by rfl) (vF T T.g_NoRow))) (cG (WU P8 (VL (xi T)) (by rfl) T.n_isinstance aR (vv 0) (aM (by rfl) (vF T T.g_NoLanes))) bY))))))))
  refine cA ?_ ?_
  ·exact(ZW Gd Ge (AM (K:=K) rfl) G0 (pv 1) (bS (cG (bF (aS (bS (cG (WU P8 (VL (xi T)) (by rfl) T.n_isinstance aR (vv 0) (aM (by rfl) (vF T T.g_NoPlan))) (cG (WU P8 (VL (xi T)) (by rfl) T.n_isinstance aR (vv 0) (aM (by rfl) (vF T T.g_NoProgram))) (cG (WU P8 (VL (xi T)) (by rfl) T.n_isinstance aR (vv 0) (aM (by rfl) (vF T T.g_NoTree))) (cG (WU P8 (VL (xi T)) (by rfl) T.n_isinstance aR (vv 0) (aM (by rfl) (vF T T.g_NoLoop))) bY))))))) bY)))
  refine cA ?_ ?_
  ·exact(ZW Gd Ge (AM (K:=K) rfl) G0 (pv 1) (bS (cG (bF (aS (bS (cG (WU P8 (VL (xi T)) (by rfl) T.n_isinstance aR (vv 0) (aM (by rfl) (vF T T.g_NoText))) (cG (WU P8 (VL (xi T)) (by rfl) T.n_isinstance aR (vv 0) (aM (by rfl) (vF T T.g_NoName))) (cG (WU P8 (VL (xi T)) (by rfl) T.n_isinstance aR (vv 0) (aM (by rfl) (vF T T.g_TooMany))) (cG (WU P8 (VL (xi T)) (by rfl) T.n_isinstance aR (vv 0) (aM (by rfl) (vF T T.g_TooLong))) bY))))))) bY)))
  refine cA ?_ ?_
  ·exact(ZW Gd Ge (AM (K:=K) rfl) G0 (pv 1) (bS (cG (bF (aS (bS (cG (WU P8 (VL (xi T)) (by rfl) T.n_isinstance aR (vv 0) (aM (by rfl) (vF T T.g_NotValid))) (cG (WU P8 (VL (xi T)) (by rfl) T.n_isinstance aR (vv 0) (aM (by rfl) (vF T T.g_Nothing))) bY))))) bY)))
  refine cA ?_ ?_
  ·exact (bC (WD (XV (a8 (UF b) UI (Xy rfl PySem.F.slot_list_count PySem.F.type_list_count nG eE (vo 1) Z0) cE) (YK (aB (aP (WU P8 (VL (xi T)) (by rfl) T.n_isinstance aR (vv 0) (DW T.n_ValueError JX)))))))
   (b7 (bU (bI (cG bV (cG (XN cE) bY)))))
   bQ)
  exact b7 (bU (bI (cG bV (cG (Xy rfl Lp Lq hW fS (vo 1) Z0) bY))))
def o7:DefH P w K mg base "_law_which" 1 Qx44 (spV K [] 1 UX) 557:=
 mO T.fnm T.p_x44 (λU=>jF T U) (Len1 λ_=>rfl)
def eA:ZC P w K mg base "_law_none" 5 Qx45 [1] U8 564:=
 VO P base Nx35 Qx45 4 P4 [1] T T.p_x45 λsc b c a=>by
  refine cA ?_ ?_
  ·exact(@aN _ _ _ _ _ _ _ _ _ sc.nd (@Z9 _ _ _ _ _ _ (@bF _ _ _ _ _ _ (@LQ _ _ _ 3 _ _ _ rfl (by decide)))) rfl (by first|exact .inl rfl|exact .inr rfl) (by decide) rfl (by first|exact .inl rfl|exact .inr rfl|assumption))
  refine cA ?_ ?_
  ·exact(@aN _ _ _ _ _ _ _ _ _ sc.nd (@Z9 _ _ _ _ _ _ (@b5 _ _ _ _ _ _ _ _ (@Z4 _ _ _ _ _ _ _ _ _ _ _ _ _ _ _ _ _ XT Y0 (@vv _ _ _ _ _ 2 rfl (by first|exact Ey rfl|exact Du (Ey rfl)|exact Du (Du rfl)) (by decide) (by decide)) (@bF _ _ _ _ _ _ (@LQ _ _ _ 3 _ _ _ rfl (by decide))) rfl) rfl)) rfl (by first|exact .inl rfl|exact .inr rfl) (by decide) rfl (by first|exact .inl rfl|exact .inr rfl|assumption))
  refine cA ?_ ?_
  ·exact(@aN _ _ _ _ _ _ _ _ _ sc.nd (@Z9 _ _ _ _ _ _ (@b5 _ _ _ _ _ _ _ _ (@Z4 _ _ _ _ _ _ _ _ _ _ _ _ _ _ _ _ _ XT Y0 (@vv _ _ _ _ _ 2 rfl (by first|exact Ey rfl|exact Du (Ey rfl)|exact Du (Du rfl)) (by decide) (by decide)) (@bF _ _ _ _ _ _ (@LQ _ _ _ 3 _ _ _ rfl (by decide))) rfl) rfl)) rfl (by first|exact .inl rfl|exact .inr rfl) (by decide) rfl (by first|exact .inl rfl|exact .inr rfl|assumption))
  refine cA ?_ ?_
  ·exact(@aN _ _ _ _ _ _ _ _ _ sc.nd (@Z9 _ _ _ _ _ _ (@b5 _ _ _ _ _ _ _ _ (@Z4 _ _ _ _ _ _ _ _ _ _ _ _ _ _ _ _ _ XT Y0 (@vv _ _ _ _ _ 2 rfl (by first|exact Ey rfl|exact Du (Ey rfl)|exact Du (Du rfl)) (by decide) (by decide)) (@bF _ _ _ _ _ _ (@aS _ _ _ _ _ _ _ (@bS _ _ _ _ _ _ _ (@cG _ _ _ _ _ _ _ _ _ _ _ _ (@QE _ _ _ 3 _ _ rfl) (@cG _ _ _ _ _ _ _ _ _ _ _ _ (@bI _ _ _ _ _ _ _ _ _ (@cG _ _ _ _ _ _ _ _ _ _ _ _ cE (@cG _ _ _ _ _ _ _ _ _ _ _ _ (@Z4 _ _ _ _ _ _ _ _ _ _ _ _ _ _ _ _ _ kRep Vv (@QE _ _ _ 2 _ _ rfl) cE rfl) bY rfl rfl rfl) rfl rfl rfl)) bY rfl rfl rfl) rfl rfl rfl) rfl))) rfl) rfl)) rfl (by first|exact .inl rfl|exact .inr rfl) (by decide) rfl (by first|exact .inl rfl|exact .inr rfl|assumption))
  refine cA ?_ ?_
  ·exact(@aN _ _ _ _ _ _ _ _ _ sc.nd (@Z9 _ _ _ _ _ _ (@b5 _ _ _ _ _ _ _ _ (@Z4 _ _ _ _ _ _ _ _ _ _ _ _ _ _ _ _ _ XT Y0 (@vv _ _ _ _ _ 2 rfl (by first|exact Ey rfl|exact Du (Ey rfl)|exact Du (Du rfl)) (by decide) (by decide)) (@bF _ _ _ _ _ _ (@LQ _ _ _ 3 _ _ _ rfl (by decide))) rfl) rfl)) rfl (by first|exact .inl rfl|exact .inr rfl) (by decide) rfl (by first|exact .inl rfl|exact .inr rfl|assumption))
  exact b7 (bU (bJ (WF T) b (b9 (vv 0) (aV (pv 1) (b9 (vv 2) b6)))))
def jC:ZC P w K mg base "_law_program" 7 Qx40 [1] XR 579:=
 VO P base Nx48 Qx40 6 UQ [1] T T.p_x48 λsc b c a=>by
  refine cA ?_ ?_
  ·exact(eX (i:=3) (j:=4) rfl rfl sc.nd rfl rfl (by decide) (Du rfl) (Ey rfl) (Z9 (b5 (bJ (WF T) b (b9 (vv 0) (aV (pv 1) (b9 (bF (aS (bS (cG cE (cG cE (cG cE bY)))))) b6)))))) (Z9 (b5 (bJ (WF T) b (b9 (vv 0) (aV (pv 1) (b9 (bF (aS (bS (cG cE (cG cE (cG cE bY)))))) b6)))))))
  refine cA ?_ ?_
  ·exact(B0 (i:=5) (j:=6) (k:=7) rfl rfl sc.nd rfl rfl rfl (by decide) (by decide) (by decide) (Ey rfl) (Du rfl) (Ey rfl) (WV (aS (bS (cG (bI (cG bV (cG (bJ (WE T) b (b9 (vv 0) (aV (pv 1) (b9 cE b6)))) bY))) bY)))) (WV (aS (bS (cG cE bY)))) (WV (aS (bS bY))))
  refine cA ?_ ?_
  ·exact(ZW Au Av aQ ZA (pv 5) (bS (cG (bI (cG bV (cG bV (cG (PH V1 V0 (by rfl) T.n_tuple ZL (bF (ZM ["_law_script","_law_town","_law_k"] [0,1] 1 (W9 (by rfl) T.n_range (vv 3)) (λd _ _ _ _=>⟨(bT d),X8,(b5 (bJ (WE T) b (b9 (vv 0) (aV (pv 1) (b9 cE b6)))))⟩)))) bY)))) bY)))
  refine cA ?_ ?_
  ·exact(ZW Au Av aQ ZA (pv 7) (bS (cG cE bY)))
  refine cA ?_ ?_
  ·exact (XO Ce rfl (W9 (by rfl) T.n_range (bJ (WE T) b (b9 (vv 0) (aV (pv 1) (b9 (b5 (Z4 XT Y0 (vv 2) cE)) b6))))) (bT sc.nd)
   (cA (RB (i:=9) (j:=10) rfl sc.nd rfl rfl (by decide) rfl rfl (Z9 (b5 (bJ (WE T) b (b9 (vv 0) (aV (pv 1) (b9 cE b6)))))) (Z9 (b5 (YJ T.n_len (vo 5)))) rfl)
   (cA (bC (YX c (vv 9) cE)
   (b7 (ZW Au Av aQ ZA (pv 5) (bS (cG (bI (cG bV (cG (PH V1 V0 (by rfl) T.n_tuple ZL (bF (ZM ["_law_script","_law_town","_law_words","_law_k"] [0,1,6] 1 (W9 (by rfl) T.n_range (vv 3)) (λd _ _ _ _=>⟨(bT d),X8,(b5 (bJ (WF T) b (b9 (vv 0) (aV (pv 1) (aV (pv 2) b6)))))⟩)))) bY))) bY))))
   (b7 (bC (YX c (vv 9) cE)
   (cA (aN sc.nd (Z9 (b5 (PH V1 V0 (by rfl) T.n_tuple ZL (bF (ZM ["_law_script","_law_town","_law_broad","_law_k"] [0,1,3] 1 (W9 (by rfl) T.n_range (vv 3)) (λd _ _ _ _=>⟨(bT d),X8,(b5 (bJ (WE T) b (b9 (vv 0) (aV (pv 1) (b9 (b5 (Z4 NQ Q0 cE (vv 2))) b6)))))⟩)))))))
   (b7 (ZW Au Av aQ ZA (pv 5) (bS (cG (bI (cG bV (cG (bJ (WF T) b (b9 (vv 0) (aV (pv 1) (aV (pv 7) b6)))) (cG (bJ (WF T) b (b9 (vv 0) (aV (pv 1) (aV (pv 7) b6)))) (cG (vv 11) bY))))) bY)))))
   (b7 (bC (YX c (vv 9) cE)
   (b7 (ZW Au Av aQ ZA (pv 5) (bS (cG (bI (cG bV (cG (bJ (WF T) b (b9 (vv 0) (aV (pv 1) (aV (pv 7) b6)))) (cG (bJ (WE T) b (b9 (vv 0) (aV (pv 1) (b9 (vv 3) b6)))) bY)))) bY))))
   (cA (aN sc.nd (Z9 (b5 (Zr (K:=K) (i:=3) (mF:=[1]) rfl (Wf T) (by decide) b (by decide) (by rfl) (kf (vv 0) (eT (pv 1) (mW (YX c (vv 9) cE) (pv 6) (pv 7) (kT (pv 4)))))))))
   (b7 (ZW Au Av aQ ZA (pv 5) (bS (cG (VM (WD (XV (YX c (vv 9) cE) (YK (YX c (ZV a (vv 12) cE) bV)))) (vv 12) (Z4 XT Y0 (bI (cG bV bY)) (vv 12))) bY))))))))))
   (cA (aN sc.nd (Z9 (b5 (VM (YX c (ZV a (ZV a (vo 5) (XN cE)) cE) bV) (SR rfl (ZV a (vo 5) (XN cE)) (SU cE) SS) (ZV a (vo 5) (XN cE))))))
   (b7 (bC (a8 (OT c) (YA (neg:=b8)) (ZV a (vv 13) cE) (bI (cG bV (cG bV bY))) (by with_unfolding_all rfl))
   (b7 (bC (a8 (TQ c) (YA (neg:=ba)) (ZV a (ZV a (vo 5) (XN cE)) cE) (bI (cG bV (cG bV (cG bV bY)))) (by with_unfolding_all rfl))
   (b7 (ZW Au Av aQ ZA (pv 7) (bS (cG (vv 10) bY))))
   (b7 (ZW Au Av aQ ZA (pv 6) (bS (cG (vv 10) bY))))))
   bQ))))))
  exact b7 (bU (bI (cG (vv 3) (cG (bJ (WE T) b (b9 (vv 0) (aV (pv 1) (b9 (b5 (Z4 XT Y0 (vv 4) cE)) b6)))) (cG (PH V1 V0 (by rfl) T.n_tuple ZL (vo 5)) bY)))))
def N6:ZC P w K mg base "_law_ask" 10 Qx49 [] bB 586:=
 VO P base Nx49 Qx49 9 WP [] T T.p_x49 λsc a b c=>by
  exact(b7 (Zl (i:=4) (cs:=LW) rfl rfl rfl sc.nd rfl rfl (by decide) (by rfl) (λ_=>T.fnm _ _) (by rfl) (by decide) ⟨_,T.fnm _ _ T.xc_NoRow.xc.at_,XQ.of T.xq_NoRow⟩
   (b7 (bU (VM (YX b (vv 0) cE) (bJ (cO T) a (b9 (vv 1) (b9 (vv 2) (b9 (vv 3) b6)))) (bJ (jx T) a (b9 (vv 1) (b9 (vv 2) (b9 (vv 3) b6)))))))
   (λ_ _ _ hz=>(W6 (mH (fM (YX b (vv 0) cE) (B4 hz rfl (lZ T) a (by decide) (by rfl) rfl (b9 (vv 1) (b9 (vv 2) (b9 (vv 3) b6)))) (B4 hz rfl (Zh T) a (by decide) (by rfl) rfl (b9 (vv 1) (b9 (vv 2) (b9 (vv 3) b6))))))))
   (λ_=>(b7 (bU (bI (cG bV (cG (gA rfl (kJ (vZ T T.xc_NoRow)) (vv 4)) bY))))))
   λ_=>(b7 (bU (iL (o7 T) (a.h.mark _) (b9 (vv 4) b6))))))
def Zs{f:Ud}{fd:Cr}(F:LX K "law" "law" (top 91) f fd):U4 P w K mg base CX0 11 f fd Qx50 (spV K [] 1 HP):=
 okWg P w K mg base Nx50 Qx50 10 Vp [] F CT λsc b c a=>by
  refine cA ?_ ?_
  ·exact(aN sc.nd (WV (aS (bS bY))))
  refine cA ?_ ?_
  ·exact(RB (i:=2) (j:=3) rfl sc.nd rfl rfl (by decide) rfl rfl (Z9 (b5 (bJ (cQ T) b (b9 (vv 0) (aV (pv 1) (b9 cE b6)))))) (Z9 (b5 (bJ (jC T) b (b9 (vv 0) (aV (pv 1) (b9 cE b6)))))) rfl)
  refine cA ?_ ?_
  ·exact(@aN _ _ _ _ _ _ _ _ _ sc.nd (@Z9 _ _ _ _ _ _ (@b5 _ _ _ _ _ _ _ _ (@bJ _ _ _ _ _ _ _ _ _ _ _ _ _ _ _ _ _ (WF T) b (@b9 _ _ _ _ _ _ _ _ _ (@vv _ _ _ _ _ 0 rfl (by first|exact Ey rfl|exact Du (Ey rfl)|exact Du (Du rfl)) (by decide) (by decide)) (@aV _ _ _ _ _ _ _ _ (pv 1) (@b9 _ _ _ _ _ _ _ _ _ (@bF _ _ _ _ _ _ (@aS _ _ _ _ _ _ _ (@bS _ _ _ _ _ _ _ (@cG _ _ _ _ _ _ _ _ _ _ _ _ ZU (@cG _ _ _ _ _ _ _ _ _ _ _ _ cE (@cG _ _ _ _ _ _ _ _ _ _ _ _ (@bI _ _ _ _ _ _ _ _ _ bY) (@cG _ _ _ _ _ _ _ _ _ _ _ _ (@bI _ _ _ _ _ _ _ _ _ (@cG _ _ _ _ _ _ _ _ _ _ _ _ cE (@cG _ _ _ _ _ _ _ _ _ _ _ _ cE bY rfl rfl rfl) rfl rfl rfl)) (@cG _ _ _ _ _ _ _ _ _ _ _ _ (@QE _ _ _ 2 _ _ rfl) (@cG _ _ _ _ _ _ _ _ _ _ _ _ (@QE _ _ _ 2 _ _ rfl) (@cG _ _ _ _ _ _ _ _ _ _ _ _ (@QE _ _ _ 3 _ _ rfl) (@cG _ _ _ _ _ _ _ _ _ _ _ _ bV (@cG _ _ _ _ _ _ _ _ _ _ _ _ (@vv _ _ _ _ _ 2 rfl (by first|exact Ey rfl|exact Du (Ey rfl)|exact Du (Du rfl)) (by decide) (by decide)) bY rfl rfl rfl) rfl rfl rfl) rfl rfl rfl) rfl rfl rfl) rfl rfl rfl) rfl rfl rfl) rfl rfl rfl) rfl rfl rfl) rfl rfl rfl) rfl))) b6 rfl) rfl) rfl) rfl (by decide) rfl (by decide) rfl rfl) rfl)) rfl (by first|exact .inl rfl|exact .inr rfl) (by decide) rfl (by first|exact .inl rfl|exact .inr rfl|assumption))
  refine cA ?_ ?_
  ·exact(bC (a8 (UF c) UI (bJ (N6 T) b (b9 cE (b9 (b5 (bJ (eA T) b (b9 (vv 0) (aV (pv 1) b6)))) (b9 ZU (b9 ZU b6))))) (bI (cG bV (cG cE bY))))
   (b7 (bU Z0))
   bQ)
  refine cA ?_ ?_
  ·exact(bC (WD (XV (a8 (UF c) UI (bJ (N6 T) b (b9 cE (b9 (vv 2) (b9 (vv 4) (b9 ZU b6))))) (bI (cG bV (cG cE bY)))) (YK (a8 (UF c) UI (bJ (N6 T) b (b9 cE (b9 (vv 4) (b9 ZU (b9 ZU b6))))) (bI (cG bV (cG cE bY)))))))
   (b7 (bU Z0))
   bQ)
  refine cA ?_ ?_
  ·exact(RB (i:=5) (j:=6) rfl sc.nd rfl rfl (by decide) rfl rfl (Z9 (b5 (YJ T.n_len (ZV a (vv 3) cE)))) (WV (aS (bS bY))) rfl)
  refine cA ?_ ?_
  ·exact (XO Ce rfl (RA rfl (by rfl) T.n_enumerate (b5 (ZV a (vv 3) cE))) (YR (K := K) rfl rfl (bL (bT sc.nd) (bL (bT sc.nd) ZJ)))
   (cA (aN sc.nd (Z9 (b5 (VM (YX c (ZV a (vv 8) cE) bV) (SR rfl (vv 8) (SU cE) SS) (vv 8)))))
   (b7 (bC (a8 (TQ c) (YA (neg:=ba)) (ZV a (vv 9) cE) (bI (cG bV (cG bV bY))) (by with_unfolding_all rfl))
   (b7 (ZW Au Av aQ ZA (pv 6) (bS (cG (vv 7) bY))))
   bQ))))
  refine cA ?_ ?_
  ·exact(XO Ce rfl (YI rfl (b5 (Z4 XT Y0 (bF (aS (bS (cG ZU (cG (XN cE) (cG bV (cG (vv 5) (cG (bF (aS (bS (cG cE bY)))) bY)))))))) (vo 6)))) (bT sc.nd)
   (b7 (bC (a8 (UF c) UI (bJ (N6 T) b (b9 cE (b9 (vv 3) (b9 (vv 10) (b9 (b5 (bJ (WF T) b (b9 (vv 0) (aV (pv 1) (b9 (bF (aS (bS (cG ZU (cG cE bY))))) b6))))) b6))))) (bI (cG bV (cG (vv 10) bY))))
   (b7 (bU Z0))
   bQ)))
  refine cA ?_ ?_
  ·exact(XO Ce rfl (YI rfl (bF (aS (bS (cG cE (cG (XN cE) (cG bV (cG Z0 bY)))))))) (bT sc.nd)
   (b7 (bC (a8 (UF c) UI (bJ (N6 T) b (b9 cE (b9 (vv 3) (b9 cE (b9 (vv 11) b6))))) (bI (cG bV (cG cE bY))))
   (b7 (bU Z0))
   bQ)))
  refine cA ?_ ?_
  ·exact(XO Ce rfl (YI rfl (bF (aS (bS (cG ZU (cG (XN cE) (cG (ZV a (vv 3) cE) (cG bV (cG Z0 bY))))))))) (bT sc.nd)
   (b7 (bC (a8 (UF c) UI (bJ (N6 T) b (b9 cE (b9 (vv 3) (b9 cE (b9 (vv 11) b6))))) (bI (cG bV (cG cE bY))))
   (b7 (bU Z0))
   bQ)))
  refine cA ?_ ?_
  ·exact(@aN _ _ _ _ _ _ _ _ _ sc.nd (@Z9 _ _ _ _ _ _ (@b5 _ _ _ _ _ _ _ _ (@bJ _ _ _ _ _ _ _ _ _ _ _ _ _ _ _ _ _ (WF T) b (@b9 _ _ _ _ _ _ _ _ _ (@vv _ _ _ _ _ 0 rfl (by first|exact Ey rfl|exact Du (Ey rfl)|exact Du (Du rfl)) (by decide) (by decide)) (@aV _ _ _ _ _ _ _ _ (pv 1) (@b9 _ _ _ _ _ _ _ _ _ (@bF _ _ _ _ _ _ (@aS _ _ _ _ _ _ _ (@bS _ _ _ _ _ _ _ (@cG _ _ _ _ _ _ _ _ _ _ _ _ ZU (@cG _ _ _ _ _ _ _ _ _ _ _ _ cE (@cG _ _ _ _ _ _ _ _ _ _ _ _ bV (@cG _ _ _ _ _ _ _ _ _ _ _ _ (@bI _ _ _ _ _ _ _ _ _ bY) (@cG _ _ _ _ _ _ _ _ _ _ _ _ (@Z4 _ _ _ _ _ _ _ _ _ _ _ _ _ _ _ _ _ kRep Vv (@bF _ _ _ _ _ _ (@aS _ _ _ _ _ _ _ (@bS _ _ _ _ _ _ _ (@cG _ _ _ _ _ _ _ _ _ _ _ _ cE bY rfl rfl rfl) rfl))) (@YJ _ _ _ _ _ _ _ _ _ _ T.n_len (@ZV _ _ _ _ _ _ _ _ _ _ _ _ _ _ a (@vv _ _ _ _ _ 2 rfl (by first|exact Ey rfl|exact Du (Ey rfl)|exact Du (Du rfl)) (by decide) (by decide)) cE rfl (by exact λ_ _=>rfl) rfl) rfl rfl rfl) rfl) (@cG _ _ _ _ _ _ _ _ _ _ _ _ (@Z4 _ _ _ _ _ _ _ _ _ _ _ _ _ _ _ _ _ kRep Vv (@bF _ _ _ _ _ _ (@LQ _ _ _ 1 _ _ _ rfl (by decide))) (@YJ _ _ _ _ _ _ _ _ _ _ T.n_len (@ZV _ _ _ _ _ _ _ _ _ _ _ _ _ _ a (@vv _ _ _ _ _ 2 rfl (by first|exact Ey rfl|exact Du (Ey rfl)|exact Du (Du rfl)) (by decide) (by decide)) cE rfl (by exact λ_ _=>rfl) rfl) rfl rfl rfl) rfl) (@cG _ _ _ _ _ _ _ _ _ _ _ _ (@bF _ _ _ _ _ _ (@iM _ _ _ _ _ _ _ _ (@dH _ _ _ _ _ _ _ _ _ _ _ _ _ _ _ _ cE ZU ki) rfl rfl (by simp) (by decide))) bY rfl rfl rfl) rfl rfl rfl) rfl rfl rfl) rfl rfl rfl) rfl rfl rfl) rfl rfl rfl) rfl rfl rfl) rfl))) b6 rfl) rfl) rfl) rfl (by decide) rfl (by decide) rfl rfl) rfl)) rfl (by first|exact .inl rfl|exact .inr rfl) (by decide) rfl (by first|exact .inl rfl|exact .inr rfl|assumption))
  refine cA ?_ ?_
  ·exact(bC (WD (QF (a8 (UF c) UI (ZV a (vv 2) cE) (bI bY)) (RD (a8 iX mB (bJ (N6 T) b (b9 cE (b9 (vv 2) (b9 (vv 3) (b9 (vv 12) b6))))) Z0))))
   (b7 (bU Z0))
   bQ)
  exact b7 (@bU _ _ _ _ _ _ _ _ _ (@XX _ _ _ _ _ _ _ _ _ _ _ _ _ _ _ (@XM _ _ _ _ _ _ _ _ _ _ _ _ _ _ _ _ _ kz Zj (@bJ _ _ _ _ _ _ _ _ _ _ _ _ _ _ _ _ _ (N6 T) b (@b9 _ _ _ _ _ _ _ _ _ cE (@b9 _ _ _ _ _ _ _ _ _ (@b5 _ _ _ _ _ _ _ _ (@QE _ _ _ 2 _ _ rfl) rfl) (@b9 _ _ _ _ _ _ _ _ _ (@b5 _ _ _ _ _ _ _ _ (@QE _ _ _ 2 _ _ rfl) rfl) (@b9 _ _ _ _ _ _ _ _ _ (@bF _ _ _ _ _ _ (@aS _ _ _ _ _ _ _ (@bS _ _ _ _ _ _ _ bY rfl))) b6 rfl) rfl) rfl) rfl) rfl (by decide) rfl (by decide) rfl rfl) Z0 (K6 _) rfl) (@WT _ _ _ _ _ _ _ _ _ _ (@veq _ _ _ _ _ _ _ _ _ _ _ _ _ _ c (@bJ _ _ _ _ _ _ _ _ _ _ _ _ _ _ _ _ _ (N6 T) b (@b9 _ _ _ _ _ _ _ _ _ cE (@b9 _ _ _ _ _ _ _ _ _ (@vv _ _ _ _ _ 3 rfl (by first|exact Ey rfl|exact Du (Ey rfl)|exact Du (Du rfl)) (by decide) (by decide)) (@b9 _ _ _ _ _ _ _ _ _ cE (@b9 _ _ _ _ _ _ _ _ _ ZU b6 rfl) rfl) rfl) rfl) rfl (by decide) rfl (by decide) rfl rfl) (@ZV _ _ _ _ _ _ _ _ _ _ _ _ _ _ a (@ZV _ _ _ _ _ _ _ _ _ _ _ _ _ _ a (@vv _ _ _ _ _ 3 rfl (by first|exact Ey rfl|exact Du (Ey rfl)|exact Du (Du rfl)) (by decide) (by decide)) cE rfl (by exact λ_ _=>rfl) rfl) cE rfl (by exact λ_ _=>rfl) rfl) rfl rfl))) rfl)
end
end RR
namespace L2
open PySem
def YV(a b:String):Bj a=Bj b↔a=b:=by
 refine⟨λh=>?_,λh=>by rw[h]⟩;rw[Ii,Ii]at h;injection h with h;have h2:a.toList.map Py=b.toList.map Py:=by simpa using h
 have f:a.toList=b.toList:=by
  have inj:∀(l m:List Char),l.map Py=m.map Py->l=m:=by
   intro l;induction l with
   |nil=>intro m h;cases m with
    |nil=>rfl
    |cons=>cases h
   | cons c l d => intro m h;cases m with
    |nil=>cases h
    |cons e m=>
     simp only[Bg,Kb]at h;rw[d m h.2,Char.toNat_inj.mp h.1]
  exact inj _ _ h2
 exact String.toList_inj.mp f
def gE(a:String):Tp (Bj a)=b8:=by
 unfold Tp;rw[Ii];simp only[List.all_toArray,Tn,Eh,Sz,decide_eq_true_eq];intro c _;have:=c.valid
 rcases this with h|⟨_,h⟩
 ·show c.val.toNat<1114112
  have:c.val.toNat<55296:=h
  lia
 ·exact h
def okk(k:Nat)(d:cF):Prop:=d.isD=b8/\d.pd.canLay0=b8/\d.pd.depth<=k
def ZP{k:Nat}{i:Int}:okk k (.int i):=⟨rfl,rfl,Dm _⟩
def Wt{k:Nat}{i:Bool}:okk k (.bl i):=⟨rfl,rfl,Dm _⟩
def mE{k:Nat}:okk k .non:=⟨rfl,rfl,Dm _⟩
def ZT{k:Nat}{a:String}:okk k (.str (Bj a)):=⟨rfl,by simp[cF.pd,Gk,gE],Dm _⟩
theorem G7{k:Nat}:∀{ds:List cF},(∀d∈ds,okk k d)->ER ds=b8/\Ir (pds ds)=b8/\Fh (pds ds)<=k
 |[],_=>⟨rfl,rfl,Dm _⟩
 |d::ds,h=>by obtain⟨g,f,j⟩:=h d Bb;obtain⟨c,b,i⟩:=G7 λe a=>h e (Aq _ a);refine⟨by simp[ER,g,c],by simp[pds,Ir,f,b],?_⟩;simp only[pds,Fh];lia
def W2{k:Nat}{ds:List cF}(h:∀d∈ds,okk k d):okk (k+1) (.tup ds):=by obtain⟨a,b,c⟩:=G7 h;exact⟨by simpa[cF.isD]using a,by simpa[cF.pd,Gk]using b,by simp only[cF.pd,Iz];lia⟩
def WK{k:Nat}{ds:List cF}(h:∀d∈ds,okk k d):okk (k+1) (.lst ds):=by obtain⟨a,b,c⟩:=G7 h;exact⟨by simpa[cF.isD]using a,by simpa[cF.pd,Gk]using b,by simp only[cF.pd,Iz];lia⟩
def okk.ok{k:Nat}{d:cF}(h:okk k d)(a:k<=64:=by decide):JB d=b8:=by
 unfold JB Er;simp only[h.1,h.2.1,Tg,Af,decide_eq_true_eq];have:=h.2.2
 lia
@[simp] theorem sU{a:String}:JB (.str (Bj a))=b8:=(ZT (k:=0)).ok
def Y9{k:Nat}:∀d∈([]:List cF),okk k d:=λ_ h=>nomatch h
def aX{k:Nat}{d:cF}{ds:List cF}(h:okk k d)(t:∀d∈ds,okk k d):∀e∈d::ds,okk k e:=λe a=>by
 rcases Ai.mp a with z|z
 ·rw[z];exact h
 ·exact t e z
@[simp] theorem lr{i j:Int}:eqD (.int i) (.int j)=decide (i=j):=by show(i==j)=_;rw[Mx]
@[simp] theorem ui{a b:String}:eqD (.str (Bj a)) (.str (Bj b))=decide (a=b):=by show(Bj a==Bj b)=_;rw[Mx];simp only[YV]
@[simp] theorem rl{i j:Int}:YL (.int i) (.int j)=b3 (.bl (decide (i=j))):=by unfold YL;simp
@[simp] theorem qU{i j:Int}:UT (.int i) (.int j)=b3 (.bl (!decide (i=j))):=by unfold UT;simp
@[simp] theorem rj{a b:String}:YL (.str (Bj a)) (.str (Bj b))=b3 (.bl (decide (a=b))):=by unfold YL;simp
@[simp] theorem sx{a b:String}:UT (.str (Bj a)) (.str (Bj b))=b3 (.bl (!decide (a=b))):=by unfold UT;simp
def Xl{j k:Nat}{d e:cF}(h:okk j d)(h':okk k e)(b:j<=64:=by decide)(a:k<=64:=by decide):YL d e=b3 (.bl (eqD d e)):=by unfold YL;rw[h.ok b,h'.ok a];rfl
def E9{j k:Nat}{d e:cF}(h:okk j d)(h':okk k e)(b:j<=64:=by decide)(a:k<=64:=by decide):UT d e=b3 (.bl (!eqD d e)):=by unfold UT;rw[h.ok b,h'.ok a];rfl
def AY{j k:Nat}{neg:Bool}{d:cF}{ds:List cF}(h:okk j d)(h':∀e∈ds,okk k e)(b:j<=64:=by decide)(a:k+1<=64:=by decide):ZF neg d (.tup ds)=b3 (.bl (if neg then !IM d ds else IM d ds)):=by unfold ZF;simp[h.ok b,(W2 h').ok a]
def G3{j k:Nat}{neg:Bool}{d:cF}{ds:List cF}(h:okk j d)(h':∀e∈ds,okk k e)(b:j<=64:=by decide)(a:k+1<=64:=by decide):ZF neg d (.lst ds)=b3 (.bl (if neg then !IM d ds else IM d ds)):=by unfold ZF;simp[h.ok b,(WK h').ok a]
@[simp] theorem uP{d:cF}:IM d []=ba:=(rfl)
@[simp] theorem Vu{d e:cF}{ds:List cF}:IM d (e::ds)=(eqD e d || IM d ds):=(rfl)
@[simp] theorem AK{neg:Bool}{a b c:String}:ZF neg (.str (Bj a)) (.tup [.str (Bj b),.str (Bj c)])=b3 (.bl (if neg then !(decide (b=a) || decide (c=a))else decide (b=a) || decide (c=a))):=by rw[AY (j:=0) ZT (aX (ZT (k:=0)) (aX ZT Y9))];simp
@[simp] theorem qk{neg:Bool}{a b c d:String}:ZF neg (.str (Bj a)) (.tup [.str (Bj b),.str (Bj c),.str (Bj d)])=b3 (.bl (if neg then !(decide (b=a) || (decide (c=a) || decide (d=a)))else decide (b=a) || (decide (c=a) || decide (d=a)))):=by rw[AY (j:=0) ZT (aX (ZT (k:=0)) (aX ZT (aX ZT Y9)))];simp
@[simp] theorem Vx{neg:Bool}{a b c d e:String}:ZF neg (.str (Bj a)) (.tup [.str (Bj b),.str (Bj c),.str (Bj d),.str (Bj e)])=b3 (.bl (if neg then !(decide (b=a) || (decide (c=a) || (decide (d=a) || decide (e=a))))else decide (b=a) || (decide (c=a) || (decide (d=a) || decide (e=a))))):=by rw[AY (j:=0) ZT (aX (ZT (k:=0)) (aX ZT (aX ZT (aX ZT Y9))))];simp
@[simp] theorem sr{neg:Bool}{a b c:Int}:ZF neg (.int a) (.tup [.int b,.int c])=b3 (.bl (if neg then !(decide (b=a) || decide (c=a))else decide (b=a) || decide (c=a))):=by rw[AY (j:=0) ZP (aX (ZP (k:=0)) (aX ZP Y9))];simp
def EL{k:Nat}{d:cF}(h:okk k d):eqD d d=b8:=PySem.SeqAt.eqv_refl _ h.2.1
def YN(ns:List Int):cF:=.lst (ns.map .int)
def Y6(n:Nat):cF:=.lst (Ax n (.int 0))
theorem IP:∀ns:List Int,ER (ns.map cF.int)=b8
 |[]=>rfl
 |n::ns=>by simp[ER,cF.isD,IP ns]
theorem FE:∀ns:List Int,pds (ns.map cF.int)=ns.map Pl
 |[]=>rfl
 |n::ns=>by simp[pds,cF.pd,FE ns]
def iB(ns:List Int):JB (.lst (ns.map .int))=b8:=by unfold JB;simp only[cF.isD,IP,cF.pd,FE,Tg];exact FR ns
def PU(ns:List Int):YL (.lst (ns.map .int)) (.lst [])=b3 (.bl ns.isEmpty):=by unfold YL;rw[iB,show JB (.lst [])=b8 from by decide+kernel];cases ns<;>rfl
theorem IL:∀n:Nat,RP (Ax n (.int 0))=b8
 |0=>rfl
 |n+1=>by simp[Dx,RP,cF.hard,IL n]
@[simp] theorem pV(n:Nat):RT (Y6 n)=b8:=IL n
theorem IC:∀(ds:List cF) (a b:cF) (r:Int) (s:Sl),∃r' s',WI (gN 3) (ZZ 2 (xV (f2 AX (fV 2) (fC (.int 1000003))))) ds [.va a,.va b,.va (.int r),s]=b3 (.nx [.va a,.va b,.va (.int r'),s'])
 |[],a,b,r,s=>⟨r,s,rfl⟩
 |d::ds,a,b,r,s=>by obtain⟨r',s',h⟩:=IC ds a b (r/1000003) (.va d);exact⟨r',s',by simp[cDiv,h]⟩
def MB{ns:List Int}{i:Int}(c:0<=i)(h1:i<ns.length):∃r∈ns,RG (ns.map cF.int) i=b3 (.int r):=by obtain⟨x,a,e⟩:=CC (xs:=ns.map cF.int) c (by simpa using h1);obtain⟨r,b,rfl⟩:=Cd.mp a;exact⟨r,b,e⟩
def lA(ns:List Int)(k:Nat)(hl:ns.length<=63)(s:k<1000000):∃r,YD [YN ns,.int k]=b3 (.int r,[]):=by
 unfold YD;rw[bG];unfold UP SJ YN;by_cases h:(k:Int)<ns.length
 ·obtain ⟨r,_,e⟩ := MB (ns := ns) (i := k) (by lia) h
  exact⟨r,by simp[aU,h,e]⟩
 ·cases ns with
  |nil=>
   have o:¬((k:Int)<0):=by lia
   have e:YL (.lst []) (.lst [])=b3 (.bl b8):=PU [];exact⟨0,by simp[aU,o,e]⟩
  |cons m g=>
   generalize a:m::g=ns at*;have f:(0:Int)<ns.length:=by rw[<-a];simp
   have n:=Ig (k:Int) (show(ns.length:Int)≠0 by lia);have d:=Ew (k:Int) f;obtain⟨r,_,e⟩:=MB (ns:=ns) n d;have l:ns.isEmpty=ba:=by rw[<-a];rfl
   have q:0<=(k:Int)/ns.length:=Int.ediv_nonneg (by lia) (by lia);have j: -4611686018427387904<=(if(60:Int)<(k:Int)/ns.length then 60 else(k:Int)/ns.length)/\(if(60:Int)<(k:Int)/ns.length then 60 else(k:Int)/ns.length)<4611686018427387904:=by split<;>lia
   obtain⟨r',s',p⟩:=IC (YW 0 (if(60:Int)<(k:Int)/ns.length then 60 else(k:Int)/ns.length).toNat) (.lst (ns.map .int)) (.int k) r .no;have c:0<ns.length:=by lia
   have b:(ns.length:Int)<1073741824:=by lia
   exact⟨r*31+k+r'*101,by simp[aU,h,PU,l,f,c,b,e,cDiv,j,p,cMul]⟩
noncomputable def cel(ns:List Int)(k:Nat):Int:=match YD [YN ns,.int k]with
 |some (.int r,_)=>r
 |_=>0
def lH(ns:List Int)(k:Nat)(hl:ns.length<=63)(a:k<1000000):YD [YN ns,.int k]=b3 (.int (cel ns k),[]):=by obtain⟨r,e⟩:=lA ns k hl a;unfold cel;rw[e]
noncomputable def ON(ns:List Int)(n:Nat)(b:Int):Int:=((cel ns (n+1)*1103515245+7919*(((n+1:Nat)):Int)+12345) % 2147483647) ^ 5 % 2147483647 % 999983 % b
def UC(ns:List Int)(n:Nat){b:Int}(h:0<b):0<=ON ns n b:=Ig _ (by lia)
def QL(ns:List Int)(n:Nat){b:Int}(h:0<b):ON ns n b<b:=Ew _ h
def kR(ns:List Int)(n:Nat)(b:Int)(hl:ns.length<=63)(d:n<900000)(c:0<b):UW [YN ns,.int ((n+1:Nat):Int),.int b]=b3 (.int (ON ns n b),[]):=by
 have e:=lH ns (n+1) hl (by lia);unfold UW;rw[bG];unfold RM ON;have h:=Ig (cel ns (n+1)*1103515245+7919*((n+1:Nat):Int)+12345) (show(2147483647:Int)≠0 by decide);have g:=Ew (cel ns (n+1)*1103515245+7919*((n+1:Nat):Int)+12345) (show(0:Int)<2147483647 by decide);generalize hz:(cel ns (n+1)*1103515245+7919*((n+1:Nat):Int)+12345) % 2147483647=z at*;have a:z.natAbs<18446744073709551616:=by lia
 generalize f:((n+1:Nat):Int)=k at*;simp[aU,e,cMul,cPow,hz,a,c]
def YU(ns:List Int)(n:Nat)(b:Int)(hl:ns.length<=63)(d:n<900000)(f:0<b):aY [YN ns,Y6 n,.int b]=b3 (.int (ON ns n b),[Y6 (n+1)]):=by
 have e:=kR ns n b hl d f;unfold aY;rw[bG];unfold P1;have c:Y6 n=.lst (Ax n (.int 0)):=rfl;have a:Y6 (n+1)=.lst (Ax n (.int 0)++[.int 0]):=by unfold Y6;rw[List.replicate_succ']
 rw[a,c];have hs:n<16777216:=by lia
 push_cast at e
 simp[aU,hs,e]
def Y5(ns:List Int)(n:Nat)(xs:List cF)(hl:ns.length<=63)(b:n<900000)(d:0<xs.length):∃x∈xs,aZ [YN ns,Y6 n,.lst xs]=b3 (x,[Y6 (n+1)]):=by
 have a:(0:Int)<xs.length:=by lia
 obtain⟨x,c,e⟩:=CC (xs:=xs) (UC ns n a) (QL ns n a);refine⟨x,c,?_⟩;unfold aZ;rw[bG];unfold P5;simp[aU,YU ns n _ hl b a,e]
def AF(ns:List Int)(n:Nat)(b:Int)(hl:ns.length<=63)(a:n<900000)(c:0<b)(tl:Ev):bW 3 [1] aY (aE (fV 0) (aO 1 (aE (fC (.int b)) bO))) (.va (YN ns):: .ow (Y6 n)::tl)=b3 (.int (ON ns n b),.va (YN ns):: .ow (Y6 (n+1))::tl):=by simp[YU ns n b hl a c]
abbrev Sn(m:Nat)(d:cF):Prop:=∃(ks:List Z8) (vs:List Int),d=.dct ks (vs.map .int)/\ks.length=vs.length/\ks.Nodup/\ks.length<=m
abbrev KG(n:Nat)(d:cF):Prop:=Sn (8*n) d
def KG.mono{n m:Nat}{d:cF}(h:KG n d)(b:n<=m):KG m d:=by obtain⟨ks,vs,h1,h2,a,c⟩:=h;exact⟨ks,vs,h1,h2,a,by lia⟩
theorem Xs:∀(ks:List Z8) (vs:List Int) (k:Z8) (q:Int),∃r,(Z2 ks (vs.map .int) k).getD (.int q)=.int r
 |[],_,_,q=>⟨q,by simp[Z2]⟩
 |_::_,[],_,q=>⟨q,by simp[Z2]⟩
 | k' :: ks,v :: vs,k,q => by
  by_cases h:k'=k
  ·exact⟨v,by simp[Z2,h]⟩
  ·obtain⟨r,e⟩:=Xs ks vs k q
   exact⟨r,by simp only[Bg,Z2,if_neg h];exact e⟩
theorem putI:∀(ks:List Z8) (vs:List Int) (k:Z8) (p:Int),ks.length=vs.length->ks.Nodup->∃(a:List Z8) (b:List Int),W3 ks (vs.map .int) k (.int p)=(a,b.map .int)/\a.length=b.length/\a.Nodup/\a.length<=ks.length+1/\(∀z∈a,z=k∨z∈ks)/\Z2 a (b.map .int) k=b3 (.int p)
 |[],[],k,p,_,_=>⟨[k],[p],by simp[W3],rfl,by simp,by simp,by simp,by simp[Z2]⟩
 | k' :: ks,v :: vs,k,p,hl,c => by
  by_cases h:k'=k
  ·subst h
   exact⟨k'::ks,p::vs,by simp[W3],by simpa using hl,c,by simp,by simp,by simp[Z2]⟩
  ·obtain ⟨a,b,e,h1,h2,g,d,f⟩ := putI ks vs k p (by simpa using hl) (De.mp c).2
   refine⟨k'::a,v::b,by simp only[Bg,W3,if_neg h,e],by simp[h1],?_,by simp;lia,?_,by simp only[Bg,Z2,if_neg h];exact f⟩
   ·refine De.mpr ⟨λz => ?_,h2⟩
    rcases d _ z with y|y
    ·exact h y
    ·exact(De.mp c).1 y
   ·intro z hz
    rcases Ai.mp hz with y|y
    ·exact .inr (by rw[y];exact Bb)
    ·exact(d z y).imp id (Aq _)
def FH(ns:List Int)(n:Nat)(sn:cF)(x:Ug)(ae:Int)(hl:ns.length<=63)(r:n<800000)(hs:KG n sn)(g:0<ae):∃p d,0<=p/\p<ae/\KG (n+2) d/\Y2 [YN ns,Y6 n,sn,.str x,.int ae]=b3 (.int p,[Y6 (n+2),d]):=by
 obtain⟨ks,vs,rfl,h1,h2,u⟩:=hs;obtain⟨a,k⟩:=Xs ks vs (.inr x) (ON ns n ae);obtain⟨y,i,q⟩:=Y5 ns (n+1) [.int 1,.int 1,.int 1,.int 0,.int 3] hl (by lia) (by simp);obtain⟨b,rfl⟩:∃b,y=.int b:=by simp only[Ai,Ap,or_false]at i;rcases i with h|h|h|h|h<;>exact⟨_,h⟩
 obtain⟨f,c,e,o,m,t,s,l⟩:=putI ks vs (.inr x) ((a+b) % ae) h1 h2;refine⟨(a+b) % ae,.dct f (c.map .int),Ig _ (by lia),Ew _ g,⟨f,c,rfl,o,m,by lia⟩,?_⟩;have j:ks.length<16777216:=by lia
 unfold Y2;rw[bG];unfold RN;simp[aU,YU ns n ae hl (by lia) g,k,q,g,j,h2,e,l]
inductive ZY(M:Int->Prop):cF->Prop
 |number {n:Int}:0<=n->n<=999->ZY M (.tup [.str "number",.int n])
 |two {x:String}{a b:Int}:x∈["over","plus","minus","times","least","most","less"]->M a->M b->ZY M (.tup [.str x,.int a,.int b])
 |pick {c a b:Int}:M c->M a->M b->ZY M (.tup [.str "pick",.int c,.int a,.int b])
 |load {p:Int}:0<=p->p<=63->ZY M (.tup [.str "load",.int p])
 |take {p c a:Int}:0<=p->p<=63->M c->M a->ZY M (.tup [.str "take",.int p,.int c,.int a])
 |store {p a:Int}:0<=p->p<=63->M a->ZY M (.tup [.str "store",.int p,.int a])
 |put {p a c:Int}:0<=p->p<=63->M a->M c->ZY M (.tup [.str "put",.int p,.int a,.int c])
def on(ns:List Int)(n:Nat)(made:List Int)(hl:ns.length<=63)(l:n<800000)(o:0<made.length)(s:Sl):∃a b c,a∈made/\b∈made/\c∈made∧YO 3 1 (gN 3) V7 (f2 bN (fV 2) (f2 oMax (fC (.int 0)) (f2 RY (f2 RY (f1 ZG (fV 2)) (fC (.int 1))) (bW 3 [1] aY (aE (fV 0) (aO 1 (aE (fC (.int 6)) bO))))))) [.int 0,.int 1,.int 2] [] [.va (YN ns),.ow (Y6 n),.va (.lst (made.map .int))]=b3 ([.int a,.int b,.int c],[.va (YN ns),.ow (Y6 (n+3)),.va (.lst (made.map .int))]):=by
 have one:∀m,∃a∈made,RG (made.map cF.int) (if(made.length:Int)-1-ON ns m 6>0 then(made.length:Int)-1-ON ns m 6 else 0)=b3 (.int a):=λm=>by
  have:=UC ns m (b:=6) (by decide)
  exact MB (by split<;>lia) (by split<;>lia)
 obtain⟨a,h,f⟩:=one n;obtain⟨b,g,e⟩:=one (n+1);obtain⟨c,hc,d⟩:=one (n+2);refine⟨a,b,c,h,g,hc,?_⟩;have k:=YU ns n 6 hl (by lia) (by decide);have j:=YU ns (n+1) 6 hl (by lia) (by decide);have i:=YU ns (n+2) 6 hl (by lia) (by decide);simp only[gt_iff_lt,Int.sub_pos]at f e d;simp[k,j,i,f,e,d]
def onC(x:String):Prop:=x= "load" ∨x= "take" ∨x= "store" ∨x= "put"
def PlOK(ae:Int)(row:cF):Prop:=∀(x:String) (p:Int) (t:List cF),row=.tup (.str x:: .int p::t)->onC x->p<ae
def OZ{ae p:Int}{x:String}{t:List cF}(h:p<ae):PlOK ae (.tup (.str x:: .int p::t)):=λy q u e _=>by simp only[cF.tup.injEq,Kb,cF.int.injEq]at e;lia
def DA{ae:Int}{x:String}{t:List cF}(h:¬onC x):PlOK ae (.tup (.str x::t)):=λy q u e a=>by simp only[cF.tup.injEq,Kb,cF.str.injEq,YV]at e;rw[<-e.1]at a;exact absurd a h
def BX{x:String}(a:x∈["over","plus","minus","times","least","most","less"]):¬onC x:=λh=>by simp only[Ai,Ap,or_false]at a;rcases a with rfl|rfl|rfl|rfl|rfl|rfl|rfl<;>rcases h with h|h|h|h<;>exact absurd h (by decide)
def DO{s1 a:VS}{δ δ1:Ev}(h:s1 δ=b3 (.nx δ1)):bR s1 a δ=a δ1:=by rw[W5,h,O9]
def DM(ns:List Int)(n:Nat)(made:List Int)(sn:cF)(ae:Int)(hl:ns.length<=63)(T:n<700000)(hs:KG n sn)(E:0<ae)(K:ae<=64):∃row q d,n<=q/\q<=n+10/\KG q d/\ZY (· ∈made) row/\PlOK ae row/\T6 [YN ns,Y6 n,.lst (made.map .int),sn,.int ae]=b3 (row,[Y6 q,d]):=by
  have o:=AF ns n 13 hl (by lia) (by decide);have k0:=UC ns n (b:=13) (by decide);have k1:=QL ns n (b:=13) (by decide);generalize ON ns n 13=e at*;unfold T6;rw[bG];unfold NK;by_cases G:made.isEmpty=b8∨e=0
  · have t := AF ns (n + 1) 2 hl (by lia) (by decide)
    have j:made.isEmpty=b8∨(made.isEmpty=ba/\e=0):=by
      cases z:made.isEmpty with
      |true=>exact .inl rfl
      | false => rcases G with h | h
                 · rw[z]at h;cases h
                 · exact .inr ⟨rfl,h⟩
    by_cases h2:ON ns (n+1) 2=0
    · have H := AF ns (n + 2) 1000 hl (by lia) (by decide)
      obtain⟨y,r,m⟩:=Y5 ns (n+3) [.int 0,.int 1,.int 2,.int 5,.int 999,.int (ON ns (n+2) 1000)] hl (by lia) (by simp);obtain⟨b,rfl,C,B⟩:∃b,y=.int b/\0<=b/\b<=999:=by
        have:=UC ns (n+2) (b:=1000) (by decide)
        have:=QL ns (n+2) (b:=1000) (by decide)
        simp only[Ai,Ap,or_false]at r;rcases r with h|h|h|h|h|h<;>exact⟨_,h,by lia,by lia⟩
      refine⟨.tup [.str "number",.int b],n+4,sn,by lia,by lia,hs.mono (by lia),.number C B,DA (by unfold onC;decide),?_⟩;rcases j with h|⟨h,h'⟩
      · simp[aU,↓o,PU,h,↓t,h2,↓H,m]
      · simp[aU,↓o,PU,h,h',↓t,h2,↓H,m]
    · obtain ⟨p,d,i,p1,f,g⟩ := FH ns (n + 2) sn "load" ae hl (by lia) (hs.mono (by lia)) E
      refine⟨.tup [.str "load",.int p],n+4,d,by lia,by lia,f,.load i (by lia),OZ p1,?_⟩;rcases j with h|⟨h,h'⟩
      · simp[aU,↓o,PU,h,↓t,h2,g]
      · simp[aU,↓o,PU,h,h',↓t,h2,g]
  · obtain⟨z,A⟩:=not_or.mp G
    have k:made.isEmpty=ba:=by simpa using z
    have O:0<made.length:=by
      cases made with
      |nil=>cases k
      |cons=>simp
    obtain⟨a,b,c,l,F,hc,M⟩:=on ns (n+1) made hl (by lia) O .no;rw[show aU [1,3] 9 [YN ns,Y6 n,.lst (made.map .int),sn,.int ae]=[.va (YN ns),.ow (Y6 n),.va (.lst (made.map .int)),.ow sn,.va (.int ae),.no,.no,.no,.no] from rfl,DO (δ1:=[.va (YN ns),.ow (Y6 (n+1)),.va (.lst (made.map .int)),.ow sn,.va (.int ae),.va (.int e),.no,.no,.no]) (by simp[↓o]),DO (δ1:=[.va (YN ns),.ow (Y6 (n+1)),.va (.lst (made.map .int)),.ow sn,.va (.int ae),.va (.int e),.no,.no,.no]) (by simp[PU,k,A]),DO (δ1:=[.va (YN ns),.ow (Y6 (n+4)),.va (.lst (made.map .int)),.ow sn,.va (.int ae),.va (.int e),.va (.int a),.va (.int b),.va (.int c)]) (by simp[Z1,M])]
    have L:(e=1∨e=2)∨e=3∨(e=4∨e=5)∨e=6∨e=7∨(8<=e/\e<=12):=by lia
    have pl:∀x:Ug,∃p d,0<=p/\p<=63/\p<ae/\KG (n+6) d/\∀s tl,bW 5 [1,2] Y2 (aE (fV 0) (aO 1 (aO 3 (aE (fC (.str x)) (aE (fV 4) bO))))) (.va (YN ns):: .ow (Y6 (n+4))::s:: .ow sn:: .va (.int ae)::tl)=b3 (.int p,.va (YN ns):: .ow (Y6 (n+6))::s:: .ow d:: .va (.int ae)::tl):=λx=>by obtain⟨p,d,i,p1,f,g⟩:=FH ns (n+4) sn x ae hl (by lia) (hs.mono (by lia)) E;exact⟨p,d,i,by lia,p1,f,λs tl=>by simp[g]⟩
    rcases L with h|h|h|h|h|h
    · have v : (decide (1 = e) || decide (2 = e)) = b8 := by rcases h with rfl | rfl <;> decide
      obtain⟨p,d,i,p1,p2,f,g⟩:=pl "load";exact⟨.tup [.str "load",.int p],n+6,d,by lia,by lia,f,.load i p1,OZ p2,by simp[↓g,v]⟩
    · subst h
      obtain⟨p,d,i,p1,p2,f,g⟩:=pl "take";exact⟨.tup [.str "take",.int p,.int c,.int a],n+6,d,by lia,by lia,f,.take i p1 hc l,OZ p2,by simp[↓g]⟩
    · have u : (decide (4 = e) || decide (5 = e)) = b8 := by rcases h with rfl | rfl <;> decide
      have w:¬e=3:=by lia
      have m1:¬1=e:=by lia
      have m2:¬2=e:=by lia
      obtain⟨p,d,i,p1,p2,f,g⟩:=pl "store";exact⟨.tup [.str "store",.int p,.int a],n+6,d,by lia,by lia,f,.store i p1 l,OZ p2,by simp[↓g,w,m1,m2,u]⟩
    · subst h
      obtain⟨p,d,i,p1,p2,f,g⟩:=pl "put";exact⟨.tup [.str "put",.int p,.int a,.int c],n+6,d,by lia,by lia,f,.put i p1 l hc,OZ p2,by simp[↓g]⟩
    · subst h
      exact⟨.tup [.str "pick",.int c,.int a,.int b],n+4,sn,by lia,by lia,hs.mono (by lia),.pick hc l F,DA (by unfold onC;decide),by simp⟩
    · have N := AF ns (n + 4) 7 hl (by lia) (by decide)
      have q0:=UC ns (n+4) (b:=7) (by decide);have q1:=QL ns (n+4) (b:=7) (by decide);obtain⟨y,r,m⟩:=CC (xs:=["over","plus","minus","times","least","most","less"].map λs:String=>cF.str (Bj s)) q0 (by simpa using q1);obtain⟨x,D,rfl⟩:=Cd.mp r;simp only[Bg,Cw]at m;have S:¬e=1:=by lia
      have R:¬e=2:=by lia
      have w:¬e=3:=by lia
      have Q:¬e=4:=by lia
      have P:¬e=5:=by lia
      have J:¬e=6:=by lia
      have I:¬e=7:=by lia
      have m1:¬1=e:=by lia
      have m2:¬2=e:=by lia
      have m4:¬4=e:=by lia
      have m5:¬5=e:=by lia
      exact⟨.tup [.str x,.int a,.int b],n+5,sn,by lia,by lia,hs.mono (by lia),.two D l F,DA (BX D),by simp[w,J,I,m1,m2,m4,m5,↓N,m]⟩
inductive Kd where
 |w|p|n
 deriving DecidableEq
def Nm(kds:List Kd)(k:Kd)(a:Int):Prop:=0<=a/\kds[a.toNat]?=b3 k
def Nm.lt{kds:List Kd}{k:Kd}{a:Int}(h:Nm kds k a):a<kds.length:=by
 have:=(Ag.mp h.2).1
 have:=h.1
 lia
def Nm.snoc{kds:List Kd}{k j:Kd}{a:Int}(h:Nm kds k a):Nm (kds++[j]) k a:=⟨h.1,by rw[Ak (Ag.mp h.2).1];exact h.2⟩
def Nm.new{kds:List Kd}{k:Kd}:Nm (kds++[k]) k kds.length:=⟨by lia,by simp⟩
noncomputable def QO(k:Kd):cF->Kd
 |.tup (.str x::_)=>if x= "store" ∨x= "put" then .n else k
 |_=>.n
inductive PR(L:Nat)(kds:List Kd):cF->Kd->Prop
 |nar {row:cF}:ZY (Nm kds .w) row->PR L kds row (QO .w row)
 |wid {ds:List cF}:ZY (Nm kds .p) (.tup ds)->(∀n,ds≠[.str "number",.int n])->PR L kds (.tup (.str "wide"::ds)) (QO .p (.tup ds))
 |wnum {ws:List Int}:ws.length=L->(∀w∈ws,0<=w/\w<=999)->PR L kds (.tup [.str "wide",.str "number",.tup (ws.map .int)]) .p
 |gather {rs:List Int}:rs.length=L->(∀r∈rs,Nm kds .w r)->PR L kds (.tup [.str "gather",.tup (rs.map .int)]) .p
 |shuf {p q:Int}{ps:List Int}:Nm kds .p p->Nm kds .p q->ps.length=L->(∀x∈ps,0<=x/\x<2*L)->PR L kds (.tup [.str "shuffle",.int p,.int q,.tup (ps.map .int)]) .p
 |lane {p k:Int}:Nm kds .p p->0<=k->k<L->PR L kds (.tup [.str "lane",.int p,.int k]) .w
inductive D4(L:Nat):List Kd->List cF->List Kd->Prop
 |nil {kds:List Kd}:D4 L kds [] kds
 |cons {kds af:List Kd}{row:cF}{k:Kd}{rows:List cF}:PR L kds row k->D4 L (kds++[k]) rows af->D4 L kds (row::rows) af
def D4.snoc{L:Nat}{kds b:List Kd}{rows:List cF}{row:cF}{k:Kd}(h:D4 L kds rows b)(r:PR L b row k):D4 L kds (rows++[row]) (b++[k]):=by
 induction h with
 |nil=>exact .cons r .nil
 |cons a _ c=>exact .cons a (c r)
def D4.len{L:Nat}{kds b:List Kd}{rows:List cF}(h:D4 L kds rows b):b.length=kds.length+rows.length:=by
 induction h with
 |nil=>simp
 |cons a _ c=>simp at c⊢;lia
def ZY.imp{M M':Int->Prop}{row:cF}(h:ZY M row)(f:∀a,M a->M' a):ZY M' row:=by
 cases h with
 |number a b=>exact .number a b
 |two a b c=>exact .two a (f _ b) (f _ c)
 |pick a b c=>exact .pick (f _ a) (f _ b) (f _ c)
 |load a b=>exact .load a b
 |take a b c d=>exact .take a b (f _ c) (f _ d)
 |store a b c=>exact .store a b (f _ c)
 |put a b c d=>exact .put a b (f _ c) (f _ d)
def ZY.hard{M:Int->Prop}{row:cF}(h:ZY M row):row.hard=b8:=by
 cases h<;>simp[cF.hard,RP]
structure GI(L:Nat)(rows:List cF)(words ah:List Int)(kds:List Kd):Prop where
 rows:D4 L [] rows kds
 w:∀a∈words,Nm kds .w a
 p:∀a∈ah,Nm kds .p a
 wn:0<words.length
 pn:0<ah.length
def GI.more{L:Nat}{rows:List cF}{words ah:List Int}{kds:List Kd}{row:cF}{k:Kd}(G:GI L rows words ah kds)(r:PR L kds row k):GI L (rows++[row]) (if k=.w then words++[(rows.length:Int)]else words) (if k=.p then ah++[(rows.length:Int)]else ah) (kds++[k]):=by
 have hl:rows.length=kds.length:=by have:=G.rows.len;simp at this;lia
 refine⟨G.rows.snoc r,λa b=>?_,λa b=>?_,?_,?_⟩
 ·split at b
  ·rename_i h
   rcases Bq.mp b with z|z
   ·exact(G.w a z).snoc
   ·rw[Ar.mp z,hl,h];exact Nm.new
  ·exact(G.w a b).snoc
 ·split at b
  ·rename_i h
   rcases Bq.mp b with z|z
   ·exact(G.p a z).snoc
   ·rw[Ar.mp z,hl,h];exact Nm.new
  ·exact(G.p a b).snoc
 ·have:=G.wn
  split<;>simp<;>lia
 ·have:=G.pn
  split<;>simp<;>lia
theorem NG(ns:List Int)(b:Int)(hl:ns.length<=63)(i:0<b)(fe:VF)(x:Sl)(tail:Ev)(c:Nat)(a:c=tail.length+2)(g:∀n d,n<800000->fe ([.va (YN ns),.ow (Y6 n)]++tail++[.va d])=b3 (.int (ON ns n b),[.va (YN ns),.ow (Y6 (n+1))]++tail++[.va d])):∀(ds:List cF) (n:Nat) (acc:List cF),n+ds.length<800000->acc.length+ds.length<1000000->∃f:List Int,f.length=ds.length/\(∀w∈f,0<=w/\w<b)∧YO c 1 (gN c) V7 fe ds acc ([.va (YN ns),.ow (Y6 n)]++tail)=b3 (acc++f.map .int,[.va (YN ns),.ow (Y6 (n+ds.length))]++tail)
 |[],n,acc,_,_=>⟨[],rfl,(λ_ h=>nomatch h),by simp⟩
 | d :: ds,n,acc,j,k => by
  obtain⟨f,h1,h2,l⟩:=NG ns b hl i fe x tail c a g ds (n+1) (acc++[.int (ON ns n b)]) (by simp at j;lia) (by simp at k⊢;lia);refine⟨ON ns n b::f,by simp[h1],λw hw=>?_,?_⟩
  ·rcases Ai.mp hw with z|z
   ·rw[z];exact⟨UC ns n i,QL ns n i⟩
   ·exact h2 w z
  ·have e := g n d (by simp at j;lia)
   have m:([Sl.va (YN ns),Sl.ow (Y6 n)]++tail++[Sl.no]).set c (.va d)=[Sl.va (YN ns),Sl.ow (Y6 n)]++tail++[Sl.va d]:=by rw[Fu _ _ (by simp[a])];simp[a]
   have p:([Sl.va (YN ns),Sl.ow (Y6 (n+1))]++tail++[Sl.va d]).take c=[Sl.va (YN ns),Sl.ow (Y6 (n+1))]++tail:=by rw[Co (by simp[a]),Cf (by simp[a])]
   have o:acc.length<16777216:=by simp at k;lia
   simp only[Q1,AU,J3,m,JH,Wg,BC,e,BD,if_pos o,p,l];simp[show n+1+ds.length=n+(ds.length+1) by lia]
theorem IE(ns:List Int)(xs:List Int)(hl:ns.length<=63)(b:0<xs.length):∀(ds:List cF) (n:Nat) (acc:List cF),n+ds.length<800000->acc.length+ds.length<1000000->∃a:List Int,a.length=ds.length/\(∀w∈a,w∈xs)∧YO 3 1 (gN 3) V7 (bW 3 [1] aZ (aE (fV 0) (aO 1 (aO 2 bO)))) ds acc [.va (YN ns),.ow (Y6 n),.ow (.lst (xs.map .int))]=b3 (acc++a.map .int,[.va (YN ns),.ow (Y6 (n+ds.length)),.ow (.lst (xs.map .int))])
 |[],n,acc,_,_=>⟨[],rfl,(λ_ h=>nomatch h),by simp⟩
 | d :: ds,n,acc,c,e => by
  obtain⟨y,f,j⟩:=Y5 ns n (xs.map .int) hl (by simp at c;lia) (by simpa using b);obtain⟨v,g,rfl⟩:=Cd.mp f;obtain⟨a,h1,h2,i⟩:=IE ns xs hl b ds (n+1) (acc++[.int v]) (by simp at c;lia) (by simp at e⊢;lia);refine⟨v::a,by simp[h1],λw hw=>?_,?_⟩
  ·rcases Ai.mp hw with z|z
   ·rw[z];exact g
   ·exact h2 w z
  ·have k : acc.length < 16777216 := by simp at e;lia
   simp[j,cF.hard,k,i,show n+1+ds.length=n+(ds.length+1) by lia]
@[simp] theorem rQ{i:Int}:VJ (.int i)=b3 (.int (-i)):=(rfl)
def Q2{ds:List cF}{k:Nat}(h:k<=ds.length):UB ds (b3 (k:Int)) b4=ds.drop k:=by unfold UB;rw[HT.BO,HT.FO,Sc h,Cf (by simp)]
def OM{ds:List cF}{k:Nat}:UB ds b4 (b3 (k:Int))=ds.take k:=by
 unfold UB;rw[HT.BO,HT.FO];simp only[Nj,Nat.sub_zero];by_cases h:k<=ds.length
 ·rw[Sc h]
 ·rw[Nat.min_eq_right (by lia),Cf (by lia),Cf (by lia)]
@[simp] theorem uv{d:cF}{ds:List cF}:UB (d::ds) (b3 1) b4=ds:=Q2 (k:=1) (by simp)
@[simp] theorem qy{d e:cF}{ds:List cF}:UB (d::e::ds) (b3 2) b4=ds:=Q2 (k:=2) (by simp)
@[simp] theorem sf{ds:List cF}:UB ds b4 (b3 2)=ds.take 2:=OM (k:=2)
@[simp] theorem pN{ds:List cF}:UB ds b4 (b3 1)=ds.take 1:=OM (k:=1)
@[simp] theorem qu{α:Type}{xs:List α}{x:α}:RG (xs++[x]) (-1)=b3 x:=by
 unfold RG ixN;rw[if_neg (by decide),if_pos (by simp;lia)];have e:(-1+((xs++[x]).length:Int)).toNat=xs.length:=by simp;lia
 show(xs++[x])[(-1+((xs++[x]).length:Int)).toNat]?=b3 x;rw[e];simp
@[simp] theorem rZ{α:Type}{x:α}{xs:List α}:RG (x::xs) 0=b3 x:=by rw[SZ (by decide) (by simp)];rfl
@[simp] theorem sK{α:Type}{x y:α}{xs:List α}:RG (x::y::xs) 1=b3 y:=by rw[SZ (by decide) (by simp;lia)];rfl
@[simp] theorem tf{α:Type}{x y z:α}{xs:List α}:RG (x::y::z::xs) 2=b3 z:=by rw[SZ (by decide) (by simp;lia)];rfl
def E4{k:Kd}{x:String}{t:List cF}(a:x∉["store","put"]):QO k (.tup (.str x::t))=k:=by simp only[Ai,Ap,or_false,not_or]at a;simp[QO,YV,a]
def E5{k:Kd}{x:String}{t:List cF}(a:x= "store" ∨x= "put"):QO k (.tup (.str x::t))=.n:=by
 rcases a with rfl|rfl<;>simp[QO,YV]
def W4{M:Int->Prop}{row:cF}(h:ZY M row):∃(x:String) (t:List cF),row=.tup (.str x::t)/\x∉["wide","gather","shuffle"]:=by
 cases h with
 |two a _ _=>
  simp only[Ai,Ap,or_false]at a;rcases a with rfl|rfl|rfl|rfl|rfl|rfl|rfl<;>exact⟨_,_,rfl,by decide⟩
 |_=>exact⟨_,_,rfl,by decide⟩
@[simp] theorem PL(n lo hi:Int):a9 [.int n,.int lo,.int hi]=b3 (.bl (decide (lo<=n)&&decide (n<=hi)),[]):=by unfold a9;rw[bG];unfold P0;simp[aU];by_cases h:lo<=n<;>simp[h]
def mf{x:String}(h:x∈["over","plus","minus","times","least","most","less"]):YH [.str x]=b3 (.tup [.str "row",.str "row"],[]):=by simp only[Ai,Ap,or_false]at h;rcases h with rfl|rfl|rfl|rfl|rfl|rfl|rfl<;>kernel_rfl
@[simp] theorem pq:YH [.str "number"]=b3 (.tup [.str "word"],[]):=by kernel_rfl
@[simp] theorem ur:YH [.str "pick"]=b3 (.tup [.str "row",.str "row",.str "row"],[]):=by kernel_rfl
@[simp] theorem uk:YH [.str "load"]=b3 (.tup [.str "place"],[]):=by kernel_rfl
@[simp] theorem rD:YH [.str "take"]=b3 (.tup [.str "place",.str "row",.str "row"],[]):=by kernel_rfl
@[simp] theorem rJ:YH [.str "store"]=b3 (.tup [.str "place",.str "row"],[]):=by kernel_rfl
@[simp] theorem uD:YH [.str "put"]=b3 (.tup [.str "place",.str "row",.str "row"],[]):=by kernel_rfl
def Ab(b:List Bool)(a:Int):Prop:=0<=a/\b[a.toNat]?=b3 b8
def K5{b:List Bool}{a:Int}(h:Ab b a):YG [.int a,.lst (b.map .bl)]=b3 (.bl b8,[]):=by
 have d:=(Ag.mp h.2).1;have c:=h.1;have h1:a<=(b.length:Int)-1:=by lia
 have h2:RG (b.map cF.bl) a=b3 (.bl b8):=by rw[SZ c (by simp;lia)];simp[h.2]
 unfold YG;rw[bG];unfold P7;simp[aU,c,h1,h2]
def XS{b:List Bool}{a:Int}(h:Ab b a):RF [.str "row",.int a,.lst (b.map .bl)]=b3 (.bl b8,[]):=by unfold RF;rw[bG];unfold KS;simp[aU,K5 h]
def mP{d:cF}{a:Int}(h:0<=a)(h':a<=999):RF [.str "word",.int a,d]=b3 (.bl b8,[]):=by unfold RF;rw[bG];unfold KS;simp[aU,WG,h,h']
def TF{d:cF}{a:Int}(h:0<=a)(h':a<=63):RF [.str "place",.int a,d]=b3 (.bl b8,[]):=by unfold RF;rw[bG];unfold KS;simp[aU,OK,h,h']
@[simp] theorem qp:MJ []=b3 []:=(rfl)
@[simp] theorem sW{b:Bool}{ds:List cF}:MJ (.bl b::ds)=(MJ ds).map λks=>b::ks:=(rfl)
@[simp] theorem sk{g:List Bool->Bool}{ds:List cF}:Vd g (.lst ds)=(MJ ds).map λks=>.bl (g ks):=(rfl)
@[simp] theorem ti{ds:List cF}:SD ds []=[]:=by cases ds<;>rfl
@[simp] theorem pQ{d e:cF}{ds es:List cF}:SD (d::ds) (e::es)=.tup [d,e]::SD ds es:=(rfl)
def K1{e:List Bool}{row:cF}(h:ZY (Ab e) row):T5 [row,.lst (e.map .bl)]=b3 (.bl b8,[]):=by
 unfold T5;rw[bG];unfold KW;cases h with
 |number a b=>simp[aU,Z1,mP a b]
 |two f a b=>simp[aU,Z1,mf f,XS a,XS b]
 |pick a b c=>simp[aU,Z1,XS a,XS b,XS c]
 |load a b=>simp[aU,Z1,TF a b]
 |take a b c d=>simp[aU,Z1,TF a b,XS c,XS d]
 |store a b c=>simp[aU,Z1,TF a b,XS c]
 |put a b c d=>simp[aU,Z1,TF a b,XS c,XS d]
theorem UA(a:Nat)(fe:VF)(δ:Ev)(f:cF->cF)(b:δ.length=a):∀(ds acc:List cF),(∀d∈ds,fe (δ++[Sl.va d])=b3 (f d,δ++[Sl.va d]))->acc.length+ds.length<16777216->YO a 1 (gN a) V7 fe ds acc δ=b3 (acc++ds.map f,δ)
 |[],acc,_,_=>by simp
 |d::ds,acc,h,hl=>by
  have i:(δ++[Sl.no]).set a (.va d)=δ++[Sl.va d]:=by rw[Fu _ _ (by lia)];simp[b]
  have k:(δ++[Sl.va d]).take a=δ:=by rw[Co (by lia),Cf (by lia)]
  have j:acc.length<16777216:=by simp at hl;lia
  have c:=UA a fe δ f b ds (acc++[f d]) (λe g=>h e (Aq _ g)) (by simp at hl⊢;lia);simp only[Q1,AU,J3,i,JH,Wg,BC,h d Bb,BD,if_pos j,k,c];simp
theorem RH{α:Type}:∀ds:List α,MJ (ds.map λ_=>.bl b8)=b3 (ds.map λ_=>b8)
 |[]=>rfl
 |d::ds=>by simp[RH ds]
@[simp] theorem oR{α β:Type}(f:α->β)(ds:List α):MJ (ds.map ((λ_=>cF.bl b8)∘f))=b3 (ds.map λ_=>b8):=RH ds
def LG(k:Nat):(YW 0 k).length=k:=by simp[YW]
theorem EZ:∀(ks:List Z8) (a:List cF) (i:Nat) (k:Z8),ks.Nodup->ks.length=a.length->ks[i]?=b3 k->Z2 ks a k=a[i]?
 |[],_,i,k,_,_,e=>by simp at e
 |k'::ks,[],i,k,_,hl,_=>by simp at hl
 |k'::ks,w::a,0,k,_,_,e=>by simp at e;simp[Z2,e]
 |k'::ks,w::a,i+1,k,c,hl,e=>by
  have d:ks[i]?=b3 k:=by simpa using e
  have b:¬k'=k:=λz=>(De.mp c).1 (by rw[z];exact Ee d);have:=EZ ks a i k (De.mp c).2 (by simpa using hl) d
  simp[Z2,b,this]
noncomputable def cnt:cF->Nat
 |.tup (.str x::_)=>if x= "number" ∨x= "load" then 0 else if x= "store" then 1 else if x= "pick" then 3 else 2
 |_=>0
def dne{x:String}(b:x∈["over","plus","minus","times","least","most","less"]){y:String}(a:(["over","plus","minus","times","least","most","less"].contains y)=ba):(¬x=y)/\¬y=x:=by
 have h:¬x=y:=λe=>by subst e;rw[List.contains_iff_mem.mpr b]at a;cases a
 exact⟨h,λe=>h e.symm⟩
def CW{M:Int->Prop}{row:cF}(h:ZY M row):∃as:List Int,(∀a∈as,M a)/\as.length=cnt row/\Y1 [row]=b3 (.lst (as.map .int),[])/\Y1 [row]=b3 (.lst (as.map .int),[]):=by
 cases h with
 | @number n _ _=>
  refine⟨[],(λ_ h=>nomatch h),by kernel_rfl,?_,?_⟩
  ·kernel_rfl
  ·kernel_rfl
 | @two x a b e d f=>
  refine⟨[a,b],by simp[d,f],?_,?_,?_⟩
  ·simp only[Ai,Ap,or_false]at e
   rcases e with rfl|rfl|rfl|rfl|rfl|rfl|rfl<;>kernel_rfl
  ·simp only[Ai,Ap,or_false]at e
   rcases e with rfl|rfl|rfl|rfl|rfl|rfl|rfl<;>kernel_rfl
  ·simp only[Ai,Ap,or_false]at e
   rcases e with rfl|rfl|rfl|rfl|rfl|rfl|rfl<;>kernel_rfl
 | @pick c a b hc d f=>
  refine⟨[c,a,b],by simp[hc,d,f],by kernel_rfl,?_,?_⟩
  ·kernel_rfl
  ·kernel_rfl
 | @load p _ _=>
  refine⟨[],(λ_ h=>nomatch h),by kernel_rfl,?_,?_⟩
  ·kernel_rfl
  ·kernel_rfl
 | @take p c a _ _ hc d=>
  refine⟨[c,a],by simp[hc,d],by kernel_rfl,?_,?_⟩
  ·kernel_rfl
  ·kernel_rfl
 | @store p a _ _ d=>
  refine⟨[a],by simp[d],by kernel_rfl,?_,?_⟩
  ·kernel_rfl
  ·kernel_rfl
 | @put p a c _ _ d hc=>
  refine⟨[a,c],by simp[d,hc],by kernel_rfl,?_,?_⟩
  ·kernel_rfl
  ·kernel_rfl
inductive Bl:List Kd->List cF->List Kd->Prop
 |nil {kds:List Kd}:Bl kds [] kds
 |cons {kds af:List Kd}{row:cF}{rows:List cF}:ZY (Nm kds .w) row->Bl (kds++[QO .w row]) rows af->Bl kds (row::rows) af
def Bl.snoc{kds b:List Kd}{rows:List cF}{row:cF}(h:Bl kds rows b)(r:ZY (Nm b .w) row):Bl kds (rows++[row]) (b++[QO .w row]):=by
 induction h with
 |nil=>exact .cons r .nil
 |cons a _ c=>exact .cons a (c r)
def Bl.len{kds a:List Kd}{rows:List cF}(h:Bl kds rows a):a.length=kds.length+rows.length:=by
 induction h with
 |nil=>simp
 |cons _ _ b=>simp only[b,By,Br,Gs];lia
def Bl.all{kds c:List Kd}{rows:List cF}(h:Bl kds rows c):∀d∈rows,ZY (Nm c .w) d:=by
 induction h with
 |nil=>intro d hd;cases hd
 | @cons kds c row rows a t b=>
  intro d hd;rcases Ai.mp hd with rfl|hd
  ·refine a.imp λx f => ?_
   have:∀{k k':List Kd}{e:List cF},Bl k e k'->Nm k .w x->Nm k' .w x:=by
    intro k k' e h;induction h with
    |nil=>exact id
    |cons _ _ b=>exact λz=>b z.snoc
   exact this t f.snoc
  ·exact b d hd
theorem NL:∀ns:List Int,VH (ns.map .int)=b3 ns
 |[]=>rfl
 |i::ns=>by show(VH (ns.map .int)).map (λns=>i::ns)=_;rw[NL ns];rfl
theorem A6{n:Int}:∀{ns:List Int},n∈ns->∃j:Nat,TY n ns=b3 j/\j<ns.length
 | i :: ns,h => by
  unfold TY;by_cases e:i=n
  ·rw[if_pos e];exact⟨0,rfl,by simp⟩
  ·rw[if_neg e]
   obtain⟨j,h1,h2⟩:=A6 (ns:=ns) (by
    rcases Ai.mp h with z|z
    ·exact absurd z.symm e
    ·exact z)
   exact⟨j+1,by rw[h1];rfl,by simp;lia⟩
noncomputable def nst(ns:List Int)(n:Nat)(rows:List cF)(made:List Int)(sn:cF)(ae:Int)(last:cF)(fi:Int)(bs:List Int)(a s10:Sl):Ev:=
 [.va (YN ns),.ow (Y6 n),.va (.lst rows),.va (.lst (made.map .int)),.ow sn,.va (.int ae),.va last,.va (.int fi),.ow (.lst (bs.map .int)),a,s10]
def fU(ns:List Int)(n:Nat)(rows:List cF)(made:List Int)(sn:cF)(ae:Int)(last:cF)(fi:Int)(bs:List Int)(a:Int)(s10:Sl)(hl:ns.length<=63)(m:n<700000)(d:a∈made)(o:bs.length<100):∃b∈made,∃l,X2 (nst ns n rows made sn ae last fi bs (.va (.int a)) s10)=b3 (.nx (nst ns (n+1) rows made sn ae last fi (bs++[b]) (.va (.int a)) l)):=by
 obtain⟨j,i,h⟩:=A6 d;obtain⟨x,f,ex⟩:=Y5 ns n [.int 1,.int 1,.int 1,.int 1,.int (-1),.int 0,.int 2] hl (by lia) (by simp);obtain⟨p,rfl⟩:∃p,x=.int p:=by simp only[Ai,Ap,or_false]at f;rcases f with rfl|rfl|rfl|rfl|rfl|rfl|rfl<;>exact⟨_,rfl⟩
 have hi:C4 (.lst (made.map .int)) (.int a)=b3 (.int j):=by show(VH (made.map .int)).bind (λns=>(TY a ns).map λj=>cF.int j)=_;rw[NL,An,i];rfl
 have c:bs.length<16777216:=by lia
 by_cases h1:0<=(j:Int)+p/\(j:Int)+p<made.length
 ·obtain⟨q,g,eq⟩:=MB (ns:=made) h1.1 h1.2
  by_cases h2:q=(rows.length:Int)-1
  ·refine⟨a,d,.va (.int (j+p)),?_⟩
   unfold X2;simp[nst,hi,ex,h1.1,h1.2,eq,h2,c]
  ·refine⟨q,g,.va (.int (j+p)),?_⟩
   unfold X2;simp[nst,hi,ex,h1.1,h1.2,eq,h2,c]
 ·refine⟨a,d,.va (.int (j+p)),?_⟩
  unfold X2;by_cases e:0<=(j:Int)+p
  ·have k : ¬ (j : Int) + p < made.length := λz => h1 ⟨e,z⟩
   simp[nst,hi,ex,e,k,c]
  ·simp[nst,hi,ex,e,c]
theorem CZ(ns:List Int)(rows:List cF)(made:List Int)(sn:cF)(ae:Int)(last:cF)(fi:Int)(hl:ns.length<=63):∀(as:List Int) (n:Nat) (bs:List Int) (f s10:Sl),n+as.length<700000->(∀a∈as,a∈made)->bs.length+as.length<100->∃cs:List Int,(∀c∈cs,c∈made)/\cs.length=as.length/\∃d i,WI (gN 9) X2 (as.map .int) (nst ns n rows made sn ae last fi bs f s10)=b3 (.nx (nst ns (n+as.length) rows made sn ae last fi (bs++cs) d i))
 |[],n,bs,f,s10,_,_,_=>⟨[],by simp,rfl,f,s10,by simp⟩
 | a :: as,n,bs,f,s10,m,j,o => by
  simp only[Br]at m o;obtain⟨b,h,g,e⟩:=fU ns n rows made sn ae last fi bs a s10 hl (by lia) (j a Bb) (by lia);obtain⟨cs,h1,h2,d,i,k⟩:=CZ ns rows made sn ae last fi hl as (n+1) (bs++[b]) (.va (.int a)) g (by lia) (λx l=>j x (Aq _ l)) (by simp;lia);refine⟨b::cs,λc hc=>?_,by simp[h2],d,i,?_⟩
  ·rcases Ai.mp hc with rfl|hc
   ·exact h
   ·exact h1 c hc
  rw[Bg,TH,J3,PB,show(nst ns n rows made sn ae last fi bs f s10).set 9 (.va (.int a))=nst ns n rows made sn ae last fi bs (.va (.int a)) s10 from rfl,e,PC,k];simp[Nat.add_assoc,Qf 1]
def cel4{x:String}(h:onC x):(decide ("load"=x) || (decide ("take"=x) || (decide ("store"=x) || decide ("put"=x))))=b8:=by
 rcases h with rfl|rfl|rfl|rfl<;>decide
def snM{m k:Nat}{d:cF}(h:Sn m d)(a:m<=k):Sn k d:=by obtain⟨ks,vs,e,h1,h2,b⟩:=h;exact⟨ks,vs,e,h1,h2,by lia⟩
def MD(ns:List Int)(n:Nat)(rows:List cF)(made:List Int)(sn:cF)(ae:Int){x:String}{p:Int}{as:List Int}{m:Nat}(hl:ns.length<=63)(y:n<600000)(z:m<8000000)(hs:Sn m sn)(i:0<ae)(j:onC x)(v:RG rows (-1)=b3 (.tup (.str x:: .int p::as.map .int)))(o:∀a∈as,a∈made)(C:as.length<=3):∃(q:Int) (cs:List Int) (d:cF),0<=q/\q<ae/\(∀c∈cs,c∈made)/\cs.length=as.length/\Sn (m+1) d/\XB [YN ns,Y6 n,.lst rows,.lst (made.map .int),sn,.int ae]=b3 (.tup (.str x:: .int q::cs.map .int),[Y6 (n+as.length),d]):=by
 obtain⟨cs,h1,h2,w,s10,e⟩:=CZ ns rows made sn ae (.tup (.str x:: .int p::as.map .int)) 2 hl as n [] .no .no (by lia) o (by simp;lia);simp only[nst,Cu,Cw]at e;obtain⟨ks,vs,rfl,k1,k2,k3⟩:=hs;obtain⟨f,b,pe,t,s,B,A,r⟩:=putI ks vs (.inr (x:Ug)) ((p+1) % ae) k1 k2;have l:ks.length<16777216:=by lia
 refine⟨(p+1) % ae,cs,.dct f (b.map .int),Ig _ (by lia),Ew _ i,h1,h2,⟨f,b,rfl,t,s,by lia⟩,?_⟩;unfold XB;rw[bG,TL.eq_1];have g:=cel4 j;have u:UB (.str x:: .int p::as.map cF.int) (b3 2) b4=as.map cF.int:=by
  have:=Q2 (ds:=.str x:: .int p::as.map cF.int) (k:=2) (by simp)
  simpa using this
 have h:2+cs.length<=16777216:=by lia
 simp[aU,v,g,u,e,i,l,k2,pe,r,h]
def off4{x:String}(h:¬onC x):(¬x= "load" /\¬ "load"=x)/\(¬x= "take" /\¬ "take"=x)/\(¬x= "store" /\¬ "store"=x)/\¬x= "put" /\¬ "put"=x:=by refine⟨⟨λz=>h (.inl z),λz=>h (.inl z.symm)⟩,⟨λz=>h (.inr (.inl z)),λz=>h (.inr (.inl z.symm))⟩,⟨λz=>h (.inr (.inr (.inl z))),λz=>h (.inr (.inr (.inl z.symm)))⟩,λz=>h (.inr (.inr (.inr z))),λz=>h (.inr (.inr (.inr z.symm)))⟩
def E6(ns:List Int)(n:Nat)(rows:List cF)(made:List Int)(sn:cF)(ae:Int){x:String}{as:List Int}(hl:ns.length<=63)(q:n<600000)(j:¬onC x)(o:RG rows (-1)=b3 (.tup (.str x::as.map .int)))(l:∀a∈as,a∈made)(r:as.length<=3):∃cs:List Int,(∀c∈cs,c∈made)/\cs.length=as.length/\XB [YN ns,Y6 n,.lst rows,.lst (made.map .int),sn,.int ae]=b3 (.tup (.str x::cs.map .int),[Y6 (n+as.length),sn]):=by
 obtain⟨cs,h1,h2,p,s10,e⟩:=CZ ns rows made sn ae (.tup (.str x::as.map .int)) 1 hl as n [] .no .no (by lia) l (by simp;lia);simp only[nst,Cu,Cw]at e;refine⟨cs,h1,h2,?_⟩;unfold XB;rw[bG,TL.eq_1];obtain⟨⟨_,h⟩,⟨_,g⟩,⟨_,f⟩,_,d⟩:=off4 j;have m:UB (.str x::as.map cF.int) (b3 1) b4=as.map cF.int:=by
  have:=Q2 (ds:=.str x::as.map cF.int) (k:=1) (by simp)
  simpa using this
 have i:UB (.str x::as.map cF.int) b4 (b3 1)=[.str x]:=by
  have:=OM (ds:=.str x::as.map cF.int) (k:=1)
  simpa using this
 have b:1+cs.length<=16777216:=by lia
 simp[aU,o,h,g,f,d,m,i,e,b]
def o0(ns:List Int)(n:Nat)(rows:List cF)(made:List Int)(sn:cF)(ae:Int){last:cF}{m:Nat}(hl:ns.length<=63)(j:n<600000)(r:m<8000000)(hs:Sn m sn)(o:0<ae)(y:ae<=64)(l:RG rows (-1)=b3 last)(ok:ZY (· ∈made) last)(w:∀k,last≠ .tup [.str "number",.int k]):∃row t g,n<=t/\t<=n+3/\Sn (m+1) g/\ZY (· ∈made) row/\XB [YN ns,Y6 n,.lst rows,.lst (made.map .int),sn,.int ae]=b3 (row,[Y6 t,g]):=by
 cases ok with
 |number=>exact absurd rfl (w _)
 | @two x a b v i u=>
  obtain⟨cs,h1,h2,e⟩:=E6 ns n rows made sn ae (x:=x) (as:=[a,b]) hl j (BX v) l (by simp[i,u]) (by simp);match cs,h2 with
  |[c,d],_=>exact⟨_,n+2,sn,by lia,by lia,snM hs (by lia),.two v (h1 c (by simp)) (h1 d (by simp)),e⟩
 | @pick c a b hc i u=>
  obtain⟨cs,h1,h2,e⟩:=E6 ns n rows made sn ae (x:= "pick") (as:=[c,a,b]) hl j (λz=>by rcases z with z|z|z|z<;>exact absurd z (by decide)) l (by simp[i,u,hc]) (by simp);match cs,h2 with
  |[c,d,f],_=>exact⟨_,n+3,sn,by lia,by lia,snM hs (by lia),.pick (h1 c (by simp)) (h1 d (by simp)) (h1 f (by simp)),e⟩
 | @load p s p1=>
  obtain⟨q,cs,g,q0,q1,h1,h2,h,e⟩:=MD ns n rows made sn ae (x:= "load") (p:=p) (as:=[]) hl j r hs o (.inl rfl) l (by simp) (by simp);match cs,h2 with
  |[],_=>exact⟨_,n+0,g,by lia,by lia,h,.load q0 (by lia),e⟩
 | @take p c a s p1 hc i=>
  obtain⟨q,cs,g,q0,q1,h1,h2,h,e⟩:=MD ns n rows made sn ae (x:= "take") (p:=p) (as:=[c,a]) hl j r hs o (.inr (.inl rfl)) l (by simp[hc,i]) (by simp);match cs,h2 with
  |[c,d],_=>exact⟨_,n+2,g,by lia,by lia,h,.take q0 (by lia) (h1 c (by simp)) (h1 d (by simp)),e⟩
 | @store p a s p1 i=>
  obtain⟨q,cs,g,q0,q1,h1,h2,h,e⟩:=MD ns n rows made sn ae (x:= "store") (p:=p) (as:=[a]) hl j r hs o (.inr (.inr (.inl rfl))) l (by simp[i]) (by simp);match cs,h2 with
  |[c],_=>exact⟨_,n+1,g,by lia,by lia,h,.store q0 (by lia) (h1 c (by simp)),e⟩
 | @put p a c s p1 i hc=>
  obtain⟨q,cs,g,q0,q1,h1,h2,h,e⟩:=MD ns n rows made sn ae (x:= "put") (p:=p) (as:=[a,c]) hl j r hs o (.inr (.inr (.inr rfl))) l (by simp[i,hc]) (by simp);match cs,h2 with
  |[c,d],_=>exact⟨_,n+2,g,by lia,by lia,h,.put q0 (by lia) (h1 c (by simp)) (h1 d (by simp)),e⟩
structure RI(rows:List cF)(made:List Int)(kds:List Kd):Prop where
 bl:Bl [] rows kds
 ex:∀a,a∈made↔Nm kds .w a
 ml:made.length<=rows.length
def RI.len{rows:List cF}{made:List Int}{kds:List Kd}(h:RI rows made kds):kds.length=rows.length:=by
 have:=h.bl.len
 simpa using this
def kP{kds:List Kd}{k:Kd}{a:Int}:Nm (kds++[k]) .w a↔Nm kds .w a∨(k=.w/\a=kds.length):=by
 constructor
 ·intro h
  have b:=h.1;have hl:=h.lt;rw[By,Gq]at hl;by_cases hi:a.toNat<kds.length
  ·exact .inl ⟨b,by have:=h.2;rwa[Ak hi]at this⟩
  ·have hi : a.toNat = kds.length := by lia
   have e:=h.2;rw[hi]at e;simp at e;exact .inr ⟨e,by lia⟩
 ·rintro (h|⟨rfl,rfl⟩)
  ·exact h.snoc
  ·exact Nm.new
def RI.more{rows:List cF}{made:List Int}{kds:List Kd}{row:cF}(h:RI rows made kds)(r:ZY (· ∈made) row):RI (rows++[row]) (if QO .w row=.w then made++[(rows.length:Int)]else made) (kds++[QO .w row]):=by
 refine⟨h.bl.snoc (r.imp λa b=>(h.ex a).mp b),λa=>?_,?_⟩
 ·rw[kP,<- h.ex a,h.len]
  split
  ·rename_i e
   simp[e]
  ·rename_i e
   simp[e]
 ·have:=h.ml
  split<;>simp<;>lia
theorem RI.last{b:List cF}{last:cF}{made:List Int}{kds:List Kd}(h:RI (b++[last]) made kds):ZY (· ∈made) last:=(h.bl.all last (by simp)).imp λa c=>(h.ex a).mpr c
noncomputable def MN(ns:List Int)(n:Nat)(a ae:Int)(rows:List cF)(made:List Int)(sn:cF)(b:Sl):Ev:=
 [.va (YN ns),.ow (Y6 n),.va (.int a),.va (.int ae),.ow (.lst rows),.ow (.lst (made.map .int)),.ow sn,b]
theorem IK:∀vs:List Int,RP (vs.map .int)=b8
 |[]=>rfl
 |_::vs=>by show((cF.int _).hard&&RP (vs.map .int))=b8;rw[IK vs];rfl
def BQ{m:Nat}{sn:cF}(h:Sn m sn):RT sn=b8:=by obtain⟨ks,vs,rfl,_⟩:=h;exact IK vs
def AS{row:cF}(x:String)(t:List cF)(e:row=.tup (.str x::t)):QO .w row=.w↔ ¬(x= "store" ∨x= "put"):=by
 subst e;by_cases h:x= "store" ∨x= "put"
 ·rw[E5 h];simp[h]
 ·have : x ∉ ["store","put"] := by simpa using h
  rw[E4 this];simp[h]
def kg(ns:List Int)(n:Nat)(a ae:Int){rows:List cF}{made:List Int}{kds:List Kd}{sn:cF}{m:Nat}(A:Sl)(hl:ns.length<=63)(I:n<600000)(J:m<8000000)(hs:Sn m sn)(H:0<ae)(v:ae<=64)(R:RI rows made kds)(B:rows≠[])(M:rows.length<1000):∃s C K j b,RI s C K/\rows.length<=s.length/\((rows.length:Int)<=a->(s.length:Int)<=a)/\s.length<=rows.length+1/\n<=j/\j<=n+3/\Sn (m+1) b/\X3 (MN ns n a ae rows made sn A)=b3 (.nx (MN ns j a ae s C b A)):=by
 obtain⟨i,last,rfl⟩:∃i last,rows=i++[last]:=⟨rows.dropLast,rows.getLast B,(Jk B).symm⟩;have ok:=R.last;have r:=OF i last;have w:made.length<16777216:=by have:=R.ml;lia
 have g:(i++[last]).length<16777216:=by lia
 generalize L:i++[last]=rows at*;obtain⟨x,t,q,_⟩:=W4 ok;by_cases h1:(rows.length:Int)<a
 ·by_cases h2:x= "number"
  ·refine ⟨rows,made,kds,n,sn,R,Am _,id,by lia,by lia,by lia,snM hs (by lia),?_⟩
   unfold X3;simp[MN,h1,r,q,h2]
  ·obtain ⟨row,j,b,G,F,l,d,e⟩ := o0 ns n rows made sn ae hl I J hs H v r ok (λk z => by rw [q]at z;simp [YV]at z;exact h2 z.1)
   obtain⟨y,u,p,_⟩:=W4 d;have h:=OF rows row;refine⟨_,_,_,j,b,R.more d,by simp,by simp;lia,by simp,G,F,l,?_⟩;unfold X3;have key:=AS y u p;have c:=d.hard;rw[p]at c;have f:=BQ l;by_cases o:y= "store" ∨y= "put"
   ·rw [if_neg (by rw [key];simp [o])]
    rcases o with rfl|rfl
    ·simp[MN,h1,r,q,h2,e,h,p,g,c,f]
    ·simp[MN,h1,r,q,h2,e,h,p,g,c,f]
   ·rw [if_pos (by rw [key];exact o)]
    have E:¬ "store"=y:=λz=>o (.inl z.symm);have D:¬ "put"=y:=λz=>o (.inr z.symm);simp[MN,h1,r,q,h2,e,h,p,g,c,f,E,D,w]
 ·refine ⟨rows,made,kds,n,sn,R,Am _,id,by lia,by lia,by lia,snM hs (by lia),?_⟩
  unfold X3;simp[MN,h1]
theorem Yk(ns:List Int)(a ae:Int)(hl:ns.length<=63)(q:0<ae)(i:ae<=64):∀(ds:List cF) (n:Nat) {rows:List cF}{made:List Int}{kds:List Kd}{sn:cF}{m:Nat}(g:Sl),n+3*ds.length<600000->m+ds.length<8000000->Sn m sn->RI rows made kds->rows≠[]->rows.length+ds.length<1000->∃f j o h b c,RI f j o/\rows.length<=f.length/\((rows.length:Int)<=a->(f.length:Int)<=a)/\n<=h/\h<=n+3*ds.length/\Sn (m+ds.length) b/\WI (gN 7) X3 ds (MN ns n a ae rows made sn g)=b3 (.nx (MN ns h a ae f j b c))
 |[],n,rows,made,kds,sn,m,g,_,_,hs,R,_,_=>⟨rows,made,kds,n,sn,g,R,Am _,id,by lia,by simp,hs,by simp⟩
 |d::ds,n,rows,made,kds,sn,m,g,u,v,hs,R,r,hz=>by simp only[Br]at u v hz;obtain⟨E,D,C,t,s,A,p,y,J,a4,I,k,w⟩:=kg ns n a ae (.va d) hl (by lia) (by lia) hs q i R r (by lia);obtain⟨f,j,o,h,b,c,B,H,x,G,F,l,e⟩:=Yk ns a ae hl q i ds t (.va d) (by lia) (by lia) k A (λz=>by rw[z]at p;simp at p;exact r p) (by lia);refine⟨f,j,o,h,b,c,B,by lia,λz=>x (y z),by lia,by simp only[Br];lia,snM l (by simp only[Br];lia),?_⟩;rw[TH,J3,PB,show(MN ns n a ae rows made sn g).set 7 (.va d)=MN ns n a ae rows made sn (.va d) from rfl,w,PC,e]
def fG(ns:List Int)(n:Nat)(a ae:Int){rows:List cF}{made:List Int}{kds:List Kd}{sn:cF}(B:Sl)(hl:ns.length<=63)(P:n<500000)(hs:KG n sn)(E:0<ae)(r:ae<=64)(R:RI rows made kds)(I:(rows.length:Int)<a)(K:a<=40):∃p t A o b f,RI p t A/\rows.length<p.length/\(p.length:Int)<=a/\n<=o/\o<=n+20/\KG o b/\VY (MN ns n a ae rows made sn B)=b3 (.nx (MN ns o a ae p t b f)):=by
 obtain⟨row,C,H,S,Q,q,g,_,e⟩:=DM ns n made sn ae hl (by lia) hs E r;obtain⟨x,D,ex⟩:=Y5 ns C [.int 0,.int 1,.int 1,.int 2,.int 3] hl (by lia) (by simp);obtain⟨k,rfl,k0,k3⟩:∃k:Nat,x=.int k/\0<=k/\k<=3:=by
  simp only[Ai,Ap,or_false]at D;rcases D with rfl|rfl|rfl|rfl|rfl
  ·exact⟨0,rfl,by lia,by lia⟩
  ·exact⟨1,rfl,by lia,by lia⟩
  ·exact⟨1,rfl,by lia,by lia⟩
  ·exact⟨2,rfl,by lia,by lia⟩
  ·exact⟨3,rfl,by lia,by lia⟩
 have N:=R.more g;have i:rows.length<16777216:=by lia
 have w:made.length<16777216:=by have:=R.ml;lia
 have J:(YW 0 k).length=k:=LG k;obtain⟨p,t,A,o,b,f,O,M,L,U,T,v,d⟩:=Yk ns a ae hl E r (YW 0 k) (C+1) B (by lia) (by lia) q N (by simp) (by simp;lia);refine⟨p,t,A,o,b,f,O,by simp at M;lia,L (by simp;lia),by lia,by lia,snM v (by lia),?_⟩;obtain⟨y,u,m,_⟩:=W4 g;have j:=OF rows row;have key:=AS y u m;have c:=g.hard;rw[m]at c;have h:=BQ q;have l:(-4611686018427387904:Int)<=k/\(k:Int)<4611686018427387904:=by lia
 unfold VY;by_cases s:y= "store" ∨y= "put"
 ·rw [if_neg (by rw [key];simp [s])]at d
  simp only[MN]at d;rw[m]at d;rcases s with rfl|rfl
  ·simp[MN,e,j,m,i,c,h,ex,l,d]
  ·simp[MN,e,j,m,i,c,h,ex,l,d]
 ·rw [if_pos (by rw [key];exact s)]at d
  simp only[MN,Gu,Bg,Cw]at d;rw[m]at d;have G:¬ "store"=y:=λz=>s (.inl z.symm);have F:¬ "put"=y:=λz=>s (.inr z.symm);simp[MN,e,j,m,i,c,h,ex,l,G,F,w,d]
def LV{t:VB}{g:VS}{k:Nat}{δ δ1 δ2:Ev}(h:t δ=b3 (b8,δ1))(h2:g δ1=b3 (.nx δ2)):ZR t g (k+1) δ=ZR t g k δ2:=by show((t δ).bind λp=>if p.1=b8 then(g p.2).bind (again (ZR t g k))else b3 (.nx p.2))=_;rw[h,An];show(if b8=b8 then(g δ1).bind (again (ZR t g k))else _)=_;rw[if_pos rfl,h2];rfl
def PK{t:VB}{g:VS}{k:Nat}{δ δ1:Ev}(h:t δ=b3 (ba,δ1)):ZR t g (k+1) δ=b3 (.nx δ1):=by show((t δ).bind λp=>if p.1=b8 then(g p.2).bind (again (ZR t g k))else b3 (.nx p.2))=_;rw[h];rfl
theorem Ws(ns:List Int)(a ae:Int)(hl:ns.length<=63)(p:0<ae)(i:ae<=64)(j:a<=40):∀(f:Nat) (n:Nat) {rows:List cF}{made:List Int}{kds:List Kd}{sn:cF}(d:Sl),a-rows.length<=f->(rows.length:Int)<=a->n+20*f<500000->KG n sn->RI rows made kds->∃k l o h b c,RI k l o/\(k.length:Int)=a/\n<=h/\h<=n+20*f/\ZR (fB (f2 oLt (f1 ZG (fO 4)) (fV 2))) VY (f+1) (MN ns n a ae rows made sn d)=b3 (.nx (MN ns h a ae k l b c))
 |0,n,rows,made,kds,sn,d,h1,h2,t,hs,R=>by
  refine⟨rows,made,kds,n,sn,d,R,by lia,by lia,by lia,PK ?_⟩;have:¬(rows.length:Int)<a:=by lia
  simp[MN,this]
 | f + 1,n,rows,made,kds,sn,d,h1,h2,t,hs,R => by
  by_cases g:(rows.length:Int)<a
  ·obtain ⟨B,A,z,s,r,q,x,F,w,E,a4,m,u⟩ := fG ns n a ae d hl (by lia) hs p i R g j
   obtain⟨k,l,o,h,b,c,y,v,D,C,e⟩:=Ws ns a ae hl p i j f s q (by lia) w (by lia) m x;refine⟨k,l,o,h,b,c,y,v,by lia,by lia,?_⟩;rw[LV (δ1:=MN ns n a ae rows made sn d) (by simp[MN,g]) u,e]
  ·refine ⟨rows,made,kds,n,sn,d,R,by lia,by lia,by lia,PK ?_⟩
   simp[MN,g]
def mq(ns:List Int)(n:Nat)(b ae:Int)(hl:ns.length<=63)(l:n<400000)(g:0<ae)(d:ae<=64)(h:0<=b)(f:b<=40):∃rows kds c,Bl [] rows kds/\(rows.length:Int)=b/\n<=c/\c<=n+20*40/\SX [YN ns,Y6 n,.int b,.int ae]=b3 (.tup rows,[Y6 c]):=by obtain⟨rows,made,kds,c,sn,k,R,j,i,m,e⟩:=Ws ns b ae hl g d f b.toNat n (rows:=[]) (made:=[]) (kds:=[]) (sn:=.dct [] []) .no (by simp;lia) (by simpa using h) (by lia) ⟨[],[],rfl,rfl,No,Dm _⟩ ⟨.nil,λa=>by simp[Nm],by simp⟩;refine⟨rows,kds,c,R.bl,j,i,by lia,?_⟩;have e:=NX e;simp only[MN,Cw]at e;unfold SX;rw[bG,P6.eq_1];simp[aU,e]
def gJ{f g:VF}{δ δ1 δ2:Ev}{i j:Int}(h1:f δ=b3 (.int i,δ1))(h2:g δ1=b3 (.int j,δ2))(a:(-4611686018427387904<=i/\i<4611686018427387904)/\ -4611686018427387904<=j/\j<4611686018427387904):iR2 f g δ=b3 (YW i (j-i).toNat,δ2):=by unfold iR2;rw[h1,An,h2,An];exact if_pos a
theorem L6(a:Nat)(tb:VB)(p:cF->Bool)(fe:VF)(f:cF->cF)(δ:Ev)(b:δ.length=a):∀(ds acc:List cF),(∀d∈ds,tb (δ++[Sl.va d])=b3 (p d,δ++[Sl.va d])/\(p d=b8->fe (δ++[Sl.va d])=b3 (f d,δ++[Sl.va d])))->acc.length+ds.length<16777216->YO a 1 (gN a) tb fe ds acc δ=b3 (acc++(ds.filter p).map f,δ)
 |[],acc,_,_=>by simp
 | d :: ds,acc,h,hl => by
  have j:(δ++[Sl.no]).set a (.va d)=δ++[Sl.va d]:=by rw[Fu _ _ (by lia)];simp[b]
  have k:(δ++[Sl.va d]).take a=δ:=by rw[Co (by lia),Cf (by lia)]
  have l:acc.length<16777216:=by simp at hl;lia
  obtain⟨h1,h2⟩:=h d Bb;cases c:p d with
  |true=>
   have g:=L6 a tb p fe f δ b ds (acc++[f d]) (λe i=>h e (Aq _ i)) (by simp at hl⊢;lia);have h2:=h2 c;rw[c]at h1;simp only[Q1,AU,J3,j,JH,h1,BC,h2,BD,if_pos l,k,g];simp[c]
  |false=>
   have g:=L6 a tb p fe f δ b ds acc (λe i=>h e (Aq _ i)) (by simp at hl⊢;lia);rw[c]at h1;simp only[Q1,AU,J3,j,JH,h1,Yq,k,g];simp[c]
def ZY.ints{M:Int->Prop}{row:cF}(h:ZY M row):∃(x:String) (a:Int) (as:List Int),row=.tup (.str x:: .int a::as.map .int)/\(x= "over" ->∃b,as=[b]/\M b):=by
 cases h with
 | @number n _ _=>exact⟨"number",n,[],rfl,λz=>absurd z (by decide)⟩
 | @two x a b e f d=>exact⟨x,a,[b],rfl,λ_=>⟨b,rfl,d⟩⟩
 | @pick c a b _ _ _=>exact⟨"pick",c,[a,b],rfl,λz=>absurd z (by decide)⟩
 | @load p _ _=>exact⟨"load",p,[],rfl,λz=>absurd z (by decide)⟩
 | @take p c a _ _ _ _=>exact⟨"take",p,[c,a],rfl,λz=>absurd z (by decide)⟩
 | @store p a _ _ _=>exact⟨"store",p,[a],rfl,λz=>absurd z (by decide)⟩
 | @put p a c _ _ _ _=>exact⟨"put",p,[a,c],rfl,λz=>absurd z (by decide)⟩
theorem RS{k:Nat}:∀as:List Int,∀d∈as.map cF.int,okk k d
 |[],d,h=>nomatch h
 |a::as,d,h=>by
  rcases Ai.mp h with rfl|h
  ·exact ZP
  ·exact RS as d h
def BN{M:Int->Prop}{row:cF}(h:ZY M row):okk 1 row:=by obtain⟨x,a,as,rfl,_⟩:=h.ints;exact W2 (aX ZT (aX ZP (RS as)))
def Yl{sure:Int}{rows:List cF}{kds:List Kd}(t:Bl [] rows kds){i:Int}(E:0<=i)(h1:i<rows.length):∃b,WL [.tup [.int sure,.tup rows],.int i]=b3 (.bl b,[]):=by
 have N:kds.length=rows.length:=by simpa using t.len
 obtain⟨row,I,u⟩:∃row∈rows,RG rows i=b3 row:=by
  have hi:i.toNat<rows.length:=by lia
  exact⟨rows[i.toNat],Ma hi,by rw[SZ E h1];simp[hi]⟩
 have ok:=t.all row I;obtain⟨x,a,as,rfl,o⟩:=ok.ints;unfold WL;rw[bG];unfold NJ;by_cases v:onC x
 ·have m1:=cel4 v
  exact⟨_,by simp[aU,u,m1];rfl⟩
 ·obtain⟨⟨_,B⟩,⟨_,A⟩,⟨_,z⟩,_,y⟩:=off4 v
  by_cases p:x= "over"
  ·obtain⟨b,rfl,c⟩:=o p
   subst p;have K:=c.1;have M:=c.lt;obtain⟨C,n,H⟩:∃row∈rows,RG rows b=b3 row:=by
    have hi:b.toNat<rows.length:=by lia
    exact⟨rows[b.toNat],Ma hi,by rw[SZ K (by lia)];simp[hi]⟩
   obtain⟨l,m,h,rfl,_⟩:=(t.all C n).ints;have F:UB (.str l:: .int m::h.map cF.int) b4 (b3 2)=[.str l,.int m]:=by
    have:=OM (ds:=.str l:: .int m::h.map cF.int) (k:=2)
    simpa using this
   have G:∀δ,iR2 (fC (.int 1)) (fC (.int 1000)) δ=b3 (YW 1 ((1000:Int)-1).toNat,δ):=λδ=>gJ (f:=fC (.int 1)) (g:=fC (.int 1000)) (δ:=δ) (δ1:=δ) (δ2:=δ) (i:=1) (j:=1000) rfl rfl (by lia);have w:=UA 0 (aH (cD (fC (.str "number")) (cD (fV 0) bP))) [] (λd=>.tup [.str "number",d]) rfl (YW 1 ((1000:Int)-1).toNat) [] (λd _=>by simp) (by simp[YW]);have r:∀neg,∃b,ZF neg (.tup [.str l,.int m]) (.lst ((YW 1 ((1000:Int)-1).toNat).map λd=>.tup [.str "number",d]))=b3 (.bl b):=λneg=>⟨_,G3 (j:=1) (k:=1) (W2 (aX ZT (aX ZP Y9))) (λe D=>by
    obtain⟨d,hd,rfl⟩:=Cd.mp D;obtain⟨q,rfl⟩:∃q,d=.int q:=by unfold YW at hd;obtain⟨q,_,rfl⟩:=Cd.mp hd;exact⟨_,rfl⟩
    exact W2 (aX ZT (aX ZP Y9)))⟩
   obtain⟨J,s⟩:=r b8;simp only[Cu]at w;generalize (YW 1 ((1000:Int)-1).toNat).map (λd=>cF.tup [.str "number",d])=big at*;generalize YW 1 ((1000:Int)-1).toNat=L at*;exact⟨J,by simp -implicitDefEqProofs [aU,u,H,F,Z1,G,w,s]⟩
  ·exact⟨ba,by simp[aU,u,B,A,z,y,p]⟩
def Y8(p:Int×Int):cF:=.tup [.int p.1,.int p.2]
noncomputable def KL:cF:=.tup [.str "load",.str "take",.str "store",.str "put"]
def NS(a:cF)(ps:List (Int×Int))(j:Int)(there:Sl)(e d c b:Sl):Ev:=
 [.va a,.ow (.lst (ps.map Y8)),.va KL,.va (.int j),there,e,d,c,b]
def eF{bs:List Bool}:ZF ba (.bl b8) (.lst (bs.map .bl))=b3 (.bl (bs.any id)):=by
 rw[G3 (j:=0) (k:=0) Wt (λe c=>by obtain⟨b,_,rfl⟩:=Cd.mp c;exact Wt)]
 induction bs with
 |nil=>rfl
 |cons b bs a=>
  have e:eqD (.bl b) (.bl b8)=b:=by cases b<;>rfl
  simp only[Bg,Vu,Ji,id,e];simp only[Eu,if_false,Option.some.injEq,cF.bl.injEq]at a⊢;rw[a]
theorem AJ{i:Int}:∀{as:List Int},i∈as->IM (.int i) (as.map .int)=b8
 |q::as,h=>by
  simp only[Bg,Vu];rcases Ai.mp h with rfl|h
  ·simp
  ·simp[AJ h]
noncomputable def wrT:cF->Bool
 |.tup (.str x::_)=>decide (Bj "store"=x) || decide (Bj "put"=x)
 |_=>ba
def LK{s1 a:VS}{δ δ1:Ev}{r:Option Ou}(h1:s1 δ=b3 (.nx δ1))(h2:a δ1=r):bR s1 a δ=r:=by rw[W5,h1,O9,h2]
def lQ{sure:Int}{rows:List cF}{kds:List Kd}(r:Bl [] rows kds)(ps:List (Int×Int)){i j:Int}{here there:cF}(V:0<=i)(U:i<rows.length)(T:0<=j)(S:j<rows.length)(hh:here∈rows)(W:there∈rows){as:List Int}(hn:Y1 [there]=b3 (.lst (as.map .int),[]))(L E:Sl)(hp:ps.length<1000000):∃(c:Bool) (K J:Sl),(i∈as->c=b8)/\VU (NS (.tup [.int sure,.tup rows]) ps j (.va there) (.va (.int i)) (.va here) L E)=b3 (.nx (NS (.tup [.int sure,.tup rows]) (ps++if c then[(i,j)]else[]) j (.va there) (.va (.int i)) (.va here) K J)):=by
 obtain⟨f,I⟩:=Yl (sure:=sure) r V U;obtain⟨l,H⟩:=Yl (sure:=sure) r T S;have q:=r.all here hh;have p:=r.all there W;have Q:=BN q;have P:=BN p;obtain⟨x,a,xs,G,_⟩:=q.ints;obtain⟨y,b,ys,F,_⟩:=p.ints;have B:ZF ba (.int i) (.lst (as.map .int))=b3 (.bl (IM (.int i) (as.map .int))):=by rw[G3 (j:=0) (k:=0) ZP (RS as)];simp
 have R:=AJ (i:=i) (as:=as);generalize IM (.int i) (as.map .int)=bi at*;have D:∃w:List cF,YO 0 1 (gN 0) (fB (f2 (ZF ba) (f2 bN (fV 0) (fC (.int 0))) (aH (cD (fC (.str "store")) (cD (fC (.str "put")) bP))))) (fV 0) [here,there] [] []=b3 (w,[])/\∀d∈w,okk 1 d:=by
  have c:=L6 0 (fB (f2 (ZF ba) (f2 bN (fV 0) (fC (.int 0))) (aH (cD (fC (.str "store")) (cD (fC (.str "put")) bP))))) wrT (fV 0) id [] rfl [here,there] [] (λd hd=>by
   simp only[Ai,Ap,or_false]at hd;rcases hd with rfl|rfl
   ·rw[G];simp[wrT,YV]
   ·rw[F];simp[wrT,YV]) (by simp)
  refine⟨_,c,λd hd=>?_⟩;simp only[Cu,List.map_id_fun,id,Hr,Ai,Ap,or_false]at hd;rcases hd.1 with rfl|rfl
  ·exact Q
  ·exact P
 obtain⟨w,D,O⟩:=D;have A:UT (.lst w) (.lst [])=b3 (.bl (!eqD (.lst w) (.lst []))):=E9 (j:=2) (k:=0+1) (WK O) (WK Y9);generalize (!eqD (.lst w) (.lst []))=m at*;have z:ps.length<16777216:=by lia
 have u:∃h,ZF ba (.str x) KL=b3 (.bl h):=⟨_,Vx⟩;have s:∃e,ZF ba (.str y) KL=b3 (.bl e):=⟨_,Vx⟩;have v:∃h,ZF ba (.str x) (.tup [.str "store",.str "put"])=b3 (.bl h):=⟨_,AK⟩;have t:∃e,ZF ba (.str y) (.tup [.str "store",.str "put"])=b3 (.bl e):=⟨_,AK⟩;obtain⟨h,u⟩:=u;obtain⟨e,s⟩:=s;obtain⟨o,v⟩:=v;obtain⟨n,t⟩:=t;subst G F;have g:=eF (bs:=[bi,f&&l,h&&(e&&(decide (a=b)&&m)),f&&n,l&&o]);simp only[Bg,Cw]at g;refine⟨[bi,f&&l,h&&(e&&(decide (a=b)&&m)),f&&n,l&&o].any id,.va (.lst w),.ow (.lst [.bl bi,.bl (f&&l),.bl (h&&(e&&(decide (a=b)&&m))),.bl (f&&n),.bl (l&&o)]),?_,?_⟩
 ·intro hi
  rw[R hi];rfl
 ·unfold VU
  refine LK (δ1:=NS (.tup [.int sure,.tup rows]) ps j (.va (.tup (.str y:: .int b::ys.map .int))) (.va (.int i)) (.va (.tup (.str x:: .int a::xs.map .int))) (.va (.lst w)) E) (by simp[NS,Z1,D]) ?_;refine LK (δ1:=NS (.tup [.int sure,.tup rows]) ps j (.va (.tup (.str y:: .int b::ys.map .int))) (.va (.int i)) (.va (.tup (.str x:: .int a::xs.map .int))) (.va (.lst w)) (.ow (.lst [.bl bi,.bl (f&&l)]))) ?_ ?_
  ·clear g
   cases f<;>simp[NS,hn,B,I,H]
  refine LK (δ1:=NS (.tup [.int sure,.tup rows]) ps j (.va (.tup (.str y:: .int b::ys.map .int))) (.va (.int i)) (.va (.tup (.str x:: .int a::xs.map .int))) (.va (.lst w)) (.ow (.lst [.bl bi,.bl (f&&l),.bl (h&&(e&&(decide (a=b)&&m)))]))) ?_ ?_
  ·clear g
   cases h<;>cases e<;>by_cases C:a=b<;>simp[NS,u,s,A,C]
  refine LK (δ1:=NS (.tup [.int sure,.tup rows]) ps j (.va (.tup (.str y:: .int b::ys.map .int))) (.va (.int i)) (.va (.tup (.str x:: .int a::xs.map .int))) (.va (.lst w)) (.ow (.lst [.bl bi,.bl (f&&l),.bl (h&&(e&&(decide (a=b)&&m))),.bl (f&&n)]))) ?_ ?_
  ·clear g
   generalize (h&&(e&&(decide (a=b)&&m)))=q3;cases f<;>simp[-AK,NS,I,t]
  refine LK (δ1:=NS (.tup [.int sure,.tup rows]) ps j (.va (.tup (.str y:: .int b::ys.map .int))) (.va (.int i)) (.va (.tup (.str x:: .int a::xs.map .int))) (.va (.lst w)) (.ow (.lst [.bl bi,.bl (f&&l),.bl (h&&(e&&(decide (a=b)&&m))),.bl (f&&n),.bl (l&&o)]))) ?_ ?_
  ·clear g
   generalize (h&&(e&&(decide (a=b)&&m)))=q3;cases l<;>simp[-AK,NS,H,v]
  generalize (h&&(e&&(decide (a=b)&&m)))=q3 at*;generalize Z:(f&&l)=q1 at*;generalize Y:(f&&n)=N at*;generalize X:(l&&o)=M at*;generalize hc:[bi,q1,q3,N,M].any id=c at*;cases c
  ·simp[NS,g]
  ·simp[NS,g,z,Y8]
def Q3(i:Nat)(d:cF)(ds:List cF):XD i (d::ds)=.tup [.int i,d]::XD (i+1) ds:=rfl
abbrev GP(a b:Nat):VG:=PN 2 (bH (gN a) (bH (gN b) YY))
theorem Ye{sure:Int}{rows:List cF}{kds:List Kd}(v:Bl [] rows kds){j:Int}{there:cF}(r:0<=j)(q:j<rows.length)(s:there∈rows){as:List Int}(t:Y1 [there]=b3 (.lst (as.map .int),[])):∀(hs:List cF) (k:Nat) (ps:List (Int×Int)) (l g b a:Sl),(∀d∈hs,d∈rows)->k+hs.length<=rows.length->ps.length+hs.length<1000000->∃(f:List (Int×Int)) (D C n m:Sl),(∀p∈f,p.2=j/\(k:Int)<=p.1/\p.1<k+hs.length)/\(∀i∈as,(k:Int)<=i->i<k+hs.length->(i,j)∈f)/\f.length<=hs.length∧WI (GP 5 6) VU (XD k hs) (NS (.tup [.int sure,.tup rows]) ps j (.va there) l g b a)=b3 (.nx (NS (.tup [.int sure,.tup rows]) (ps++f) j (.va there) D C n m))
 |[],k,ps,l,g,b,a,_,_,_=>⟨[],l,g,b,a,by simp,λi _ h1 h2=>by simp at h2;lia,by simp,by simp[XD]⟩
 | h :: hs,k,ps,l,g,b,a,u,F,o => by
  simp only[Br]at F o;obtain⟨c,n,m,H,e⟩:=lQ (sure:=sure) v ps (i:=(k:Int)) (j:=j) (here:=h) (there:=there) (by lia) (by lia) r q (u h Bb) s t b a (by lia);obtain⟨f,B,A,y,x,q1,q2,q3,E⟩:=Ye v r q s t hs (k+1) (ps++if c then[((k:Int),j)]else[]) (.va (.int k)) (.va h) n m (λd hd=>u d (Aq _ hd)) (by lia) (by cases c<;>simp<;>lia);refine⟨(if c then[((k:Int),j)]else[])++f,B,A,y,x,?_,?_,?_,?_⟩
  ·intro p o
   simp only[Br];rcases Bq.mp o with z|z
   ·cases c
    ·simp at z
    ·simp at z;subst z;exact⟨rfl,by simp,by simp;lia⟩
   ·obtain⟨w,J,I⟩:=q1 p z
    exact⟨w,by lia,by lia⟩
  ·intro i hi h1 h2
   simp only[Br]at h2;by_cases G:i=k
   ·subst G
    rw[H hi];simp
   ·exact Bq.mpr (.inr (q2 i hi (by lia) (by lia)))
  ·cases c<;>simp<;>lia
  ·rw[Q3,TH]
   have s1:GP 5 6 (.tup [.int k,h]) (NS (.tup [.int sure,.tup rows]) ps j (.va there) l g b a)=b3 (NS (.tup [.int sure,.tup rows]) ps j (.va there) (.va (.int k)) (.va h) b a):=by simp[NS]
   rw[s1,PB,e,PC,E,El]
structure Prs(rows:List cF)(ps:List (Int×Int)):Prop where
 lt:∀p∈ps,0<=p.1/\p.1<p.2/\p.2<rows.length
 nm:∀(j:Nat) (row:cF) (as:List Int),rows[j]?=b3 row->Y1 [row]=b3 (.lst (as.map .int),[])->∀i∈as,0<=i->i<j->(i,(j:Int))∈ps
def oo{as bs:List Int}(h:as.map cF.int=bs.map cF.int):as=bs:=by
 induction as generalizing bs with
 |nil=>cases bs with
  |nil=>rfl
  |cons=>simp at h
 | cons a as c => cases bs with
  |nil=>simp at h
  |cons b bs=>
   simp only[Bg,Kb,cF.int.injEq]at h;rw[h.1,c h.2]
noncomputable def tri:Nat->Nat->Nat
 |0,_=>0
 |t+1,k=>k+tri t (k+1)
def gZ{n:Nat}(h:n<=10):tri n 0<64:=by
 have:=Eh.mp (show(Az 11).all (λn=>decide (tri n 0<64))=b8 by decide) n (Cv.mpr (by lia))
 exact of_decide_eq_true this
theorem Wy{sure:Int}{rows:List cF}{kds:List Kd}(A:Bl [] rows kds)(B:rows.length<=10):∀(g:List cF) (k:Nat) (ps:List (Int×Int)) (C:Int) (n f c b a:Sl) (m:Sl),rows.drop k=g->k+g.length=rows.length->ps.length+40*g.length<10000->∃(o:List (Int×Int)) (O N v u s r:Sl),(∀p∈o,0<=p.1/\p.1<p.2/\p.2<rows.length)/\(∀(j:Nat) (row:cF) (as:List Int),k<=j->rows[j]?=b3 row->Y1 [row]=b3 (.lst (as.map .int),[])->∀i∈as,0<=i->i<j->(i,(j:Int))∈o)/\(o.length<=tri g.length k/\o.length<=40*g.length)∧WI (GP 3 4) VW (XD k g) [.va (.tup [.int sure,.tup rows]),.ow (.lst (ps.map Y8)),.va KL,m,n,f,c,b,a]=b3 (.nx [.va (.tup [.int sure,.tup rows]),.ow (.lst ((ps++o).map Y8)),.va KL,O,N,v,u,s,r])
 |[],k,ps,C,n,f,c,b,a,m,h1,h2,_=>by
  refine⟨[],m,n,f,c,b,a,by simp,λj row as h3 W=>?_,by simp[tri],by simp[XD]⟩;have:=(Ag.mp W).1
  simp at h2;lia
 | t :: g,k,ps,C,n,f,c,b,a,m,h1,h2,x => by
  simp only[Br]at h2 x;have D:t∈rows:=List.mem_of_mem_drop (by rw[h1];exact Bb);have V:rows[k]?=b3 t:=by
   have:(rows.drop k)[0]?=b3 t:=by rw[h1];rfl
   simpa using this
  obtain⟨as,_,_,E,_⟩:=CW (A.all t D);have F:(rows.take k).length=k:=by rw[Cz];lia
  obtain⟨h,v,u,s,r,q1,q2,q3,e⟩:=Ye (sure:=sure) A (j:=(k:Int)) (by lia) (by lia) D E (rows.take k) 0 ps f c b a (λd hd=>List.mem_of_mem_take hd) (by lia) (by lia);obtain⟨w,M,L,K,J,I,H,R,Q,Z,S⟩:=Wy A B g (k+1) (ps++h) 0 (.va t) v u s r (.va (.int k)) (by rw[<-List.drop_drop,h1];rfl) (by lia) (by simp;lia);refine⟨h++w,M,L,K,J,I,H,?_,?_,?_,?_⟩
  ·intro p x
   rcases Bq.mp x with z|z
   ·obtain⟨Y,X,G⟩:=q1 p z
    rw[F]at G;exact⟨by lia,by lia,by lia⟩
   ·exact R p z
  ·intro j row bs hj q l i hi U T
   by_cases y:j=k
   ·subst y
    rw[V]at q;injection q with q;subst q;rw[E]at l;have:as=bs:=oo (by simpa using l)
    subst this;exact Bq.mpr (.inl (q2 i hi (by lia) (by rw[F];lia)))
   ·exact Bq.mpr (.inr (Q j row bs (by lia) q l i hi U T))
  ·simp only[By,Br,tri];lia
  ·rw[Q3,TH]
   have s1:GP 3 4 (.tup [.int k,t]) [.va (.tup [.int sure,.tup rows]),.ow (.lst (ps.map Y8)),.va KL,m,n,f,c,b,a]=b3 (NS (.tup [.int sure,.tup rows]) ps k (.va t) f c b a):=by simp[NS]
   have P:VW (NS (.tup [.int sure,.tup rows]) ps k (.va t) f c b a)=b3 (.nx (NS (.tup [.int sure,.tup rows]) (ps++h) k (.va t) v u s r)):=by
    unfold VW;have hc:=OM (ds:=rows) (k:=k);rw[gF];have:RQ (F3 (f2 bN (fV 0) (fC (.int 1))) D1 (F4 (fV 3))) (NS (.tup [.int sure,.tup rows]) ps k (.va t) f c b a)=b3 (XD 0 (rows.take k),NS (.tup [.int sure,.tup rows]) ps k (.va t) f c b a):=by simp[NS,hc]
    rw[this,qF_s];exact e
   rw[s1,PB,P,PC];simp only[NS];rw[S,El]
theorem A8:∀ps:List (Int×Int),LB (ps.map Y8)=b3 ps
 |[]=>rfl
 |p::ps=>by show(prD (Y8 p)).bind (λq=>(LB (ps.map Y8)).map λa=>q::a)=_;rw[A8 ps];rfl
def my(ps:List (Int×Int))(b:ps.length<64):∃a:List (Int×Int),a.Perm ps/\C5 (.lst (ps.map Y8))=b3 (.lst (a.map Y8)):=by
 refine⟨(FT ps).map λi=>ps.getD i (0,0),?_,?_⟩
 ·have h := (Q9 ps).map λi => ps.getD i (0,0)
  refine h.trans ?_
  have:(Az ps.length).map (λi=>ps.getD i (0,0))=ps:=by refine List.ext_getElem (by simp) λi h1 h2=>?_;simp at h1;simp[h1]
  rw[this]
 ·show (if (ps.map Y8).length < 64 then (LB (ps.map Y8)).bind λa => b3 (cF.lst ((FT a).map λi => (ps.map Y8).getD i cF.non))else b4) = _
  rw[if_pos (by simpa using b),A8,An,Qg];congr 2;refine Jv λi hi=>?_;have:i<ps.length:=Cv.mp ((Q9 ps).mem_iff.mp hi)
  simp[this]
def Zk{sure:Int}{rows:List cF}{kds:List Kd}(g:Bl [] rows kds)(a:rows.length<=10):∃ps:List (Int×Int),Prs rows ps/\ps.length<=1600/\SW [.tup [.int sure,.tup rows]]=b3 (.lst (ps.map Y8),[]):=by obtain⟨c,q,o,n,m,l,k,q1,q2,q3,e⟩:=Wy (sure:=sure) g a rows 0 [] 0 .no .no .no .no .no .no (by simp) (by simp) (by simp;lia);simp only[Cw,Cu,KL]at e;obtain⟨ps,b,es⟩:=my c (by have:=gZ a;lia);refine⟨ps,⟨λp h=>q1 p (b.mem_iff.mp h),λj row as h1 h2 i hi f d=>b.mem_iff.mpr (q2 j row as (by lia) h1 h2 i hi f d)⟩,by rw[b.length_eq];lia,?_⟩;unfold SW;rw[bG,P2.eq_1];simp[aU,e,es]
theorem OL(c:Nat)(tb:VB)(p:cF->Bool)(fe:VF)(f:cF->cF)(δ:Ev)(g:δ.length=c):∀(ds acc:List cF),(∀d∈ds,∃a b,d=.tup [a,b]/\tb (δ++[Sl.va a,Sl.va b])=b3 (p d,δ++[Sl.va a,Sl.va b])/\(p d=b8->fe (δ++[Sl.va a,Sl.va b])=b3 (f d,δ++[Sl.va a,Sl.va b])))->acc.length+ds.length<16777216->YO c 2 (GP c (c+1)) tb fe ds acc δ=b3 (acc++(ds.filter p).map f,δ)
 |[],acc,_,_=>by simp
 | d :: ds,acc,h,hl => by
  obtain⟨a,b,rfl,h1,h2⟩:=h d Bb;have l:GP c (c+1) (.tup [a,b]) (δ++[Sl.no,Sl.no])=b3 (δ++[Sl.va a,Sl.va b]):=by
   have o:(δ++[Sl.no,Sl.no]).set c (.va a)=δ++[Sl.va a,Sl.no]:=by rw[Fu _ _ (by lia)];simp[g]
   have n:(δ++[Sl.va a,Sl.no]).set (c+1) (.va b)=δ++[Sl.va a,Sl.va b]:=by rw[Fu _ _ (by lia),g,show c+1-c=1 by lia];rfl
   simp[o,n]
  have m:(δ++[Sl.va a,Sl.va b]).take c=δ:=by rw[Co (by lia),Cf (by lia)]
  have q:acc.length<16777216:=by simp at hl;lia
  cases i:p (.tup [a,b])with
  |true=>
   have j:=OL c tb p fe f δ g ds (acc++[f (.tup [a,b])]) (λe k=>h e (Aq _ k)) (by simp at hl⊢;lia);have h2:=h2 i;rw[i]at h1;simp only[Q1,Xa,l,JH,h1,BC,h2,BD,if_pos q,m,j];simp[i]
  |false=>
   have j:=OL c tb p fe f δ g ds acc (λe k=>h e (Aq _ k)) (by simp at hl⊢;lia);rw[i]at h1;simp only[Q1,Xa,l,JH,h1,Yq,m,j];simp[i]
noncomputable def ost(ns:List Int)(n:Nat)(a:cF)(ps:List (Int×Int))(left made:List Int)(b:Sl):Ev:=
 [.va (YN ns),.ow (Y6 n),.va a,.va (.lst (ps.map Y8)),.ow (.lst (left.map .int)),.ow (.lst (made.map .int)),b]
noncomputable def pw(left:List Int)(r:Int):cF->Bool
 |.tup [.int a,.int b]=>decide (b=r)&&IM (.int a) (left.map .int)
 |_=>ba
theorem GW{i:Int}:∀{as:List Int},IM (.int i) (as.map .int)=b8↔i∈as
 |[]=>by simp
 |a::as=>by rw[Bg,Vu,Ic,lr,decide_eq_true_eq,GW (as:=as),Ai];exact⟨λh=>h.imp Eq.symm id,λh=>h.imp Eq.symm id⟩
def kM(ps:List (Int×Int))(left:List Int)(r:Int)(g:ps.length<16777216):YO 2 2 (GP 2 3) (QT (fB (f2 YL (fV 3) (fV 1))) (fB (f2 (ZF ba) (fV 2) (fO 0)))) (fC (.int 1)) (ps.map Y8) [] [.ow (.lst (left.map .int)),.va (.int r)]=b3 (((ps.map Y8).filter (pw left r)).map λ_=>.int 1,[.ow (.lst (left.map .int)),.va (.int r)]):=by
 have e:∀a:Int,ZF ba (.int a) (.lst (left.map .int))=b3 (.bl (IM (.int a) (left.map .int))):=λa=>by rw[G3 (j:=0) (k:=0) ZP (RS left)];simp
 have:=OL 2 (QT (fB (f2 YL (fV 3) (fV 1))) (fB (f2 (ZF ba) (fV 2) (fO 0)))) (pw left r) (fC (.int 1)) (λ_=>.int 1) [.ow (.lst (left.map .int)),.va (.int r)] rfl (ps.map Y8) [] (λd hd=>by
  obtain⟨⟨a,b⟩,_,rfl⟩:=Cd.mp hd;refine⟨.int a,.int b,rfl,?_,λ_=>by simp⟩;have hi:=e a;have c:pw left r (Y8 (a,b))=(decide (b=r)&&IM (.int a) (left.map .int)):=rfl;rw[c];generalize left.map cF.int=L at*;by_cases f:b=r
  ·simp[f,hi]
  ·simp[f]) (by simpa using g)
 simpa using this
def CM{ds:List cF}:eqD (.lst ds) (.lst [])=ds.isEmpty:=by cases ds<;>rfl
def rdD(ps:List (Int×Int))(left:List Int):cF->Bool
 |.int r=>((ps.map Y8).filter (pw left r)).isEmpty
 |_=>ba
theorem K9{x:Int}:∀{ns:List Int},x∈ns->∃j,TY x ns=b3 j/\ns.eraseIdx j=ns.erase x
 | i :: ns,h => by
  unfold TY;by_cases e:i=x
  ·rw[if_pos e];exact⟨0,rfl,by simp[e]⟩
  ·rw[if_neg e]
   obtain⟨j,h1,h2⟩:=K9 (ns:=ns) (by
    rcases Ai.mp h with z|z
    ·exact absurd z.symm e
    ·exact z)
   refine⟨j+1,by rw[h1];rfl,?_⟩;rw[List.eraseIdx_cons_succ,h2,List.erase_cons_tail (by simpa using e)]
def dP{x:Int}{ns:List Int}(h:x∈ns):mRem (ns.map .int) [.int x]=b3 ((ns.erase x).map .int):=by obtain⟨j,h1,h2⟩:=K9 h;show(VH (ns.map .int)).bind (λns=>(TY x ns).map λj=>(ns.eraseIdx j).map cF.int)=_;rw[NL,An,h1,Sd,h2]
def BI{ps:List (Int×Int)}{left:List Int}{r:Int}:rdD ps left (.int r)=b8↔ ∀p∈ps,p.2=r->p.1∉left:=by
 show((ps.map Y8).filter (pw left r)).isEmpty=b8↔_;rw[Qm,List.filter_eq_nil_iff];constructor
 ·intro h p a b hl
  have:=h (Y8 p) (Cd.mpr ⟨p,a,rfl⟩)
  refine this ?_;show(decide (p.2=r)&&IM (.int p.1) (left.map .int))=b8;rw[GW.mpr hl,b];simp
 ·intro h d hd z
  obtain⟨p,a,rfl⟩:=Cd.mp hd;have z:(decide (p.2=r)&&IM (.int p.1) (left.map .int))=b8:=z;rw[Af,decide_eq_true_eq,GW]at z;exact h p a z.1 z.2
def fK(ps:List (Int×Int))(left:List Int)(c:ps.length<16777216)(a:left.length<16777216):YO 2 1 (gN 2) (fB (f2 YL (ZD [1,2] 2 (W7 (fV 0)) (PN 2 (bH (gN 2) (bH (gN 3) YY))) (QT (fB (f2 YL (fV 3) (fV 1))) (fB (f2 (ZF ba) (fV 2) (fO 0)))) (fC (.int 1))) (Z7 bP))) (fV 2) (left.map .int) [] [.va (.lst (ps.map Y8)),.ow (.lst (left.map .int))]=b3 ((left.filter λr=>rdD ps left (.int r)).map .int,[.va (.lst (ps.map Y8)),.ow (.lst (left.map .int))]):=by
 have:=L6 2 (fB (f2 YL (ZD [1,2] 2 (W7 (fV 0)) (PN 2 (bH (gN 2) (bH (gN 3) YY))) (QT (fB (f2 YL (fV 3) (fV 1))) (fB (f2 (ZF ba) (fV 2) (fO 0)))) (fC (.int 1))) (Z7 bP))) (rdD ps left) (fV 2) id [.va (.lst (ps.map Y8)),.ow (.lst (left.map .int))] rfl (left.map .int) [] (λd hd=>by
  obtain⟨r,_,rfl⟩:=Cd.mp hd;refine⟨?_,λ_=>by simp⟩;have w:=kM ps left r c;have b:YL (.lst (((ps.map Y8).filter (pw left r)).map λ_=>cF.int 1)) (.lst [])=b3 (.bl (rdD ps left (.int r))):=by
   rw[Xl (j:=1) (k:=1) (WK λd hd=>by obtain⟨_,_,rfl⟩:=Cd.mp hd;exact ZP) (WK Y9),CM,List.isEmpty_map]
   rfl
  generalize ((ps.map Y8).filter (pw left r)).map (λ_=>cF.int 1)=W at*;generalize rdD ps left (.int r)=B at*;generalize left.map cF.int=L at*;generalize ps.map Y8=Q at*;simp[Z1,w,b]) (by simpa using a)
 rw[this,List.filter_map];simp[Function.comp_def]
def jM(ns:List Int)(n:Nat)(c:cF)(ps:List (Int×Int))(left made:List Int)(j:Sl)(hl:ns.length<=63)(C:n<800000)(g:left≠[])(hs:left.Pairwise (· < ·))(h:∀p∈ps,p.1<p.2)(w:left.length<1000)(u:made.length<1000)(q:ps.length<10000):∃x∈left,(∀p∈ps,p.2=x->p.1∉left)/\∃e,YS (ost ns n c ps left made j)=b3 (.nx (ost ns (n+1) c ps (left.erase x) (made++[x]) e)):=by
 have o:=fK ps left (by lia) (by lia);have A:0<((left.filter λr=>rdD ps left (.int r)).map cF.int).length:=by
  match left,g,hs with
  |a::t,_,hs=>
   have:a∈((a::t).filter λr=>rdD ps (a::t) (.int r)):=by
    refine Hr.mpr ⟨Bb,BI.mpr λp s y hi=>?_⟩;have h1:=h p s;rw[y]at h1;rcases Ai.mp hi with z|z
    ·lia
    ·have:=(List.pairwise_cons.mp hs).1 _ z
     lia
   rw[Ci];exact List.length_pos_of_mem this
 obtain⟨d,hd,B⟩:=Y5 ns n ((left.filter λr=>rdD ps left (.int r)).map .int) hl (by lia) A;obtain⟨x,m,rfl⟩:=Cd.mp hd;obtain⟨b,f⟩:=Hr.mp m;have v:=dP b;have i:=OF (made.map cF.int) (.int x);have k:made.length<16777216:=by lia
 refine⟨x,b,BI.mp f,.va (.lst ((left.filter λr=>rdD ps left (.int r)).map .int)),?_⟩;unfold YS;simp only[ost,Gu,Bg,Cw];generalize (left.filter λr=>rdD ps left (.int r)).map cF.int=R at*;generalize (left.erase x).map cF.int=E at*;generalize left.map cF.int=L at*;generalize ps.map Y8=Q at*;have l:(made.map cF.int).length<16777216:=by simpa using k
 generalize made.map cF.int=D at*;simp[Z1,o,B,v,i,l]
theorem A3(ns:List Int)(b:cF)(ps:List (Int×Int))(hl:ns.length<=63)(l:∀p∈ps,p.1<p.2)(h:ps.length<10000):∀(f n:Nat) (left made:List Int) (d:Sl),left.length=f->n+f<700000->left.Pairwise (· < ·)->made.length+left.length<1000->(∀p∈ps,p.1∈made∨p.1∈left)->(∀p∈ps,∀k:Nat,made[k]?=b3 p.2->p.1∈made.take k)->∃(order:List Int) (c:Sl),order.Perm (made++left)/\(∀p∈ps,∀k:Nat,order[k]?=b3 p.2->p.1∈order.take k)/\ZR (fB (f2 UT (fO 4) (Z7 bP))) YS (f+1) (ost ns n b ps left made d)=b3 (.nx (ost ns (n+f) b ps [] order c))
 |0,n,left,made,d,o,y,hs,A,h1,h2=>by
  have:left=[]:=Gg.mp o
  subst this;refine⟨made,d,by simp,h2,PK ?_⟩;have e:UT (.lst []) (.lst [])=b3 (.bl ba):=by rw[E9 (j:=1) (k:=1) (WK Y9) (WK Y9),CM];rfl
  simp[ost,e]
 | f + 1,n,left,made,d,o,y,hs,A,h1,h2 => by
  have i:left≠[]:=λz=>by rw[z]at o;simp at o
  obtain⟨x,s,w,t,D⟩:=jM ns n b ps left made d hl (by lia) i hs l (by lia) (by lia) h;have B:=List.length_erase_of_mem s;obtain⟨order,c,v,u,C⟩:=A3 ns b ps hl l h f (n+1) (left.erase x) (made++[x]) t (by lia) (by lia) (hs.sublist (List.erase_sublist)) (by simp;lia) (λp a=>by
   rcases h1 p a with z|z
   ·exact .inl (Bq.mpr (.inl z))
   ·by_cases g:p.1=x
    ·exact .inl (by simp[g])
    ·exact .inr ((List.mem_erase_of_ne g).mpr z)) (λp a k m=>by
   by_cases r:k<made.length
   ·rw[Ak r]at m
    rw[Co (by lia)];exact h2 p a k m
   ·have E:=(Ag.mp m).1
    simp at E;have:k=made.length:=by lia
    subst this;simp at m;have q:=w p a m.symm;rw[Si];exact(h1 p a).resolve_right q)
  refine⟨order,c,?_,u,?_⟩
  ·refine v.trans ?_
   rw[El,List.singleton_append];exact(List.perm_cons_erase s).symm.append_left made
  ·have e:UT (.lst (left.map .int)) (.lst [])=b3 (.bl b8):=by
    rw[E9 (j:=1) (k:=1) (WK (RS left)) (WK Y9),CM];cases left with
    |nil=>exact absurd rfl i
    |cons=>rfl
   rw[LV (δ1:=ost ns n b ps left made d) (by simp[ost,e]) D,C,show n+1+f=n+(f+1) by lia]
def mQ{f:VF}{δ δ1:Ev}{j:Int}(h:f δ=b3 (.int j,δ1))(a:0<=j)(h1:j<=16777216):TD f δ=b3 (.lst (YW 0 j.toNat),δ1):=by unfold TD;rw[h,An];exact if_pos ⟨a,h1⟩
def rgI(k:Nat):List Int:=(Az k).map λi:Nat=>(i:Int)
def ju(k:Nat):YW 0 k=(rgI k).map .int:=by simp[YW,rgI]
def BM{k:Nat}{a:Int}:a∈rgI k↔0<=a/\a<k:=by
 unfold rgI;rw[Cd];constructor
 ·rintro ⟨i,hi,rfl⟩
  have:=Cv.mp hi
  lia
 ·rintro ⟨b,h1⟩
  exact⟨a.toNat,Cv.mpr (by lia),by lia⟩
def DK(k:Nat):(rgI k).Pairwise (· < ·):=Le _ (λa b h=>by lia) (List.pairwise_lt_range)
def HF(k:Nat):(rgI k).length=k:=by simp[rgI]
def dX(ns:List Int)(n:Nat){sure:Int}{rows:List cF}{kds:List Kd}(hl:ns.length<=63)(m:n<500000)(h:Bl [] rows kds)(b:rows.length<=10):∃(ps:List (Int×Int)) (order:List Int),Prs rows ps/\order.Perm (rgI rows.length)/\(∀p∈ps,∀k:Nat,order[k]?=b3 p.2->p.1∈order.take k)/\X9 [YN ns,Y6 n,.tup [.int sure,.tup rows]]=b3 (.lst (order.map .int),[Y6 (n+rows.length)]):=by
 obtain⟨ps,P,f,em⟩:=Zk (sure:=sure) h b;obtain⟨order,l,d,c,e⟩:=A3 ns (.tup [.int sure,.tup rows]) ps hl (λp a=>(P.lt p a).2.1) (by lia) rows.length n (rgI rows.length) [] .no (HF _) (by lia) (DK _) (by simp[HF];lia) (λp a=>.inr (BM.mpr ⟨(P.lt p a).1,by have:=P.lt p a;lia⟩)) (λp a k g=>by simp at g);refine⟨ps,order,P,by simpa using d,c,?_⟩;have e:=NX e;simp only[ost,Cw]at e;have i:TD (f1 ZG (f2 bN (fV 2) (fC (.int 1)))) [.va (YN ns),.ow (Y6 n),.va (.tup [.int sure,.tup rows]),.no,.no,.no,.no]=b3 (.lst ((rgI rows.length).map .int),[.va (YN ns),.ow (Y6 n),.va (.tup [.int sure,.tup rows]),.no,.no,.no,.no]):=by rw[<-ju,mQ (j:=(rows.length:Int)) (δ1:=[.va (YN ns),.ow (Y6 n),.va (.tup [.int sure,.tup rows]),.no,.no,.no,.no]) (by simp) (by lia) (by lia)];simp
 unfold X9;rw[bG,W1.eq_1];generalize (rgI rows.length).map cF.int=L at*;generalize order.map cF.int=O at*;generalize ps.map Y8=Q at*;simp[aU,em,i,e]
def ZY.strong{M:Int->Prop}{row:cF}(h:ZY M row):∃as:List Int,(∀a∈as,M a)/\ZY (· ∈as) row/\Y1 [row]=b3 (.lst (as.map .int),[]):=by
 cases h with
 | @number n e h1=>exact⟨[],(λ_ h=>nomatch h),.number e h1,by kernel_rfl⟩
 | @two x a b f d g=>
  refine⟨[a,b],by simp[d,g],.two f (by simp) (by simp),?_⟩;simp only[Ai,Ap,or_false]at f;rcases f with rfl|rfl|rfl|rfl|rfl|rfl|rfl<;>kernel_rfl
 | @pick c a b hc d g=>exact⟨[c,a,b],by simp[hc,d,g],.pick (by simp) (by simp) (by simp),by kernel_rfl⟩
 | @load p e h1=>exact⟨[],(λ_ h=>nomatch h),.load e h1,by kernel_rfl⟩
 | @take p c a e h1 hc d=>exact⟨[c,a],by simp[hc,d],.take e h1 (by simp) (by simp),by kernel_rfl⟩
 | @store p a e h1 d=>exact⟨[a],by simp[d],.store e h1 (by simp),by kernel_rfl⟩
 | @put p a c e h1 d hc=>exact⟨[a,c],by simp[d,hc],.put e h1 (by simp) (by simp),by kernel_rfl⟩
def DJ{as:List Int}{row:cF}(h:ZY (· ∈as) row){ks:List Z8}{vs:List cF}(e:Int->Int)(f:∀a∈as,Z2 ks vs (.inl a)=b3 (.int (e a))):∃k,aL [row,.dct ks vs]=b3 (k,[])/\ZY (λb=>∃a∈as,b=e a) k/\QO .w k=QO .w row:=by
 cases h with
 | @number n g h1=>
  refine⟨_,?_,.number g h1,rfl⟩;unfold aL;rw[bG];unfold ZO;simp[aU]
 | @two x a b i d j=>
  have r:=(dne i (y:= "number") (by decide)).1;have q:=(dne i (y:= "load") (by decide)).2;have o:=(dne i (y:= "take") (by decide)).2;have m:=(dne i (y:= "store") (by decide)).2;have l:=(dne i (y:= "put") (by decide)).2;refine⟨.tup [.str x,.int (e a),.int (e b)],?_,.two i ⟨a,d,rfl⟩ ⟨b,j,rfl⟩,?_⟩
  ·unfold aL
   rw[bG];unfold ZO;simp[aU,r,q,o,m,l,Z1,f a d,f b j]
  ·simp only[Ai,Ap,or_false]at i
   rcases i with rfl|rfl|rfl|rfl|rfl|rfl|rfl<;>rfl
 | @pick c a b hc d j=>
  refine⟨.tup [.str "pick",.int (e c),.int (e a),.int (e b)],?_,.pick ⟨c,hc,rfl⟩ ⟨a,d,rfl⟩ ⟨b,j,rfl⟩,rfl⟩;unfold aL;rw[bG];unfold ZO;simp[aU,Z1,f a d,f b j,f c hc]
 | @load p g h1=>
  refine⟨.tup [.str "load",.int p],?_,.load g h1,rfl⟩;unfold aL;rw[bG];unfold ZO;simp[aU,Z1]
 | @take p c a g h1 hc d=>
  refine⟨.tup [.str "take",.int p,.int (e c),.int (e a)],?_,.take g h1 ⟨c,hc,rfl⟩ ⟨a,d,rfl⟩,rfl⟩;unfold aL;rw[bG];unfold ZO;simp[aU,Z1,f a d,f c hc]
 | @store p a g h1 d=>
  refine⟨.tup [.str "store",.int p,.int (e a)],?_,.store g h1 ⟨a,d,rfl⟩,rfl⟩;unfold aL;rw[bG];unfold ZO;simp[aU,Z1,f a d]
 | @put p a c g h1 d hc=>
  refine⟨.tup [.str "put",.int p,.int (e a),.int (e c)],?_,.put g h1 ⟨a,d,rfl⟩ ⟨c,hc,rfl⟩,rfl⟩;unfold aL;rw[bG];unfold ZO;simp[aU,Z1,f a d,f c hc]
theorem Bl.at{kds d:List Kd}{rows:List cF}(h:Bl kds rows d):∀{j:Nat}{row:cF},rows[j]?=b3 row->ZY (λa=>Nm d .w a/\a<kds.length+j) row/\d[kds.length+j]?=b3 (QO .w row)/\∀a,Nm kds .w a->Nm d .w a:=by
 have keep:∀{k k':List Kd}{f:List cF},Bl k f k'->∀(i:Nat) (x:Kd),k[i]?=b3 x->k'[i]?=b3 x:=by
  intro k k' f h;induction h with
  |nil=>exact λ_ _ z=>z
  |cons _ _ e=>exact λi x z=>e i x (by rw[Ak (Ag.mp z).1];exact z)
 induction h with
 |nil=>intro j row c;simp at c
 | @cons kds d r rows a t e=>
  intro j row c;cases j with
  |zero=>
   simp at c;subst c;refine⟨a.imp λx b=>⟨⟨b.1,keep t _ _ (b.snoc (j:=QO .w r)).2⟩,by have:=b.lt;lia⟩,keep t _ _ (by simp),λx b=>⟨b.1,keep t _ _ (b.snoc (j:=QO .w r)).2⟩⟩
  |succ j=>
   obtain⟨h1,h2,g⟩:=e (by simpa using c);rw[By,Gq]at h1 h2;refine⟨h1.imp λx b=>⟨b.1,by have:=b.2;lia⟩,by rw[show kds.length+(j+1)=kds.length+1+j by lia];exact h2,λx b=>g x b.snoc⟩
noncomputable def swD:cF->cF
 |.tup [a,b]=>.tup [b,a]
 |_=>.non
noncomputable def kvz:Nat->List Int->List (Z8×cF)
 |_,[]=>[]
 |k,x::xs=>(.inl x,.int (k:Int))::kvz (k+1) xs
theorem EU:∀(xs:List Int) (k:Nat),OU ((XD k (xs.map .int)).map swD)=b3 (kvz k xs)
 |[],_=>rfl
 |x::xs,k=>by rw[Bg,Q3,Bg];show(kprD (.tup [.int x,.int (k:Int)])).bind (λp=>(OU ((XD (k+1) (xs.map .int)).map swD)).map λps=>p::ps)=_;rw[EU xs (k+1)];rfl
theorem MC:∀(xs:List Int) (k:Nat),(kvz k xs).map Ch=xs.map .inl
 |[],_=>rfl
 |x::xs,k=>by rw[kvz,Bg,MC xs (k+1)];rfl
theorem AO:∀(xs:List Int) (k i:Nat),i<xs.length->((kvz k xs).map Dg)[i]?=b3 (.int ((k+i:Nat):Int))
 |[],_,i,h=>by simp at h
 |x::xs,k,0,_=>rfl
 |x::xs,k,i+1,h=>by
  have:=AO xs (k+1) i (by simpa using h)
  rw[kvz,Bg,List.getElem?_cons_succ,this];congr 3;lia
def jB{order:List Int}(c:order.Nodup){a:Int}(d:a∈order):Z2 ((kvz 0 order).map Ch) ((kvz 0 order).map Dg) (.inl a)=b3 (.int (order.idxOf a:Int)):=by
 have hi:order.idxOf a<order.length:=Kc d;rw[EZ _ _ (order.idxOf a) (.inl a) ?_ (by simp) ?_,AO _ _ _ hi]
 ·simp
 ·rw[MC]
  exact Le _ (λa b h e=>h (by injection e)) c
 ·rw[MC,Di,Dr hi,Pc hi]
  rfl
def SN(rows:List cF)(r:Int):cF:=(rows[r.toNat]?).getD .non
noncomputable def DI(rows:List cF)(names:cF):cF->cF
 |.int r=>match aL [SN rows r,names]with
  |some (d,_)=>d
  |none=>.non
 |_=>.non
def BJ{rows os:List cF}{names a:cF}{r:Int}(e:aL [SN rows r,names]=b3 (a,os)):DI rows names (.int r)=a:=by simp only[DI,e]
def GN(order:List Int):cF:=.dct ((kvz 0 order).map Ch) ((kvz 0 order).map Dg)
def Yj{rows:List cF}{kds:List Kd}(n:Bl [] rows kds){ps:List (Int×Int)}(P:Prs rows ps){order:List Int}(q:order.Perm (rgI rows.length))(v:∀p∈ps,∀k:Nat,order[k]?=b3 p.2->p.1∈order.take k){pre rest:List Int}{r:Int}(f:order=pre++r::rest):∃i,aL [SN rows r,GN order]=b3 (i,[])/\RG rows r=b3 (SN rows r)/\ZY (Nm (pre.map λa=>QO .w (SN rows a)) .w) i/\QO .w i=QO .w (SN rows r):=by
 have x:order.Nodup:=q.nodup_iff.mpr ((DK _).imp λh=>by lia);have z:r∈order:=by rw[f];simp
 have j:=BM.mp (q.mem_iff.mp z);have o:rows[r.toNat]?=b3 (SN rows r):=by unfold SN;rw[Dr (by lia)];rfl
 obtain⟨h1,h2,_⟩:=n.at o;obtain⟨as,u,D,C⟩:=h1.strong;have t:∀a∈as,a∈pre:=λa c=>by
  have d:=u a c;have E:a<r:=by have:=d.2;simp at this;lia
  have A:=P.nm r.toNat _ as o C a c d.1.1 (by lia);have:=v _ A pre.length (by rw[f];simp;lia)
  rw[f,Si]at this;exact this
 obtain⟨i,e,ok,mk⟩:=DJ D (ks:=(kvz 0 order).map Ch) (vs:=(kvz 0 order).map Dg) (λa=>(order.idxOf a:Int)) (λa c=>jB x (by rw[f];exact Bq.mpr (.inl (t a c))));refine⟨i,e,by rw[SZ j.1 (by lia)];exact o,ok.imp λb m=>?_,mk⟩;obtain⟨a,c,rfl⟩:=m;have g:=t a c;have hi:pre.idxOf a<pre.length:=Kc g;have l:order.idxOf a=pre.idxOf a:=by rw[f,List.idxOf_append,if_pos g]
 refine⟨by lia,?_⟩;rw[l,Il,Di,Dr hi,Pc hi];have d:=(u a c).1;have B:=d.lt;have F:kds.length=rows.length:=by simpa using n.len
 have y:rows[a.toNat]?=b3 (SN rows a):=by unfold SN;rw[Dr (by have:=d.1;lia)];rfl
 obtain⟨_,s,_⟩:=n.at y;simp only[Gs,Iw]at s;have:=d.2
 rw[s]at this;injection this with this;rw[Sd,this]
theorem Wc{rows:List cF}{kds:List Kd}(f:Bl [] rows kds){ps:List (Int×Int)}(P:Prs rows ps){order:List Int}(d:order.Perm (rgI rows.length))(c:∀p∈ps,∀k:Nat,order[k]?=b3 p.2->p.1∈order.take k):∀(rest pre:List Int),order=pre++rest->Bl (pre.map λa=>QO .w (SN rows a)) ((rest.map .int).map (DI rows (GN order))) (order.map λa=>QO .w (SN rows a))
 |[],pre,b=>by rw[b,Ds];exact .nil
 |r::rest,pre,b=>by obtain⟨i,e,_,ok,mk⟩:=Yj f P d c b;have h:=BJ e;have g:=Wc f P d c rest (pre++[r]) (by rw[b,El];rfl);rw[Bg,Bg,h];refine .cons ok ?_;rw[mk];simpa using g
def kI(ns:List Int)(n:Nat)(most:Int)(hl:ns.length<=63)(Y:n<100000)(Z:0<=most)(O:most<=10):∃(sure:Int) (rows:List cF) (kds:List Kd) (p:Nat),Bl [] rows kds/\(rows.length:Int)<=most/\0<=sure/\sure<=64/\p<=n+1000/\W8 [YN ns,Y6 n,.int most]=b3 (.tup [.int sure,.tup rows],[Y6 p]):=by
 obtain⟨x,t,ex⟩:=Y5 ns n [.int 3,.int 6,.int 9,.int 64] hl (by lia) (by simp);obtain⟨ae,rfl,I,H⟩:∃q:Int,x=.int q/\0<q/\q<=64:=by simp only[Ai,Ap,or_false]at t;rcases t with rfl|rfl|rfl|rfl<;>exact⟨_,rfl,by lia,by lia⟩
 have E:=YU ns (n+1) (ae+1) hl (by lia) (by lia);have X:=UC ns (n+1) (b:=ae+1) (by lia);have W:ON ns (n+1) (ae+1)<ae+1:=Ew _ (by lia);obtain⟨y,s,v⟩:=Y5 ns (n+2) [.int 0,.int ae,.int ae,.int (ON ns (n+1) (ae+1))] hl (by lia) (by simp);obtain⟨sure,rfl,m,s1⟩:∃q:Int,y=.int q/\0<=q/\q<=64:=by simp only[Ai,Ap,or_false]at s;rcases s with rfl|rfl|rfl|rfl<;>exact⟨_,rfl,by lia,by lia⟩
 have C:=YU ns (n+3) (most+1) hl (by lia) (by lia);have l:=UC ns (n+3) (b:=most+1) (by lia);have V:ON ns (n+3) (most+1)<most+1:=Ew _ (by lia);obtain⟨rows,kds,c,g,am,m1,m2,w⟩:=mq ns (n+4) (ON ns (n+3) (most+1)) ae hl (by lia) I H l (by lia);have A:=YU ns c 3 hl (by lia) (by decide);have j:rows.length<=10:=by lia
 by_cases u:0<ON ns c 3
 ·refine ⟨sure,rows,kds,c + 1,g,by lia,m,s1,by lia,?_⟩
  unfold W8;rw[bG];unfold U0;simp[aU,ex,E,v,C,w,A,u]
 ·obtain ⟨ps,order,P,f,o,U⟩ := dX ns (c + 1) (sure := sure) hl (by lia) g j
  have L:order.length=rows.length:=by rw[f.length_eq,HF]
  have J:order.Nodup:=f.nodup_iff.mpr ((DK _).imp λh=>by lia);have G:=OL 0 V7 (λ_=>b8) (aH (cD (fV 1) (cD (fV 0) bP))) swD [] rfl (XD 0 (order.map .int)) [] (λd hd=>by obtain⟨i,hi,e⟩:=List.getElem_of_mem hd;obtain⟨z,_,rfl⟩:=KN (Ag.mpr ⟨hi,e⟩);exact⟨_,_,rfl,by simp,λ_=>by simp[swD]⟩) (by rw[KO];simp;lia)
  have f1:(XD 0 (order.map cF.int)).filter (λ_=>b8)=XD 0 (order.map .int):=List.filter_eq_self.mpr λ_ _=>rfl;rw[f1,Cu]at G;have hd:AW (.lst ((XD 0 (order.map .int)).map swD))=b3 (GN order):=by
   show(OU ((XD 0 (order.map .int)).map swD)).bind (λkds=>if(kds.map Ch).Nodup then b3 (cF.dct (kds.map Ch) (kds.map Dg))else b4)=_;rw[EU,An,if_pos]
   ·rfl
   ·rw[MC]
    exact Le _ (λa b h e=>h (by injection e)) J
  have F:=UA 2 (bW 2 [] aL (aE (f2 bN (f2 bN (fV 0) (fC (.int 1))) (fV 2)) (aE (fV 1) bO))) [.va (.tup [.int sure,.tup rows]),.va (GN order)] (DI rows (GN order)) rfl (order.map .int) [] (λd hd=>by obtain⟨r,K,rfl⟩:=Cd.mp hd;obtain⟨pre,rest,M⟩:=List.append_of_mem K;obtain⟨br,e,T,_,_⟩:=Yj g P f o M;have Q:=BJ e;rw[Q];simp[T,e]) (by simp;lia)
  rw[Cu]at F;have B:=Wc g P f o order [] rfl;refine⟨sure,(order.map .int).map (DI rows (GN order)),_,c+1+rows.length,B,by simp;lia,m,s1,by lia,?_⟩;have k:¬0<ON ns c 3:=u;unfold W8;rw[bG];unfold U0;have N:((order.map cF.int).map (DI rows (GN order))).length<=16777216:=by simp;lia
  generalize (order.map cF.int).map (DI rows (GN order))=R at*;generalize (XD 0 (order.map cF.int)).map swD=S at*;generalize GN order=D at*;simp[aU,ex,E,v,C,w,A,k,U,Z1,G,hd,F]
noncomputable def IZ:List cF:=[.non,.int 5,.tup [],.tup [.int 0],.tup [.int 0,.lst []],.lst [.int 0,.tup []],.tup [.int (-1),.tup []],.tup [.int 65,.tup []],.tup [.bl b8,.tup []],.tup [.str "0",.tup []],.tup [.int 0,.tup [],.tup []],.tup [.int 0,.tup [.tup []]],.tup [.int 0,.tup [.tup [.str "number"]]],.tup [.int 0,.tup [.tup [.str "number",.int 1000]]],.tup [.int 0,.tup [.tup [.str "plus",.int 0,.int 0]]],.tup [.int 0,.tup [.lst [.str "load",.int 0]]],.tup [.int 0,.tup [.tup [.str "load",.int 64]]],.tup [.int 0,.tup [.tup [.str "load",.int (-1)]]],.tup [.int 0,.tup [.tup [.str "halve",.int 0]]],.tup [.int 0,.tup [.tup [.int 5,.int 0]]],.tup [.int 0,.tup [.tup [.str "number",.int 1],.tup [.str "store",.int 0,.int 0],.tup [.str "plus",.int 0,.int 1]]],.tup [.int 0,.tup (Ax 41 (.tup [.str "number",.int 1]))],.tup [.int 0,.tup [.tup [.str "number",.int 1],.tup [.str "plus",.int 0,.int 1]]]]
def iQ(a b:cF):P4 [.va a,.ow b,.no]=bE (bW 3 [1] aZ (aE (fV 0) (aO 1 (aE (fV 2) bO)))) [.va a,.ow b,.va (.lst IZ)]:=by kernel_rfl
def jS(ns:List Int)(n:Nat)(hl:ns.length<=63)(b:n<900000):∃x∈IZ,U8 [YN ns,Y6 n]=b3 (x,[Y6 (n+1)]):=by obtain⟨x,a,ex⟩:=Y5 ns n IZ hl b (by simp[IZ]);refine⟨x,a,?_⟩;unfold U8;rw[bG,show aU [1] 3 [YN ns,Y6 n]=[.va (YN ns),.ow (Y6 n),.no] from rfl,iQ];simp[ex]
noncomputable def isW:Kd->Bool
 |.w=>b8
 |_=>ba
def dJ{kds:List Kd}{a:Int}(h:Nm kds .w a):Ab (kds.map isW) a:=⟨h.1,by rw[Di,h.2];rfl⟩
def mkw{x:String}{t:List cF}:X0 [.tup (.str x::t)]=b3 (.bl (isW (QO .w (.tup (.str x::t)))),[]):=by
 unfold X0;rw[bG];unfold TM;by_cases h:x= "store"
 ·subst h
  simp[aU,QZ,QO,YV,isW]
 ·by_cases h2:x= "put"
  ·subst h2
   simp[aU,QZ,QO,YV,isW]
  ·have b : ¬ "store" = x := λz => h z.symm
   have a:¬ "put"=x:=λz=>h2 z.symm;simp[aU,QZ,QO,YV,isW,h,h2,b,a]
def mi(rest:List cF)(b rws:cF)(sure:Int){kds f:List Kd}{rows:List cF}(h:Bl kds rows f):kds.length+rows.length<1000->∀s:Sl,∃s',WI (gN 4) W0 (rows++rest) [.va b,.va (.int sure),.va rws,.ow (.lst ((kds.map isW).map .bl)),s]=WI (gN 4) W0 rest [.va b,.va (.int sure),.va rws,.ow (.lst ((f.map isW).map .bl)),s']:=by
 induction h with
 |nil=>exact λ_ s=>⟨s,rfl⟩
 | @cons kds f row rows ok h c=>
  intro g s;obtain⟨s',c⟩:=c (by simp at g⊢;lia) (.va row);refine⟨s',?_⟩;have e:=K1 (ok.imp λa=>dJ);obtain⟨x,t,rfl,_⟩:=W4 ok;have d:kds.length<16777216:=by simp at g;lia
  rw[Gu,Gu]at c;simp only[Bg,Cw]at c;rw[Gh,TH,J3,PB];have i:W0 [.va b,.va (.int sure),.va rws,.ow (.lst ((kds.map isW).map .bl)),.va (.tup (.str x::t))]=b3 (.nx [.va b,.va (.int sure),.va rws,.ow (.lst ((kds.map isW).map .bl++[.bl (isW (QO .w (.tup (.str x::t))))])),.va (.tup (.str x::t))]):=by unfold W0;simp only[Qg]at e;simp[e,mkw,d,cF.hard]
  have s1:([.va b,.va (.int sure),.va rws,.ow (.lst ((kds.map isW).map .bl)),s]:Ev).set 4 (.va (.tup (.str x::t)))=[.va b,.va (.int sure),.va rws,.ow (.lst ((kds.map isW).map .bl)),.va (.tup (.str x::t))]:=rfl;rw[s1,i,PC];exact c
def CO{sure:Int}{rows:List cF}{kds:List Kd}(h:Bl [] rows kds)(c:0<=sure)(s1:sure<=64)(d:rows.length<=40):X4 [.tup [.int sure,.tup rows]]=b3 (.bl b8,[]):=by
 obtain⟨s',b⟩:=mi [] (.tup [.int sure,.tup rows]) (.tup rows) sure h (by simp;lia) .no;rw[Ds]at b;simp only[Cw]at b;have a:¬(40:Int)<(rows.length:Int):=by lia
 unfold X4;rw[bG,PY.eq_1];simp[aU,UZ,MT,c,s1,a,b]
noncomputable def ME(ns:List Int)(n:Nat)(most L ae:Int)(rows:List cF)(words ah:List Int)(a b c d e f:Sl):Ev:=
 [.va (YN ns),.ow (Y6 n),.va (.int most),.va (.int L),.va (.int ae),.ow (.lst rows),.ow (.lst (words.map .int)),.ow (.lst (ah.map .int)),a,b,c,d,e,f]
def U3:VS:=
   (bR (ZZ 13 (xV (GQ (fB (f2 YL (f2 bN (f2 bN (fO 5) (f1 VJ (fC (.int 1)))) (fC (.int 0))) (fC (.str "wide")))) (F3 (f2 bN (fO 5) (f1 VJ (fC (.int 1)))) (F4 (fC (.int 1))) D1) (f2 bN (fO 5) (f1 VJ (fC (.int 1)))))))
   (YQ (fB (f2 (ZF b8) (f2 bN (fV 13) (fC (.int 0))) (aH (cD (fC (.str "store")) (cD (fC (.str "put")) bP)))))
   (YQ (fB (f2 (ZF ba) (f2 bN (f2 bN (fO 5) (f1 VJ (fC (.int 1)))) (fC (.int 0))) (aH (cD (fC (.str "wide")) (cD (fC (.str "gather")) (cD (fC (.str "shuffle")) bP))))))
   (XW 7 WX (cD (fV 10) bP))
   (XW 6 WX (cD (fV 10) bP)))
   aI))
section
variable(ns:List Int)(n:Nat)(most LL ae:Int)(rows:List cF)(words ah:List Int)(a b d e f:Sl)
abbrev D7(row:cF)(h g:List Int):Prop:=∃c,U3 (ME ns n most LL ae (rows++[row]) words ah a b (.va (.int rows.length)) d e f)=b3 (.nx (ME ns n most LL ae (rows++[row]) h g a b (.va (.int rows.length)) d e c))
variable{ns n most LL ae rows words ah a b d e f}
def Vy{x:String}{t:List cF}(c:x∉["wide","store","put","gather","shuffle"])(hw:words.length<16777216):D7 ns n most LL ae rows words ah a b d e f (.tup (.str x::t)) (words++[(rows.length:Int)]) ah:=by simp only[Ai,Ap,or_false,not_or]at c;obtain⟨h1,h2,i,h,g⟩:=c;exact⟨_,by simp[U3,ME,hw,h1,Ck h1,Ck h2,Ck i,Ck h,Ck g];rfl⟩
def gX{x:String}{t:List cF}(c:x= "store" ∨x= "put"):D7 ns n most LL ae rows words ah a b d e f (.tup (.str x::t)) words ah:=by
 rcases c with rfl|rfl<;>exact⟨_,by simp[U3,ME];rfl⟩
def Wm{x:String}{t:List cF}(c:x= "gather" ∨x= "shuffle")(hw:ah.length<16777216):D7 ns n most LL ae rows words ah a b d e f (.tup (.str x::t)) words (ah++[(rows.length:Int)]):=by
 rcases c with rfl|rfl<;>exact⟨_,by simp[U3,ME,hw];rfl⟩
def BS{x:String}{t:List cF}(c:x∉["store","put"])(hw:ah.length<16777216):D7 ns n most LL ae rows words ah a b d e f (.tup (.str "wide":: .str x::t)) words (ah++[(rows.length:Int)]):=by simp only[Ai,Ap,or_false,not_or]at c;exact⟨_,by simp[U3,ME,hw,Ck c.1,Ck c.2];rfl⟩
def nu{x:String}{t:List cF}(c:x= "store" ∨x= "put"):D7 ns n most LL ae rows words ah a b d e f (.tup (.str "wide":: .str x::t)) words ah:=by
 rcases c with rfl|rfl<;>exact⟨_,by simp[U3,ME];rfl⟩
end
def cM{L:Nat}{kds:List Kd}{row:cF}{k:Kd}(r:PR L kds row k)(ns:List Int)(n:Nat)(most LL ae:Int)(rows:List cF)(words ah:List Int)(a b d e f:Sl)(hw:words.length<1000)(m:ah.length<1000):∃l,U3 (ME ns n most LL ae (rows++[row]) words ah a b (.va (.int rows.length)) d e f)=b3 (.nx (ME ns n most LL ae (rows++[row]) (if k=.w then words++[(rows.length:Int)]else words) (if k=.p then ah++[(rows.length:Int)]else ah) a b (.va (.int rows.length)) d e l)):=by
 have j:words.length<16777216:=by lia
 have g:ah.length<16777216:=by lia
 cases r with
 |nar h=>
  obtain⟨x,t,rfl,i⟩:=W4 h;by_cases hs:x= "store" ∨x= "put"
  ·rw[E5 hs]
   exact gX hs
  ·have c : x ∉ ["store","put"] := by simpa using hs
   rw[E4 c];exact Vy (by simp only[Ai,Ap,or_false,not_or]at i c⊢;exact⟨i.1,c.1,c.2,i.2.1,i.2.2⟩) j
 |wid h _=>
  obtain⟨x,t,e,i⟩:=W4 h;cases e;by_cases hs:x= "store" ∨x= "put"
  ·rw[E5 hs]
   exact nu hs
  ·have c : x ∉ ["store","put"] := by simpa using hs
   rw[E4 c];exact BS c g
 |wnum _ _=>exact BS (by decide) g
 |gather _ _=>exact Wm (.inl rfl) g
 |shuf _ _ _ _=>exact Wm (.inr rfl) g
 |lane _ _ _=>exact Vy (by decide) j
def ZY.num{M:Int->Prop}{row:cF}{v:Int}(h:ZY M row)(e:row=.tup [.str "number",.int v]):0<=v/\v<=999:=by
 cases h with
 |number a b=>cases e;exact⟨a,b⟩
 |_=>simp[YV]at e
def cX{L:Nat}{rows:List cF}{words ah:List Int}{kds:List Kd}(G:GI L rows words ah kds)(ns:List Int)(n:Nat)(most ae:Int)(a b c d e f:Sl)(hl:ns.length<=63)(hn:n<600000)(hL:2<=L)(hL4:L<=4)(hr:0<ae)(T:ae<=64)(hw:words.length<900)(hp:ah.length<900)(dz:rows.length<900)(it:cF):∃i o l j u D C d' B A,n<=i/\i<=n+20/\((∃r,o=rows++[r])/\∃k,u=kds++[k])/\l.length<=words.length+1/\j.length<=ah.length+1/\GI L o l j u∧V9 (ME ns n most L ae rows words ah (.va it) b c d e f)=b3 (.nx (ME ns i most L ae o l j (.va it) D C d' B A)):=by
 have R:=YU ns n 6 hl (by lia) (by decide);have k0:=UC ns n (b:=6) (by decide);have k1:=QL ns n (b:=6) (by decide);generalize ON ns n 6=F at*;have S:rows.length<16777216:=by lia
 have hrg:YW 0 L=(Az L).map λk:Nat=>cF.int (0+k):=rfl;have s:(YW 0 L).length=L:=by simp[YW]
 have E:∀{row:cF}{k:Kd}(r:PR L kds row k) (m:Nat) (d e:Sl),n<=m->m<=n+20->∃i o l j u D C d' B A,n<=i/\i<=n+20/\((∃r,o=rows++[r])/\∃k,u=kds++[k])/\l.length<=words.length+1/\j.length<=ah.length+1/\GI L o l j u∧
   U3 (ME ns m most L ae (rows++[row]) words ah (.va it) (.va (.int F)) (.va (.int rows.length)) d e f)=b3 (.nx (ME ns i most L ae o l j (.va it) D C d' B A)):=λ{row k} r m d e h1 h2=>by
  obtain⟨A,e1⟩:=cM r ns m most L ae rows words ah (.va it) (.va (.int F)) d e f (by lia) (by lia);exact⟨m,_,_,_,_,_,_,_,_,_,h1,h2,⟨⟨_,rfl⟩,_,rfl⟩,by split<;>simp,by split<;>simp,G.more r,e1⟩
 have U:(L:Int).toNat=L:=by simp
 have V:(-4611686018427387904:Int)<=L/\(L:Int)<4611686018427387904:=by lia
 have g0:F=0∨F=1∨F=2∨F=3∨(4<=F/\F<=5):=by lia
 rcases g0 with h|h|h|h|h
 ·subst h
  obtain⟨X,h1,h2,W⟩:=IE ns words hl G.wn (YW 0 L) (n+1) [] (by rw[s];lia) (by rw[s];simp;lia);have r:PR L kds (.tup [.str "gather",.tup (X.map .int)]) .p:=.gather (by rw[h1,s]) λx P=>G.w x (h2 x P);obtain⟨i,o,l,j,u,D,C,d',B,A,O,N,M,K,J,I,H⟩:=E r (n+1+L) d e (by lia) (by lia);refine⟨i,o,l,j,u,D,C,d',B,A,O,N,M,K,J,I,?_⟩;rw[<-H];simp only[Cu,s]at W;change bR _ (bR _ U3) _=_
  simp -implicitDefEqProofs [ME,R,V,U,Z1,W,S]
 ·subst h
  obtain⟨X,h1,h2,W⟩:=NG ns (2*L) hl (by lia) (bW 3 [1] aY (aE (fV 0) (aO 1 (aE (f2 TU (fC (.int 2)) (fV 2)) bO)))) .no [.va (.int L)] 3 rfl (λm d hm=>by simp[cMul,YU ns m (2*(L:Int)) hl (by lia) (by lia)]) (YW 0 L) (n+1) [] (by rw[s];lia) (by rw[s];simp;lia);obtain⟨y,Z,ey⟩:=Y5 ns (n+1+L) (ah.map .int) hl (by lia) (by simpa using G.pn);obtain⟨p,Q,rfl⟩:=Cd.mp Z;obtain⟨z,hz,ez⟩:=Y5 ns (n+1+L+1) (ah.map .int) hl (by lia) (by simpa using G.pn);obtain⟨q,hq',rfl⟩:=Cd.mp hz;have r:PR L kds (.tup [.str "shuffle",.int p,.int q,.tup (X.map .int)]) .p:=.shuf (G.p p Q) (G.p q hq') (by rw[h1,s]) λx P=>by have:=h2 x P;lia
  obtain⟨i,o,l,j,u,D,C,d',B,A,O,N,M,K,J,I,H⟩:=E r (n+1+L+2) (.va (.tup (X.map .int))) e (by lia) (by lia);refine⟨i,o,l,j,u,D,C,d',B,A,O,N,M,K,J,I,?_⟩;rw[<-H];simp only[Cu,s,Gh]at W;change bR _ (bR _ U3) _=_
  simp -implicitDefEqProofs [ME,R,V,U,Z1,W,S,ey,ez,cF.hard]
 ·subst h
  obtain⟨y,Z,ey⟩:=Y5 ns (n+1) (ah.map .int) hl (by lia) (by simpa using G.pn);obtain⟨p,Q,rfl⟩:=Cd.mp Z;have d2:=YU ns (n+2) L hl (by lia) (by lia);have r:PR L kds (.tup [.str "lane",.int p,.int (ON ns (n+2) L)]) .w:=.lane (G.p p Q) (UC ns (n+2) (by lia)) (QL ns (n+2) (by lia));obtain⟨i,o,l,j,u,D,C,d',B,A,O,N,M,K,J,I,H⟩:=E r (n+3) d e (by lia) (by lia);refine⟨i,o,l,j,u,D,C,d',B,A,O,N,M,K,J,I,?_⟩;rw[<-H];change bR _ (bR _ U3) _=_
  simp -implicitDefEqProofs [ME,R,S,ey,d2,cF.hard]
 ·subst h
  obtain⟨row,m,sn,m1,m2,_,g,Y⟩:=DM ns (n+1) words (.dct [] []) ae hl (by lia) ⟨[],[],rfl,rfl,No,Dm _⟩ hr T;have r:PR L kds row (QO .w row):=.nar (g.imp G.w);obtain⟨i,o,l,j,u,D,C,d',B,A,O,N,M,K,J,I,H⟩:=E r m d (.va row) (by lia) (by lia);refine⟨i,o,l,j,u,D,C,d',B,A,O,N,M,K,J,I,?_⟩;rw[<-H];change bR _ (bR _ U3) _=_
  simp -implicitDefEqProofs [ME,R,S,Y,g.hard]
 ·obtain ⟨row,m,sn,m1,m2,_,g,Y⟩ := DM ns (n + 1) ah (.dct [] []) ae hl (by lia) ⟨[],[],rfl,rfl,No,Dm _⟩ hr T
  have n0:¬F=0:=by lia
  have n1:¬F=1:=by lia
  have n2:¬F=2:=by lia
  have n3:¬F=3:=by lia
  by_cases gw:∃v:Int,row=.tup [.str "number",.int v]
  ·obtain⟨v,rfl⟩:=gw
   have r:PR L kds (.tup [.str "number",.int v]) .w:=by
    have:PR L kds (.tup [.str "number",.int v]) (QO .w (.tup [.str "number",.int v])):=.nar (.number (g.num rfl).1 (g.num rfl).2)
    simpa[QO,YV]using this
   obtain⟨i,o,l,j,u,D,C,d',B,A,O,N,M,K,J,I,H⟩:=E r m d (.va (.tup [.str "number",.int v])) (by lia) (by lia);refine⟨i,o,l,j,u,D,C,d',B,A,O,N,M,K,J,I,?_⟩;rw[<-H];have hh:=g.hard;change bR _ (bR _ U3) _=_
   simp -implicitDefEqProofs [ME,R,n0,n1,n2,n3,S,Y,hh]
  ·obtain ⟨ds,rfl⟩ : ∃ ds,row = .tup ds := by cases g <;> exact ⟨_,rfl⟩
   have r:PR L kds (.tup (.str "wide"::ds)) (QO .p (.tup ds)):=.wid (g.imp G.p) λv hv=>gw ⟨v,by rw[hv]⟩;obtain⟨i,o,l,j,u,D,C,d',B,A,O,N,M,K,J,I,H⟩:=E r m d (.va (.tup ds)) (by lia) (by lia);refine⟨i,o,l,j,u,D,C,d',B,A,O,N,M,K,J,I,?_⟩;rw[<-H];have hh:=g.hard;have hhd:∃(x:String) (t:List cF),ds=.str x::t/\x≠ "number" /\t.length<=3:=by
    cases g with
    |number=>exact absurd ⟨_,rfl⟩ gw
    |two P _ _=>
     simp only[Ai,Ap,or_false]at P;rcases P with rfl|rfl|rfl|rfl|rfl|rfl|rfl<;>exact⟨_,_,rfl,by decide,by simp⟩
    |_=>exact⟨_,_,rfl,by decide,by simp⟩
   obtain⟨x,t,rfl,P,ht⟩:=hhd;have ht':1+(t.length+1)<=16777216:=by lia
   change bR _ (bR _ U3) _=_
   simp -implicitDefEqProofs [ME,R,n0,n1,n2,n3,S,Y,hh,P,ht']
theorem AR(ns:List Int)(most ae:Int){L:Nat}(hl:ns.length<=63)(z:2<=L)(l:L<=4)(y:0<ae)(i:ae<=64):∀(its:List cF) {rows:List cF}{words ah:List Int}{kds:List Kd}(G:GI L rows words ah kds) (n:Nat) (a b c d e f:Sl),n+20*its.length<600000->words.length+its.length<900->ah.length+its.length<900->rows.length+its.length<900->∃h g o m p x w v d' u t,n<=h/\h<=n+20*its.length/\((g.length=rows.length+its.length/\∃A,g=rows++A)/\∃k,p=kds++k)/\GI L g o m p∧WI (gN 8) V9 its (ME ns n most L ae rows words ah a b c d e f)=b3 (.nx (ME ns h most L ae g o m x w v d' u t))
 |[],rows,words,ah,kds,G,n,a,b,c,d,e,f,_,_,_,_=>⟨n,rows,words,ah,kds,a,b,c,d,e,f,by lia,by lia,⟨⟨by simp,[],by simp⟩,[],by simp⟩,G,rfl⟩
 |it::its,rows,words,ah,kds,G,n,a,b,c,d,e,f,h1,h2,I,H=>by
  simp only[Br]at h1 h2 I H;obtain⟨E,J,S,R,T,P,O,N,K,f1,Y,X,⟨⟨B,j⟩,k1,s⟩,V,U,Q,M⟩:=cX G ns n most ae a b c d e f hl (by lia) z l y i (by lia) (by lia) (by lia) it;have W:J.length=rows.length+1:=by rw[j];simp
  obtain⟨h,g,o,m,p,x,w,v,d',u,t,q1,q2,⟨⟨q3,q,F⟩,k2,r⟩,D,C⟩:=AR ns most ae hl z l y i its Q E (.va it) P O N K f1 (by lia) (by lia) (by lia) (by lia);refine⟨h,g,o,m,p,x,w,v,d',u,t,by lia,by simp;lia,⟨⟨by simp;lia,B::q,by rw[F,j];simp⟩,k1::k2,by rw[r,s];simp⟩,D,?_⟩;have hs:(ME ns n most L ae rows words ah a b c d e f).set 8 (.va it)=ME ns n most L ae rows words ah (.va it) b c d e f:=rfl;simp only[TH,J3,hs,PB,M,PC,C]
def fA(ns:List Int)(n:Nat)(hl:ns.length<=63)(Q:n<2000):∃(L f:Nat) (sure:Int) (rows:List cF) (kds:List Kd),2<=L/\L<=4/\0<=sure/\sure<=64/\rows.length<=30/\f<=3000/\((∃k,kds=.w:: .p::k)/\∃(a:Int) (j:List Int) (rt:List cF),rows=.tup [.str "number",.int a]:: .tup [.str "wide",.str "number",.tup (j.map .int)]::rt)/\D4 L [] rows kds∧XR [YN ns,Y6 n,.int 8]=b3 (.tup [.int L,.int sure,.tup rows],[Y6 f]):=by
 obtain⟨y,B,J⟩:=Y5 ns n [.int 2,.int 3,.int 4] hl (by lia) (by simp);obtain⟨L,rfl,i,g⟩:∃L:Nat,y=.int L/\2<=L/\L<=4:=by
  simp only[Ai,Ap,or_false]at B;rcases B with h|h|h
  ·exact⟨2,h,by lia,by lia⟩
  ·exact⟨3,h,by lia,by lia⟩
  ·exact⟨4,h,by lia,by lia⟩
 obtain⟨z,hz,I⟩:=Y5 ns (n+1) [.int 4,.int 9,.int 64] hl (by lia) (by simp);obtain⟨ae,rfl,q,o⟩:∃r:Int,z=.int r/\0<r/\r<=64:=by simp only[Ai,Ap,or_false]at hz;rcases hz with h|h|h<;>exact⟨_,h,by lia,by lia⟩
 have N:=YU ns (n+2) 1000 hl (by lia) (by decide);have e:=LG L;obtain⟨j,h1,h2,C⟩:=NG ns 1000 hl (by lia) (bW 3 [1] aY (aE (fV 0) (aO 1 (aE (fC (.int 1000)) bO)))) .no [] 2 rfl (λm d R=>by simp[YU ns m 1000 hl (by lia) (by lia)]) (YW 0 L) (n+3) [] (by rw[e];lia) (by rw[e];simp;lia);simp only[Cu,e,Ds]at C;have M:=YU ns (n+3+L) 9 hl (by lia) (by decide);have q0:=UC ns (n+3+L) (b:=9) (by decide);have q1:=QL ns (n+3+L) (b:=9) (by decide);generalize ON ns (n+3+L) 9=cnt at*;have G:GI L [.tup [.str "number",.int (ON ns (n+2) 1000)],.tup [.str "wide",.str "number",.tup (j.map .int)]] [0] [1] [.w,.p]:=by
  have a0:=UC ns (n+2) (b:=1000) (by decide);have Z:=QL ns (n+2) (b:=1000) (by decide);have E:PR L [] (.tup [.str "number",.int (ON ns (n+2) 1000)]) .w:=by
   have:PR L [] (.tup [.str "number",.int (ON ns (n+2) 1000)]) (QO .w (.tup [.str "number",.int (ON ns (n+2) 1000)])):=.nar (.number a0 (by lia))
   simpa[QO,YV]using this
  refine⟨.cons E (.cons (.wnum (by rw[h1,e]) λw hw=>?_) .nil),λa u=>?_,λa u=>?_,by simp,by simp⟩
  ·have:=h2 w hw
   lia
  ·rw[Ar.mp u];exact⟨by decide,rfl⟩
  ·rw[Ar.mp u];exact⟨by decide,rfl⟩
 have c:=LG cnt.toNat;obtain⟨f,O,Y,X,P,a',W,V,d',U,T,S,H,⟨⟨D,rt,l⟩,k,s⟩,F,A⟩:=AR ns 8 ae hl i g q o (YW 0 cnt.toNat) G (n+4+L) .no .no .no .no .no .no (by rw[c];lia) (by rw[c];simp;lia) (by rw[c];simp;lia) (by rw[c];simp;lia);rw[c]at H D;simp only[Br,Gs]at D;have K:=YU ns f (ae+1) hl (by lia) (by lia);refine⟨L,f+1,ON ns f (ae+1),O,P,i,g,UC ns f (by lia),?_,by lia,by lia,⟨⟨k,s⟩,_,j,rt,l⟩,F.rows,?_⟩
 ·have := QL ns f (b := ae + 1) (by lia)
  lia
 ·have v : (L : Int).toNat = L := by simp
  have x:(-4611686018427387904:Int)<=L/\(L:Int)<4611686018427387904:=by lia
  have t:(-4611686018427387904:Int)<=cnt/\cnt<4611686018427387904:=by lia
  simp only[ME,Bg,Cw]at A;rw[show n+4+L=n+3+L+1 by lia]at A;unfold XR;rw[bG,UQ.eq_1];simp -implicitDefEqProofs [aU,J,I,N,x,v,Z1,C,M,t,A,K]
@[simp] theorem qG{ds:List cF}{L:Int}:YM [.tup ds,.int L]=b3 (.bl (decide ((ds.length:Int)=L)),[]):=by unfold YM;rw[bG];unfold VE;simp[aU]
def CQ{a:List Bool}{ds:List cF}{L:Int}(h:ZY (Ab a) (.tup ds))(d:∀n,ds≠[.str "number",.int n]):VN [.tup ds,.int L,.lst (a.map .bl)]=b3 (.bl b8,[]):=by
 have e:=K1 h;have hd:∃(x:String) (t:List cF),ds=.str x::t/\x≠ "number":=by
  generalize c:cF.tup ds=row at h;cases h with
  |number=>cases c;exact absurd rfl (d _)
  |two b _ _=>
   simp only[Ai,Ap,or_false]at b;cases c;rcases b with rfl|rfl|rfl|rfl|rfl|rfl|rfl<;>exact⟨_,_,rfl,by decide⟩
  |_=>cases c;exact⟨_,_,rfl,by decide⟩
 obtain⟨x,t,rfl,b⟩:=hd;unfold VN;rw[bG];unfold Q4;by_cases hl:((t.length:Int)+1=2)
 ·simp[aU,hl,b,e]
 ·simp[aU,hl,e]
def CP{d:cF}{a:List Int}{L:Nat}(h:a.length=L)(f:L<=4)(hw:∀w∈a,0<=w/\w<=999):VN [.tup [.str "number",.tup (a.map .int)],.int L,d]=b3 (.bl b8,[]):=by
 have e:=UA 0 (bW 3 [] a9 (aE (fV 0) (aE (fC (.int 0)) (aE (fC WG) bO)))) [] (λ_=>.bl b8) rfl (a.map .int) [] (λx c=>by
  obtain⟨w,b,rfl⟩:=Cd.mp c;have:=hw w b
  simp[WG,this.1,this.2]) (by simp;lia)
 unfold VN;rw[bG];unfold Q4;simp only[Cu]at e;simp[aU,h,Z1,e,RH]
def ES{a:List Bool}{b:List Int}{L:Nat}(h:b.length=L)(g:L<=4)(f:∀r∈b,Ab a r):UV [.tup [.tup (b.map .int)],.int L,.lst (a.map .bl)]=b3 (.bl b8,[]):=by
 have e:=UA 1 (bW 2 [] YG (aE (fV 1) (aE (fV 0) bO))) [.va (.lst (a.map .bl))] (λ_=>.bl b8) rfl (b.map .int) [] (λx d=>by obtain⟨w,c,rfl⟩:=Cd.mp d;simp[K5 (f w c)]) (by simp;lia)
 unfold UV;rw[bG];unfold RL;simp only[Cu]at e;simp[aU,h,Z1,e,RH]
def jQ{a:List Bool}{p q:Int}{ps:List Int}{L:Nat}(g:Ab a p)(f:Ab a q)(h:ps.length=L)(i:L<=4)(c:∀x∈ps,0<=x/\x<2*L):VT [.tup [.int p,.int q,.tup (ps.map .int)],.int L,.lst (a.map .bl)]=b3 (.bl b8,[]):=by
 have e:=UA 1 (bW 3 [] a9 (aE (fV 1) (aE (fC (.int 0)) (aE (f2 RY (f2 TU (fC (.int 2)) (fV 0)) (fC (.int 1))) bO)))) [.va (.int L)] (λ_=>.bl b8) rfl (ps.map .int) [] (λx d=>by
  obtain⟨w,b,rfl⟩:=Cd.mp d;have h1:=(c w b).1;have h2:w<=2*(L:Int)-1:=by have:=(c w b).2;lia
  simp[cMul,h1,h2]) (by simp;lia)
 unfold VT;rw[bG];unfold TK;simp only[Cu]at e;simp[aU,h,Z1,e,RH,K5 g,K5 f]
def oh{a:List Bool}{p k:Int}{L:Nat}(b:Ab a p)(c:0<=k)(h1:k<L):QW [.tup [.int p,.int k],.int L,.lst (a.map .bl)]=b3 (.bl b8,[]):=by
 have h2:k<=(L:Int)-1:=by lia
 unfold QW;rw[bG];unfold NI;simp[aU,K5 b,c,h2]
def Wb(kds:List Kd):List Bool:=kds.map λk=>decide (k=.w)
def Pb(kds:List Kd):List Bool:=kds.map λk=>decide (k=.p)
def Nm.w{kds:List Kd}{a:Int}(h:Nm kds .w a):Ab (Wb kds) a:=⟨h.1,by simp[Wb,h.2]⟩
def Nm.p{kds:List Kd}{a:Int}(h:Nm kds .p a):Ab (Pb kds) a:=⟨h.1,by simp[Pb,h.2]⟩
def Zw{M:Int->Prop}{row:cF}(h:ZY M row):∃(x:String) (t:List cF),row=.tup (.str x::t)/\x∉["wide","gather","shuffle","lane"]:=by
 cases h with
 |two a _ _=>
  simp only[Ai,Ap,or_false]at a;rcases a with rfl|rfl|rfl|rfl|rfl|rfl|rfl<;>exact⟨_,_,rfl,by decide⟩
 |_=>exact⟨_,_,rfl,by decide⟩
def DD{L:Nat}{kds:List Kd}{row:cF}{k:Kd}(r:PR L kds row k)(d:L<=4):XY [row,.int L,.lst ((Wb kds).map .bl),.lst ((Pb kds).map .bl)]=b3 (.bl b8,[]):=by
 unfold XY;rw[bG];unfold WO;cases r with
 |nar h=>
  have e:=K1 (h.imp λa z=>z.w);obtain⟨x,t,rfl,f⟩:=Zw h;simp only[Ai,Ap,or_false,not_or]at f;have hz:¬((t.length:Int)+1=0):=by lia
  simp[aU,f,hz,e]
 | @wid ds h i=>
  have e:=CQ (L:=L) (h.imp λa z=>z.p) i;have hz:¬((ds.length:Int)+1=0):=by lia
  simp[aU,hz,e]
 |wnum h hw=>simp[aU,CP h d hw]
 |gather h b=>simp[aU,ES h d λr z=>(b r z).w]
 |shuf c g h b=>simp[aU,jQ c.p g.p h d b]
 |lane c j h1=>simp[aU,oh c.p j h1]
noncomputable def RU:Kd->cF
 |.w=>.str "word"
 |.p=>.str "pack"
 |.n=>.non
def AN{L:Nat}{kds:List Kd}{row:cF}{k:Kd}(r:PR L kds row k):X5 [row]=b3 (RU k,[]):=by
 cases r with
 | nar h => cases h with
  |two a _ _=>
   simp only[Ai,Ap,or_false]at a;rcases a with rfl|rfl|rfl|rfl|rfl|rfl|rfl<;>kernel_rfl
  |_=>kernel_rfl
 | wid h b => cases h with
  |two a _ _=>
   simp only[Ai,Ap,or_false]at a;rcases a with rfl|rfl|rfl|rfl|rfl|rfl|rfl<;>kernel_rfl
  |_=>kernel_rfl
 |_=>kernel_rfl
@[simp] theorem uA{x:Ug}:eqD .non (.str x)=ba:=(rfl)
def kD(k:Kd):YL (RU k) (.str "word")=b3 (.bl (decide (k=.w))):=by
 cases k
 ·simp[RU]
 ·simp[RU]
 ·simp[RU,YL]
def fF(k:Kd):YL (RU k) (.str "pack")=b3 (.bl (decide (k=.p))):=by
 cases k
 ·simp[RU]
 ·simp[RU]
 ·simp[RU,YL]
theorem JJ{L:Nat}(c:L<=4)(a:cF):∀{kds b:List Kd}{rows:List cF}(h:D4 L kds rows b) (s t:Sl),kds.length+rows.length<1000->∃s' t',WI (gN 4) ZK rows [.va a,.va (.int L),.ow (.lst ((Wb kds).map .bl)),.ow (.lst ((Pb kds).map .bl)),s,t]=b3 (.nx [.va a,.va (.int L),.ow (.lst ((Wb b).map .bl)),.ow (.lst ((Pb b).map .bl)),s',t'])
 |_,_,[],.nil,s,t,_=>⟨s,t,rfl⟩
 |kds,_,row::rows,.cons (k:=k) r h,s,t,hl=>by
  obtain⟨s',t',e⟩:=JJ c a h (.va row) (.va (RU k)) (by simp at hl⊢;lia);refine⟨s',t',?_⟩;have h1:kds.length<16777216:=by lia
  have d:Wb (kds++[k])=Wb kds++[decide (k=.w)]:=by simp[Wb]
  have p1:Pb (kds++[k])=Pb kds++[decide (k=.p)]:=by simp[Pb]
  rw[d,p1]at e;have f:(Wb kds).length=kds.length:=by simp[Wb]
  have g:(Pb kds).length=kds.length:=by simp[Pb]
  have pr:=DD r c;simp only[Gu,Bg,Cw]at e;have body:ZK [.va a,.va (.int L),.ow (.lst ((Wb kds).map .bl)),.ow (.lst ((Pb kds).map .bl)),.va row,t]=b3 (.nx [.va a,.va (.int L),.ow (.lst ((Wb kds).map .bl++[.bl (decide (k=.w))])),.ow (.lst ((Pb kds).map .bl++[.bl (decide (k=.p))])),.va row,.va (RU k)]):=by simp[ZK,pr,cF.hard,AN r,kD,fF,f,g,h1]
  rw[TH,J3,PB];show qf2 _ _ _ (ZK [.va a,.va (.int L),.ow (.lst ((Wb kds).map .bl)),.ow (.lst ((Pb kds).map .bl)),.va row,t])=_;rw[body,PC];exact e
def dQ{L:Nat}{sure:Int}{rows:List cF}{kds:List Kd}(h:D4 L [] rows kds)(a:2<=L)(b:L<=4)(c:0<=sure)(h1:sure<=64)(j:rows.length<=400):aT [.tup [.int L,.int sure,.tup rows]]=b3 (.bl b8,[]):=by
 obtain⟨s',t',e⟩:=JJ b (.tup rows) h .no .no (by simp;lia);have f:YF [.tup rows,.int L]=b3 (.bl b8,[]):=by unfold YF;rw[bG,XJ.eq_1];simp only[Wb,Pb,Cw]at e;simp[aU,e]
 have d:SV [.int L]=b3 (.bl b8,[]):=by
  have i:(2:Int)<=L:=by lia
  have g:(L:Int)<=4:=by lia
  unfold SV;rw[bG];unfold PZ;simp[aU,QJ,OJ,i,g]
 have h2:¬(400:Int)<rows.length:=by lia
 unfold aT;rw[bG];unfold TJ;simp[aU,d,UZ,V4,c,h1,h2,f]
abbrev rf(k:Int):cF:=.tup [.str "refused",.int k]
abbrev rw_(d:cF):cF:=.tup [.str "row",d]
def oH{k:Nat}{d:cF}(h:okk k d)(a:k<=64:=by decide):UT d d=b3 (.bl ba):=by rw[E9 h h a a,EL h];rfl
def B8:UX [EM (("NoProgram":Ug),b4)]=b3 (rf 5,[]):=by kernel_rfl
def Vh{δ:Ev}:BB δ b4=b4:=(rfl)
def DF:qRet b4=b4:=(rfl)
def qS_0{g:VS}:qS b4 g=b4:=(rfl)
def DG{ml:List Nat}:qRun ml b4=b4:=(rfl)
def pl3{a b c:cF}:TW [.d a,.d b,.d c]=b3 [a,b,c]:=(rfl)
def UM{d:cF}{lo hi:cF}(hd:d=.non∨(∃b,d=.bl b)∨(∃s,d=.str s)∨∃l,d=.lst l):a9 [d,lo,hi]=b3 (.bl ba,[]):=by
 rcases hd with rfl|⟨b,rfl⟩|⟨s,rfl⟩|⟨l,rfl⟩<;>kernel_rfl
def C0:IZ.map (λx=>bB [.int 0,x,.non,.non])=Ax 23 (b3 (rf 0,[])):=by kernel_rfl
def jv{x:cF}(a:x∈IZ):bB [.int 0,x,.non,.non]=b3 (rf 0,[]):=List.eq_of_mem_replicate (C0▸Nv a)
section
variable{b p c d l:cF}
def l8(d:X4 [b]=b3 (.bl b8,[]))(a:aT [p]=b3 (.bl ba,[])):bB [.int 0,b,p,c]=b3 (rf 5,[]):=by
 have f:QX [b,p,c]=b4:=by unfold QX;rw[bG];unfold MA;simp[aU,d,a,qS_0,DG]
 have e:OC [b,p,c]=b3 ((("NoProgram":Ug),b4):Xw):=by unfold OC FM HN;simp[aU,d,a,F0,DY,DZ,zNo]
 unfold bB;rw[bG];unfold WP;simp[aU,LI,M6,DY,M8,YV,f,e,B8,Vh,DF,pl3,LW]
def eY(a:aT [p]=b3 (.bl ba,[])):bB [.int 1,p,c,d]=b3 (rf 5,[]):=by
 have e:WY [p,c,d]=b4:=by unfold WY;rw[bG];unfold RO;simp[aU,a,qS_0,DG]
 have b:U9 [p,c,d]=b3 ((("NoProgram":Ug),b4):Xw):=by unfold U9 FM PM;simp[aU,a,F0,DY,DZ,zNo]
 unfold bB;rw[bG];unfold WP;simp[aU,LI,M6,DY,M8,YV,e,b,B8,Vh,DF,pl3,LW]
def F8(a:aT [p]=b3 (.bl b8,[]))(hw:aA [p,d,l]=b3 (.bl ba,[])):bB [.int 1,p,d,l]=b3 (rw_ d,[]):=by
 have c:WY [p,d,l]=b4:=by unfold WY;rw[bG];unfold RO;simp[aU,a,hw,qS_0,DG]
 have b:U9 [p,d,l]=b3 ((("NoRow":Ug),b3 (("row":Ug),d)):Xw):=by unfold U9 FM PM;simp[aU,a,hw,F0,DY,DZ,zNo,MF]
 unfold bB;rw[bG];unfold WP;simp[aU,LI,M6,DY,M8,YV,c,b,Vh,DF,pl3,EM,G5,LW]
def mS{r:cF}(c:aT [p]=b3 (.bl b8,[]))(hw:aA [p,d,l]=b3 (.bl b8,[]))(b:N8 [p,d,l]=b3 (r,[])):bB [.int 1,p,d,l]=b3 (r,[]):=by
 have a:WY [p,d,l]=b3 (r,[]):=by unfold WY;rw[bG];unfold RO;simp[aU,c,hw,b]
 unfold bB;rw[bG];unfold WP;simp[aU,LI,M6,a]
def ny{s s':Int}{x y z:cF}(b:X4 [.tup [.int s,x]]=b3 (.bl b8,[]))(a:aT [.tup [y,.int s',z]]=b3 (.bl b8,[]))(e:YZ [.tup [.int s,x],.tup [y,.int s',z],c]=b3 (.bl ba,[])):bB [.int 0,.tup [.int s,x],.tup [y,.int s',z],c]=b3 (.bl ba,[]):=by
 have d:QX [.tup [.int s,x],.tup [y,.int s',z],c]=b3 (.bl ba,[]):=by
  unfold QX;rw[bG];unfold MA;by_cases h:s=s'
  ·subst h
   simp[aU,b,a,e]
  ·simp[aU,b,a,h]
 unfold bB;rw[bG];unfold WP;simp[aU,LI,M6,d]
end
section
variable{L sure:Int}{rows:List cF}{d l row:cF}
def Zx(hw:a9 [d,.int 0,.int ((rows.length:Int)-1)]=b3 (.bl ba,[])):aA [.tup [.int L,.int sure,.tup rows],d,l]=b3 (.bl ba,[]):=by unfold aA;rw[bG];unfold WN;simp[aU,hw]
def hw_n{i:Nat}(hi:rows[i]?=b3 row)(a:X5 [row]=b3 (.non,[])):aA [.tup [.int L,.int sure,.tup rows],.int i,l]=b3 (.bl ba,[]):=by
 have hl:=(Ag.mp hi).1;have h1:(i:Int)<=(rows.length:Int)-1:=by lia
 have b:RG rows (i:Int)=b3 row:=by rw[SZ (by lia) (by lia)];simpa using hi
 have q1:YL .non (.str "pack")=b3 (.bl ba):=by kernel_rfl
 have q2:YL .non (.str "word")=b3 (.bl ba):=by kernel_rfl
 unfold aA;rw[bG];unfold WN;simp[aU,h1,b,a,q1,q2]
def hw_0{a:Int}{rt:List cF}{x:Bool}(hl:NW l .non=b3 (.bl x)):aA [.tup [.int L,.int sure,.tup (.tup [.str "number",.int a]::rt)],.int 0,l]=b3 (.bl x,[]):=by
 have b:X5 [.tup [.str "number",.int a]]=b3 (.str "word",[]):=by kernel_rfl
 have h1:(0:Int)<=(rt.length:Int)+1-1:=by lia
 unfold aA;rw[bG];unfold WN;simp[aU,b,hl,h1]
def hw_1{b a:cF}{rt:List cF}(hl:a9 [l,.int 0,.int (L-1)]=b3 (.bl ba,[])):aA [.tup [.int L,.int sure,.tup (b:: .tup [.str "wide",.str "number",a]::rt)],.int 1,l]=b3 (.bl ba,[]):=by
 have c:X5 [.tup [.str "wide",.str "number",a]]=b3 (.str "pack",[]):=by kernel_rfl
 have h1:(1:Int)<=(rt.length:Int)+1:=by lia
 unfold aA;rw[bG];unfold WN;simp[aU,c,hl,h1]
def lV{a:Int}{rt:List cF}:N8 [.tup [.int L,.int sure,.tup (.tup [.str "number",.int a]::rt)],.int 0,.non]=b3 (.tup [.str "number",.int a],[]):=by
 have tk:SY [.tup [.str "number",.int a],.non,.int L]=b3 (.non,[]):=by kernel_rfl
 generalize c:cF.tup (.tup [.str "number",.int a]::rt)=R;have b:bN R (.int 0)=b3 (.tup [.str "number",.int a]):=by rw[<-c];simp
 have w:T2 (fB (f2 SM (fV 6) (fC .non))) NC [.va (.tup [.int L,.int sure,R]),.va (.int 0),.va .non,.va (.int L),.va (.int sure),.va R,.va (.tup [.int 0,.non])]=b3 (.nx [.va (.tup [.int L,.int sure,R]),.va (.int 0),.va .non,.va (.int L),.va (.int sure),.va R,.va .non]):=by refine NX (n:=2) ?_;rw[LV (δ1:=[.va (.tup [.int L,.int sure,R]),.va (.int 0),.va .non,.va (.int L),.va (.int sure),.va R,.va (.tup [.int 0,.non])]) (δ2:=[.va (.tup [.int L,.int sure,R]),.va (.int 0),.va .non,.va (.int L),.va (.int sure),.va R,.va .non]) (by simp) (by unfold NC;simp[b,tk])];exact PK (by simp)
 unfold N8;rw[bG,GU.eq_1];simp[aU,w,b]
end
def D4.pre{L:Nat}{a b:List Kd}{c:List cF}(h:D4 L a c b):a<+:b:=by
 induction h with
 |nil=>exact List.prefix_refl _
 |cons _ _ d=>exact(List.prefix_append _ _).trans d
def D4.at_{L:Nat}{kds b:List Kd}{rows:List cF}(h:D4 L kds rows b):∀{i:Nat}{k:Kd},b[kds.length+i]?=b3 k->∃row a,rows[i]?=b3 row/\PR L a row k:=by
 induction h with
 |nil=>
  intro i k e;have:=(Ag.mp e).1
  lia
 | @cons kds b row k0 rows r h c=>
  intro i k e;cases i with
  |zero=>
   obtain⟨t,rfl⟩:=h.pre;have:k0=k:=by simpa using e
   subst this;exact⟨row,kds,rfl,r⟩
  |succ i=>
   obtain⟨g,a,f,d⟩:=c (i:=i) (k:=k) (by rw[<-e];congr 1;simp;lia);exact⟨g,a,by simpa using f,d⟩
section
variable{L:Nat}{S T B P O M:Sl}{zs:List Int}{i:Int}
def Zt{kds:List Kd}{row:cF}{k:Kd}(r:PR L kds row k)(hz:zs.length<16777216)(s:Sl):∃s',OH [S,T,B,P,O,M,.ow (.lst (zs.map .int)),.va (.int i),.va row,s,.no,.no,.no]=b3 (.nx [S,T,B,P,O,M,.ow (.lst ((if k=.n then zs++[i]else zs).map .int)),.va (.int i),.va row,s',.no,.no,.no]):=by
 unfold OH;cases r with
 |nar h=>
  obtain⟨x,t,rfl,b⟩:=W4 h;simp only[Ai,Ap,or_false,not_or]at b;by_cases hs:x= "store" ∨x= "put"
  ·rw[E5 hs]
   rcases hs with rfl|rfl<;>exact⟨_,by simp[hz];rfl⟩
  ·have a : x ∉ ["store","put"] := by simpa using hs
   rw[E4 a];simp only[Ai,Ap,or_false,not_or]at a;exact⟨_,by simp[b.1,Ck a.1,Ck a.2];rfl⟩
 |wid h _=>
  obtain⟨x,t,e,b⟩:=W4 h;cases e;by_cases hs:x= "store" ∨x= "put"
  ·rw[E5 hs]
   rcases hs with rfl|rfl<;>exact⟨_,by simp[hz];rfl⟩
  ·have a : x ∉ ["store","put"] := by simpa using hs
   rw[E4 a];simp only[Ai,Ap,or_false,not_or]at a;exact⟨_,by simp[Ck a.1,Ck a.2];rfl⟩
 |wnum _ _=>exact⟨_,by simp;rfl⟩
 |gather _ _=>exact⟨_,by simp;rfl⟩
 |shuf _ _ _ _=>exact⟨_,by simp;rfl⟩
 |lane _ _ _=>exact⟨_,by simp;rfl⟩
theorem FS:∀{rows:List cF}{kds f:List Kd}{zs:List Int},D4 L kds rows f->(∀z∈zs,Nm kds .n z)->zs.length<=kds.length->kds.length+rows.length<1000->∀a b c:Sl,∃(d:List Int) (m l j:Sl),(∀z∈d,Nm f .n z)/\d.length<=f.length∧WI (PN 2 (bH (gN 7) (bH (gN 8) YY))) OH (XD kds.length rows) [S,T,B,P,O,M,.ow (.lst (zs.map .int)),a,b,c,.no,.no,.no]=b3 (.nx [S,T,B,P,O,M,.ow (.lst (d.map .int)),m,l,j,.no,.no,.no])
 |[],kds,_,zs,.nil,h,hl,_,a,b,c=>⟨zs,a,b,c,h,hl,by simp[XD]⟩
 | row :: rows,kds,f,zs,.cons (k := k) r h,hz,hl,hk,a,b,c => by
  simp only[Br]at hk;obtain⟨s',st⟩:=Zt (S:=S) (T:=T) (B:=B) (P:=P) (O:=O) (M:=M) (zs:=zs) (i:=kds.length) r (by lia) c;obtain⟨d,m,l,j,s,p,o⟩:=FS (zs:=if k=.n then zs++[(kds.length:Int)]else zs) h (λz e=>by
   split at e
   ·rename_i t
    rcases Bq.mp e with q|q
    ·exact(hz z q).snoc
    ·rw[Ar.mp q,t];exact Nm.new
   ·exact(hz z e).snoc) (by split<;>simp<;>lia) (by simp;lia) (.va (.int kds.length)) (.va row) s'
  rw[By,Gq]at o;refine⟨d,m,l,j,s,p,?_⟩;rw[Q3,TH];have g:PN 2 (bH (gN 7) (bH (gN 8) YY)) (.tup [.int kds.length,row]) [S,T,B,P,O,M,.ow (.lst (zs.map .int)),a,b,c,.no,.no,.no]=b3 [S,T,B,P,O,M,.ow (.lst (zs.map .int)),.va (.int kds.length),.va row,c,.no,.no,.no]:=by simp
  rw[g,PB,st,PC,o]
end
def Bl.okk{kds b:List Kd}{rows:List cF}(h:Bl kds rows b):∀d∈rows,okk 1 d:=by
 induction h with
 |nil=>exact λ_ h=>nomatch h
 |cons ok _ a=>
  refine aX ?_ a;cases ok<;>first|exact W2 (aX ZT (aX ZP Y9))|exact W2 (aX ZT (aX ZP (aX ZP Y9)))|exact W2 (aX ZT (aX ZP (aX ZP (aX ZP Y9))))
def Bl.hd{a:List Kd}{row:cF}{rows:List cF}(h:Bl [] (row::rows) a):∃(x:String) (t:List cF),row=.tup (.str x::t):=by
 cases h with
 |cons ok _=>
  obtain⟨x,t,e,_⟩:=W4 ok;exact⟨x,t,e⟩
noncomputable def gl1:VS:=(ZZ 1 (xO (Z7 bP)))
noncomputable def gl2:VS:=(U2 2 3 (xV (bW 3 [1] W8 (aE (fV 0) (aO 1 (aE (fC (.int 6)) bO))))) (xV (bW 3 [1] XR (aE (fV 0) (aO 1 (aE (fC (.int 8)) bO))))))
noncomputable def gl3:VS:=(ZZ 4 (xV (bW 3 [1] aZ (aE (fV 0) (aO 1 (aE (Z7 (cD (fC .non) (cD (fC (.int 5)) (cD (aH bP) (cD (aH (cD (fC (.int 2)) (cD (fC (.int 0)) bP))) (cD (fC (.tup [.int 1,.int 0,.tup []])) (cD (fC (.tup [.int 2,.int 0,.lst []])) (cD (fC (.tup [.int 2,.int 0,.tup [.tup []]])) (cD (fC (.str "program")) (cD (fV 2) bP)))))))))) bO))))))
noncomputable def gl4:VS:=(YQ (fB (f2 UT (bW 4 [] bB (aE (fC (.int 0)) (aE (bW 2 [1] U8 (aE (fV 0) (aO 1 bO))) (aE (fC .non) (aE (fC .non) bO))))) (aH (cD (fC (.str "refused")) (cD (fC (.int 0)) bP))))) (bE (fC (.bl ba))) aI)
noncomputable def gl5:VS:=(YQ (MS (fB (f2 UT (bW 4 [] bB (aE (fC (.int 0)) (aE (fV 2) (aE (fV 4) (aE (fC .non) bO))))) (aH (cD (fC (.str "refused")) (cD (fC (.int 5)) bP))))) (fB (f2 UT (bW 4 [] bB (aE (fC (.int 1)) (aE (fV 4) (aE (fC .non) (aE (fC .non) bO))))) (aH (cD (fC (.str "refused")) (cD (fC (.int 5)) bP)))))) (bE (fC (.bl ba))) aI)
noncomputable def gl6:VS:=(U2 5 6 (xV (f1 ZG (f2 bN (fV 3) (fC (.int 2))))) (xO (Z7 bP)))
noncomputable def gl7:VS:=(U5 (RQ (f2 bN (fV 3) (fC (.int 2)))) (PN 2 (bH (gN 7) (bH (gN 8) YY))) OH)
noncomputable def gl8:VS:=(U5 (W7 (f2 Y4 (Z7 (cD (fC .non) (cD (f1 VJ (fC (.int 1))) (cD (fC (.str "0")) (cD (fV 5) (cD (Z7 (cD (fC (.int 0)) bP)) bP)))))) (fO 6))) (gN 10) OG)
noncomputable def gl9:VS:=(U5 (W7 (Z7 (cD (fC (.int 0)) (cD (f1 VJ (fC (.int 1))) (cD (fC (.str "0")) (cD (fC (.bl b8)) bP)))))) (gN 11) L5)
noncomputable def gl10:VS:=(U5 (W7 (Z7 (cD (fC .non) (cD (f1 VJ (fC (.int 1))) (cD (f2 bN (fV 3) (fC (.int 0))) (cD (fC (.str "0")) (cD (fC (.bl b8)) bP))))))) (gN 11) LZ)
noncomputable def gl11:VS:=(ZZ 12 (xV (bW 3 [1] aZ (aE (fV 0) (aO 1 (aE (Z7 (cD (fC .non) (cD (fC (.int 5)) (cD (fC (.str "sheet")) (cD (aH bP) (cD (f2 QQ (Z7 (cD (fC (.int 5)) bP)) (f1 ZG (f2 bN (fV 2) (fC (.int 1))))) (cD (f2 QQ (fC (.lst [.tup []])) (f1 ZG (f2 bN (fV 2) (fC (.int 1))))) (cD (EN (LA (fC (.int 0)) (fC .non) A7)) bP)))))))) bO))))))
noncomputable def gl12:VS:=(YQ (QT (fB (f2 UT (f2 bN (fV 2) (fC (.int 1))) (aH bP))) (fB (f2 FA (bW 4 [] bB (aE (fC (.int 0)) (aE (fV 2) (aE (fV 3) (aE (fV 12) bO))))) (fC (.bl ba))))) (bE (fC (.bl ba))) aI)
noncomputable def gl13:VS:=(bE (UD (f2 oIsB (bW 4 [] bB (aE (fC (.int 0)) (aE (fC (.tup [.int 3,.tup []])) (aE (fC (.tup [.int 2,.int 3,.tup []])) (aE (Z7 bP) bO))))) (fC (.bl b8))) (f2 YL (bW 4 [] bB (aE (fC (.int 1)) (aE (fV 3) (aE (fC (.int 0)) (aE (fC .non) bO))))) (f2 bN (f2 bN (fV 3) (fC (.int 2))) (fC (.int 0))))))
def dU:Vp=bR gl1 (bR gl2 (bR gl3 (bR gl4 (bR gl5 (bR gl6 (bR gl7 (bR gl8 (bR gl9 (bR gl10 (bR gl11 (bR gl12 (gl13)))))))))))):=rfl
def rep1(k:Nat)(d:cF):UU k [d]=Ax k d:=by
 unfold UU;induction k with
 |zero=>rfl
 |succ k a=>rw[Dx,Gc,a,Dx];rfl
def Xh(d:cF)(k:Nat)(h1:k<=64):QQ (.lst [d]) (.int k)=b3 (.lst (Ax k d)):=by simp only[QQ];rw[if_pos ⟨⟨by lia,by lia⟩,by simp;lia⟩,rep1];simp
def l9{k:Nat}{d:cF}(h:okk k d):okk (k+1) (rw_ d):=W2 (aX ZT (aX h Y9))
section
variable{ns:List Int}{p B O M Z a b c s e f:cF}{sB sO sM sZ sa sb sc s11 s12:Sl}
def eJ(hl:ns.length<=63)(b:aT [p]=b3 (.bl b8,[])){w:cF}(c:okk 1 w)(hw:∀l,aA [p,w,l]=b3 (.bl ba,[])){n:Nat}(e:n<100000):OG [.va (YN ns),.ow (Y6 n),sB,.va p,sO,sM,sZ,sa,sb,sc,.va w,s11,s12]=b3 (.nx [.va (YN ns),.ow (Y6 (n+1)),sB,.va p,sO,sM,sZ,sa,sb,sc,.va w,s11,s12]):=by obtain⟨x,_,ex⟩:=Y5 ns n [.non,.int 0] hl (by lia) (by simp);have d:=F8 b (hw x);have a:=oH (l9 c);unfold OG;simp[ex,d,a]
theorem Xo(hl:ns.length<=63)(a:aT [p]=b3 (.bl b8,[])):∀{ds:List cF}{n:Nat},(∀w∈ds,okk 1 w/\∀l,aA [p,w,l]=b3 (.bl ba,[]))->n+ds.length<100000->∀s:Sl,∃s',WI (gN 10) OG ds [.va (YN ns),.ow (Y6 n),sB,.va p,sO,sM,sZ,sa,sb,sc,s,s11,s12]=b3 (.nx [.va (YN ns),.ow (Y6 (n+ds.length)),sB,.va p,sO,sM,sZ,sa,sb,sc,s',s11,s12])
 |[],n,_,_,s=>⟨s,rfl⟩
 |d::ds,n,h,c,s=>by simp only[Br]at c;obtain⟨h1,h2⟩:=h d Bb;obtain⟨s',b⟩:=Xo hl a (ds:=ds) (n:=n+1) (λw hw=>h w (Aq _ hw)) (by lia) (.va d);have st:=eJ (sB:=sB) (sO:=sO) (sM:=sM) (sZ:=sZ) (sa:=sa) (sb:=sb) (sc:=sc) (s11:=s11) (s12:=s12) hl a h1 h2 (n:=n) (by lia);refine⟨s',?_⟩;rw[TH,J3,PB];simp only[List.set_cons_succ,List.set_cons_zero];rw[st,PC,b,Br,show n+1+ds.length=n+(ds.length+1) by lia]
def dR(b:aT [p]=b3 (.bl b8,[])){l:cF}(hw:aA [p,.int 0,l]=b3 (.bl ba,[])){S T:Sl}{s10:Sl}:L5 [S,T,sB,.va p,sO,sM,sZ,sa,sb,sc,s10,.va l,s12]=b3 (.nx [S,T,sB,.va p,sO,sM,sZ,sa,sb,sc,s10,.va l,s12]):=by
 have c:=F8 b hw;have a:UT (rw_ (.int 0)) (rw_ (.int 0))=b3 (.bl ba):=by kernel_rfl
 unfold L5;simp[c,a]
def fQ(b:aT [p]=b3 (.bl b8,[])){l:cF}(hw:aA [p,.int 1,l]=b3 (.bl ba,[])){S T:Sl}{s10:Sl}:LZ [S,T,sB,.va p,sO,sM,sZ,sa,sb,sc,s10,.va l,s12]=b3 (.nx [S,T,sB,.va p,sO,sM,sZ,sa,sb,sc,s10,.va l,s12]):=by
 have c:=F8 b hw;have a:UT (rw_ (.int 1)) (rw_ (.int 1))=b3 (.bl ba):=by kernel_rfl
 unfold LZ;simp[c,a]
end
def EK{b p c:cF}(h:c=.non∨c=.int 5∨c=.str "sheet" ∨c=.tup []∨c=.dct [.inl 0] [.non]):YZ [b,p,c]=b3 (.bl ba,[]):=by
 rcases h with rfl|rfl|rfl|rfl|rfl<;>kernel_rfl
def la{x y z d:cF}(h:d=.int 5∨d=.tup []):PP [.tup [x,y,z],d]=b3 (.bl ba,[])/\NW d .non=b3 (.bl ba):=by
 rcases h with rfl|rfl<;>exact⟨by kernel_rfl,rfl⟩
def Wo{s:Int}{y z u d:cF}{x:String}{t rest ds:List cF}(hd:d=.int 5∨d=.tup [])(hl:ds.length=rest.length):YZ [.tup [.int s,.tup (.tup (.str x::t)::rest)],.tup [y,z,u],.lst (d::ds)]=b3 (.bl ba,[]):=by
 obtain⟨g,f⟩:=la (x:=y) (y:=z) (z:=u) hd;have body:∀{a0 b e a:Sl},V8 [a0,.va (.tup [y,z,u]),b,.va (.tup (.str x::t)),.va d,e,a]=b3 (.rt (.bl ba) [a0,.va (.tup [y,z,u]),b,.va (.tup (.str x::t)),.va d,.va (.bl ba),a]):=by
  intro a0 b e a;unfold V8;by_cases c:x= "number"
  ·simp[c,f]
  ·simp[c,g]
 unfold YZ;rw[bG,UO.eq_1];generalize h:cF.tup (.str x::t)=R at*;simp[aU,hl,SD,body]
section
variable{ns:List Int}{sure su:Int}{rows rws:List cF}{kds:List Kd}{L:Int}
def jG{c:cF}(b:Bl [] (rows) kds)(a:rows≠[])(hl:rows.length<=64)(hc:c∈[.non,.int 5,.str "sheet",.tup [],.lst (Ax rows.length (.int 5)),.lst (Ax rows.length (.tup [])),.dct [.inl 0] [.non]]):YZ [.tup [.int sure,.tup rows],.tup [.int L,.int su,.tup rws],c]=b3 (.bl ba,[]):=by
 cases rows with
 |nil=>exact absurd rfl a
 |cons r rest=>
  obtain⟨x,t,rfl⟩:=b.hd;simp only[Ai,Ap,or_false]at hc;rcases hc with rfl|rfl|rfl|rfl|rfl|rfl|rfl
  ·exact EK (.inl rfl)
  ·exact EK (.inr (.inl rfl))
  ·exact EK (.inr (.inr (.inl rfl)))
  ·exact EK (.inr (.inr (.inr (.inl rfl))))
  ·exact Wo (.inl rfl) (by simp)
  ·exact Wo (.inr rfl) (by simp)
  ·exact EK (.inr (.inr (.inr (.inr rfl))))
end
def li{sure:Int}{rows:List cF}{o:cF}(a:o∈[.non,.int 5,.tup [],.tup [.int 2,.int 0],.tup [.int 1,.int 0,.tup []],.tup [.int 2,.int 0,.lst []],.tup [.int 2,.int 0,.tup [.tup []]],.str "program",.tup [.int sure,.tup rows]]):aT [o]=b3 (.bl ba,[]):=by simp only[Ai,Ap,or_false]at a;rcases a with rfl|rfl|rfl|rfl|rfl|rfl|rfl|rfl|rfl<;>kernel_rfl
def eP:bB [.int 0,.tup [.int 3,.tup []],.tup [.int 2,.int 3,.tup []],.lst []]=b3 (.bl b8,[]):=by kernel_rfl
end L2
namespace RR
open PySem L2
def mv(ns:List Int)(hl:ns.length<=63):HP [.lst (ns.map .int)]=b3 (.bl b8,[]):=by
 obtain⟨sure,rows,kds,n1,I,am,s0,s1,hn1,e1⟩:=kI ns 0 6 hl (by lia) (by lia) (by lia);have y:=CO I s0 s1 (by lia);obtain⟨L,e,su,rws,kd2,X,L4,u0,u1,r30,hn2,⟨_,a,ws,rt,m⟩,C,e2⟩:=fA ns n1 hl (by lia);have o:=dQ C X L4 u0 u1 (by lia);obtain⟨b,ho,e3⟩:=Y5 ns e [.non,.int 5,.tup [],.tup [.int 2,.int 0],.tup [.int 1,.int 0,.tup []],.tup [.int 2,.int 0,.lst []],.tup [.int 2,.int 0,.tup [.tup []]],.str "program",.tup [.int sure,.tup rows]] hl (by lia) (by simp);have v:=li ho;obtain⟨x,hx,e4⟩:=jS ns (e+1) hl (by lia);have ax:=jv hx;have q1:=l8 (c:=.non) y v;have q2:=eY (c:=.non) (d:=.non) v;obtain⟨zs,j,g,f,hz,hzl,R⟩:=FS (S:=.va (YN ns)) (T:=.ow (Y6 (e+2))) (B:=.va (.tup [.int sure,.tup rows])) (P:=.va (.tup [.int L,.int su,.tup rws])) (O:=.va b) (M:=.va (.int rws.length)) (zs:=[]) C (λ_ h=>nomatch h) (Am _) (by simp;lia) .no .no .no;have H:=C.len;simp only[Gs,Iw]at H R;have t:=λ(w:cF) (hw:a9 [w,.int 0,.int ((rws.length:Int)-1)]=b3 (.bl ba,[])) (l:cF)=>Zx (L:=L) (sure:=su) (l:=l) hw;have w1:a9 [.int (-1),.int 0,.int ((rws.length:Int)-1)]=b3 (.bl ba,[]):=by rw[PL];simp
 have w2:a9 [.int rws.length,.int 0,.int ((rws.length:Int)-1)]=b3 (.bl ba,[]):=by
  rw[PL];have:¬(rws.length:Int)<=(rws.length:Int)-1:=by lia
  simp[this]
 obtain⟨s10,e8⟩:=Xo (sB:=.va (.tup [.int sure,.tup rows])) (sO:=.va b) (sM:=.va (.int rws.length)) (sZ:=.ow (.lst (zs.map .int))) (sa:=j) (sb:=g) (sc:=f) (s11:=.no) (s12:=.no) hl o (ds:=[.non,.int (-1),.str "0",.int rws.length,.lst [.int 0]]++zs.map .int) (n:=e+2) (λw hw=>by
  rcases Bq.mp hw with h|h
  ·simp only[Ai,Ap,or_false]at h
   rcases h with rfl|rfl|rfl|rfl|rfl
   ·exact⟨mE,t _ (UM (.inl rfl))⟩
   ·exact⟨ZP,t _ w1⟩
   ·exact⟨ZT,t _ (UM (.inr (.inr (.inl ⟨_,rfl⟩))))⟩
   ·exact⟨ZP,t _ w2⟩
   ·exact⟨WK (aX ZP Y9),t _ (UM (.inr (.inr (.inr ⟨_,rfl⟩))))⟩
  ·obtain⟨z,F,rfl⟩:=Cd.mp h
   obtain⟨z0,z1⟩:=hz z F;obtain⟨i,rfl⟩:=Int.eq_ofNat_of_zero_le z0;obtain⟨row,kk,r1,r2⟩:=C.at_ (i:=i) (k:=.n) (by simpa using z1);exact⟨ZP,λl=>hw_n r1 (AN r2)⟩) (by simp;lia) .no
 have A:=λ{l:cF}(h:NW l .non=b3 (.bl ba))=>dR (sB:=.va (.tup [.int sure,.tup rows])) (sO:=.va b) (sM:=.va (.int rws.length)) (sZ:=.ow (.lst (zs.map .int))) (sa:=j) (sb:=g) (sc:=f) (s12:=.no) (S:=.va (YN ns)) (T:=.ow (Y6 (e+2+(([.non,.int (-1),.str "0",.int rws.length,.lst [.int 0]]:List cF)++zs.map cF.int).length))) (s10:=s10) o (l:=l) (by rw[m];exact hw_0 h);have u:=λ{l:cF}(h:a9 [l,.int 0,.int ((L:Int)-1)]=b3 (.bl ba,[]))=>fQ (sB:=.va (.tup [.int sure,.tup rows])) (sO:=.va b) (sM:=.va (.int rws.length)) (sZ:=.ow (.lst (zs.map .int))) (sa:=j) (sb:=g) (sc:=f) (s12:=.no) (S:=.va (YN ns)) (T:=.ow (Y6 (e+2+(([.non,.int (-1),.str "0",.int rws.length,.lst [.int 0]]:List cF)++zs.map cF.int).length))) (s10:=s10) o (l:=l) (by rw[m];exact hw_1 h);have t1:=A (l:=.int 0) rfl;have t2:=A (l:=.int (-1)) rfl;have t3:=A (l:=.str "0") rfl;have t4:=A (l:=.bl b8) rfl;have v1:=u (l:=.non) (UM (.inl rfl));have v2:=u (l:=.int (-1)) (by rw[PL];simp);have v3:=u (l:=.int L) (by
  rw[PL];have:¬(L:Int)<=(L:Int)-1:=by lia
  simp[this])
 have v4:=u (l:=.str "0") (UM (.inr (.inr (.inl ⟨_,rfl⟩))));have v5:=u (l:=.bl b8) (UM (.inr (.inl ⟨_,rfl⟩)));generalize hN:e+2+(([.non,.int (-1),.str "0",.int rws.length,.lst [.int 0]]:List cF)++zs.map cF.int).length=N at*;have hNb:N<100000:=by rw[<-hN];simp;lia
 obtain⟨th,ht,U⟩:=Y5 ns N [.non,.int 5,.str "sheet",.tup [],.lst (Ax rows.length (.int 5)),.lst (Ax rows.length (.tup [])),.dct [.inl 0] [.non]] hl (by lia) (by simp);have p1:=Xh (.int 5) rows.length (by lia);have p2:=Xh (.tup []) rows.length (by lia);have tr:=mS (l:=.non) (d:=.int 0) o (by rw[m];exact hw_0 rfl) (by rw[m];exact lV);have Q:YL (.tup [.str "number",.int a]) (.tup [.str "number",.int a])=b3 (.bl b8):=by have k:=W2 (aX (k:=0) (ZT (a:= "number")) (aX (ZP (i:=a)) Y9));rw[Xl k k,EL k]
 have h0:RG rws 0=b3 (.tup [.str "number",.int a]):=by rw[m];simp
 have W:gl12 [.va (YN ns),.ow (Y6 (N+1)),.va (.tup [.int sure,.tup rows]),.va (.tup [.int L,.int su,.tup rws]),.va b,.va (.int rws.length),.ow (.lst (zs.map .int)),j,g,f,s10,.va (.bl b8),.va th]=b3 (.nx [.va (YN ns),.ow (Y6 (N+1)),.va (.tup [.int sure,.tup rows]),.va (.tup [.int L,.int su,.tup rws]),.va b,.va (.int rws.length),.ow (.lst (zs.map .int)),j,g,f,s10,.va (.bl b8),.va th]):=by
  by_cases s:rows=[]
  ·subst s
   have q:UT (.tup []) (.tup [])=b3 (.bl ba):=by kernel_rfl
   unfold gl12;simp[q]
  ·have en := jG (sure := sure) (su := su) (L := L) (rws := rws) I s (by lia) ht
   have sh:=ny y o en;have q:UT (.tup rows) (.tup [])=b3 (.bl b8):=by
    rw[E9 (W2 I.okk) (W2 (k:=0) Y9)];cases rows with
    |nil=>exact absurd rfl s
    |cons r rs=>rfl
   have nb:FA (.bl ba) (.bl ba)=b3 (.bl ba):=rfl;unfold gl12;generalize cF.tup [.int L,.int su,.tup rws]=D at*;simp -implicitDefEqProofs [q,sh,nb]
 have V:gl13 [.va (YN ns),.ow (Y6 (N+1)),.va (.tup [.int sure,.tup rows]),.va (.tup [.int L,.int su,.tup rws]),.va b,.va (.int rws.length),.ow (.lst (zs.map .int)),j,g,f,s10,.va (.bl b8),.va th]=b3 (.rt (.bl b8) [.va (YN ns),.ow (Y6 (N+1)),.va (.tup [.int sure,.tup rows]),.va (.tup [.int L,.int su,.tup rws]),.va b,.va (.int rws.length),.ow (.lst (zs.map .int)),j,g,f,s10,.va (.bl b8),.va th]):=by have ib:oIsB (.bl b8) (.bl b8)=b3 (.bl b8):=rfl;have p:bN (.tup [.int L,.int su,.tup rws]) (.int 2)=b3 (.tup rws):=rfl;unfold gl13;generalize cF.tup [.int L,.int su,.tup rws]=D at*;simp -implicitDefEqProofs [eP,ib,tr,p,h0,Q]
 have hS:cF.lst (ns.map .int)=YN ns:=rfl;have t0:cF.lst []=Y6 0:=rfl;have g1:gl1 [.va (YN ns),.no,.no,.no,.no,.no,.no,.no,.no,.no,.no,.no,.no]=b3 (.nx [.va (YN ns),.ow (Y6 0),.no,.no,.no,.no,.no,.no,.no,.no,.no,.no,.no]):=rfl;have g2:gl2 [.va (YN ns),.ow (Y6 0),.no,.no,.no,.no,.no,.no,.no,.no,.no,.no,.no]=b3 (.nx [.va (YN ns),.ow (Y6 e),.va (.tup [.int sure,.tup rows]),.va (.tup [.int L,.int su,.tup rws]),.no,.no,.no,.no,.no,.no,.no,.no,.no]):=by unfold gl2;simp -implicitDefEqProofs [e1,e2]
 have g3:gl3 [.va (YN ns),.ow (Y6 e),.va (.tup [.int sure,.tup rows]),.va (.tup [.int L,.int su,.tup rws]),.no,.no,.no,.no,.no,.no,.no,.no,.no]=b3 (.nx [.va (YN ns),.ow (Y6 (e+1)),.va (.tup [.int sure,.tup rows]),.va (.tup [.int L,.int su,.tup rws]),.va b,.no,.no,.no,.no,.no,.no,.no,.no]):=by unfold gl3;simp -implicitDefEqProofs [e3]
 have n0:UT (rf 0) (rf 0)=b3 (.bl ba):=by kernel_rfl
 have n5:UT (rf 5) (rf 5)=b3 (.bl ba):=by kernel_rfl
 have g4:gl4 [.va (YN ns),.ow (Y6 (e+1)),.va (.tup [.int sure,.tup rows]),.va (.tup [.int L,.int su,.tup rws]),.va b,.no,.no,.no,.no,.no,.no,.no,.no]=b3 (.nx [.va (YN ns),.ow (Y6 (e+2)),.va (.tup [.int sure,.tup rows]),.va (.tup [.int L,.int su,.tup rws]),.va b,.no,.no,.no,.no,.no,.no,.no,.no]):=by unfold gl4;simp -implicitDefEqProofs [e4,ax,n0]
 have g5:gl5 [.va (YN ns),.ow (Y6 (e+2)),.va (.tup [.int sure,.tup rows]),.va (.tup [.int L,.int su,.tup rws]),.va b,.no,.no,.no,.no,.no,.no,.no,.no]=b3 (.nx [.va (YN ns),.ow (Y6 (e+2)),.va (.tup [.int sure,.tup rows]),.va (.tup [.int L,.int su,.tup rws]),.va b,.no,.no,.no,.no,.no,.no,.no,.no]):=by unfold gl5;generalize cF.tup [.int sure,.tup rows]=Y at*;simp -implicitDefEqProofs [q1,q2,n5]
 have g6:gl6 [.va (YN ns),.ow (Y6 (e+2)),.va (.tup [.int sure,.tup rows]),.va (.tup [.int L,.int su,.tup rws]),.va b,.no,.no,.no,.no,.no,.no,.no,.no]=b3 (.nx [.va (YN ns),.ow (Y6 (e+2)),.va (.tup [.int sure,.tup rows]),.va (.tup [.int L,.int su,.tup rws]),.va b,.va (.int rws.length),.ow (.lst []),.no,.no,.no,.no,.no,.no]):=by unfold gl6;simp
 have g7:gl7 [.va (YN ns),.ow (Y6 (e+2)),.va (.tup [.int sure,.tup rows]),.va (.tup [.int L,.int su,.tup rws]),.va b,.va (.int rws.length),.ow (.lst []),.no,.no,.no,.no,.no,.no]=b3 (.nx [.va (YN ns),.ow (Y6 (e+2)),.va (.tup [.int sure,.tup rows]),.va (.tup [.int L,.int su,.tup rws]),.va b,.va (.int rws.length),.ow (.lst (zs.map .int)),j,g,f,.no,.no,.no]):=by unfold gl7;simp only[Cw]at R;simp -implicitDefEqProofs [R]
 have g8:gl8 [.va (YN ns),.ow (Y6 (e+2)),.va (.tup [.int sure,.tup rows]),.va (.tup [.int L,.int su,.tup rws]),.va b,.va (.int rws.length),.ow (.lst (zs.map .int)),j,g,f,.no,.no,.no]=b3 (.nx [.va (YN ns),.ow (Y6 N),.va (.tup [.int sure,.tup rows]),.va (.tup [.int L,.int su,.tup rws]),.va b,.va (.int rws.length),.ow (.lst (zs.map .int)),j,g,f,s10,.no,.no]):=by
  have E:5+(zs.map cF.int).length<=16777216:=by simp;lia
  unfold gl8;generalize cF.tup [.int L,.int su,.tup rws]=D at*;generalize cF.tup [.int sure,.tup rows]=Y at*;generalize zs.map cF.int=Z at*;simp only[Gh,Cu]at e8;simp -implicitDefEqProofs [E,e8]
 have g9:gl9 [.va (YN ns),.ow (Y6 N),.va (.tup [.int sure,.tup rows]),.va (.tup [.int L,.int su,.tup rws]),.va b,.va (.int rws.length),.ow (.lst (zs.map .int)),j,g,f,s10,.no,.no]=b3 (.nx [.va (YN ns),.ow (Y6 N),.va (.tup [.int sure,.tup rows]),.va (.tup [.int L,.int su,.tup rws]),.va b,.va (.int rws.length),.ow (.lst (zs.map .int)),j,g,f,s10,.va (.bl b8),.no]):=by unfold gl9;generalize cF.tup [.int L,.int su,.tup rws]=D at*;generalize cF.tup [.int sure,.tup rows]=Y at*;simp -implicitDefEqProofs [t1,t2,t3,t4]
 have K:gl10 [.va (YN ns),.ow (Y6 N),.va (.tup [.int sure,.tup rows]),.va (.tup [.int L,.int su,.tup rws]),.va b,.va (.int rws.length),.ow (.lst (zs.map .int)),j,g,f,s10,.va (.bl b8),.no]=b3 (.nx [.va (YN ns),.ow (Y6 N),.va (.tup [.int sure,.tup rows]),.va (.tup [.int L,.int su,.tup rws]),.va b,.va (.int rws.length),.ow (.lst (zs.map .int)),j,g,f,s10,.va (.bl b8),.no]):=by have p:bN (.tup [.int L,.int su,.tup rws]) (.int 0)=b3 (.int L):=rfl;unfold gl10;generalize cF.tup [.int L,.int su,.tup rws]=D at*;generalize cF.tup [.int sure,.tup rows]=Y at*;simp -implicitDefEqProofs [p,v1,v2,v3,v4,v5]
 have J:gl11 [.va (YN ns),.ow (Y6 N),.va (.tup [.int sure,.tup rows]),.va (.tup [.int L,.int su,.tup rws]),.va b,.va (.int rws.length),.ow (.lst (zs.map .int)),j,g,f,s10,.va (.bl b8),.no]=b3 (.nx [.va (YN ns),.ow (Y6 (N+1)),.va (.tup [.int sure,.tup rows]),.va (.tup [.int L,.int su,.tup rws]),.va b,.va (.int rws.length),.ow (.lst (zs.map .int)),j,g,f,s10,.va (.bl b8),.va th]):=by unfold gl11;simp -implicitDefEqProofs [p1,p2,U]
 have G:aU [] 13 [YN ns]=[.va (YN ns),.no,.no,.no,.no,.no,.no,.no,.no,.no,.no,.no,.no]:=rfl;rw[hS];unfold HP;rw[bG,dU,G,W5,g1,O9,W5,g2,O9,W5,g3,O9,W5,g4,O9,W5,g5,O9,W5,g6,O9,W5,g7,O9,W5,g8,O9,W5,g9,O9,W5,K,O9,W5,J,O9,W5,W,O9,V];rfl
end RR
namespace KK
open PySem PySem.W
noncomputable abbrev g(a i:Nat)(n:Ug)(d m:Uc):Uq:=⟨.type "function",b4,.func (fnOf n n (L2.YT (RR.top i)) (L2.aC (RR.top i)) (L2.bX (RR.top i)) d .none .none m b4 (.ref (a-1)) .none),#[]⟩
def p(P:Pz)(a i:Nat)(n:Ug)(m:Uc)(h1:nsIn (K P) Ui n=b3 (b3 (.ref a)):=by kernel_rfl)(h2:(K P).lookup a=b3 (g a i n .none m):=by kernel_rfl)(b:codeIn (K P) (.ref (a-1)) n=b8:=by kernel_rfl):L2.A4 (K P) n (RR.top i) a:=L2.a4 h1 h2 b (by unfold keepIn;simp only[h2])
end KK
namespace RR
open PySem L2
def zL3{l:Tl}{w:Ul}{K:Aj}{mg:Ug->Option Uc}{fa:Ud}(T:Txt w K mg)(e:mg "law"=b3 (.ref fa)):∃fd:Cr,(∀(s:Ae) (v:Uc),Ph s fd ⟨[v],[]⟩ [("_law_script",v)])/\∀base:Um,K.In base->base.Ns Ui mg->U4 l.prog w K mg base CX0 11 fa fd ["_law_script"] (spV K [] 1 HP):=by obtain⟨i,od,kV,doc,h,j,g,ct,f,a,b,c,d⟩:=T.p_x50;cases e.symm.trans (T.fnm _ _ a);exact⟨_,λs v=>.of_eq rfl,λbase _ _=>Zs T (GS (st:=top 91) b c d)⟩
def zCH(K:Aj)(H:Hp)(a:Ud)(ns:List Int)(hl:ns.length<=63)(h:WW K H a (ns.map V.int)):spV K [] 1 HP [.ref a] H (λv _=>v=.bl b8) λ_ _ _=>False:=by
 have c:bD K (Zp (λ_=>False) [] [.ref a]) H (ns.map V.int) (ns.map cF.int):=by
  clear h hl;induction ns with
  |nil=>exact .nil
  |cons n ns f=>exact .cons (.int n) f
 have hz:∀b,¬Zp (λ_=>False) [] [V.ref a] b:=λb h=>by
  rcases h with h|⟨i,h,_⟩
  ·exact h
  ·cases h
 refine⟨λ_=>False,[.lst (ns.map .int)],.bl b8,[],rfl,⟨rfl,(λi h=>nomatch h),λi d hi e=>?_,(λi d h=>nomatch h),(λi j b h=>nomatch h),λa h=>h.elim⟩,mv ns hl,λv H' _ _ r=>by cases r;rfl⟩;cases i with
 |zero=>
  cases e;refine⟨_,rfl,?_⟩;rcases h with(h|⟨o,h⟩)|h
  ·exact .lst h (hz a) c
  ·exact .fzl (.inl ⟨o,h⟩) c
  ·exact .fzl (.inr h) c
 |succ i=>cases i<;>cases e
end RR
open PySem PySem.W PyProof.Rows
set_option maxRecDepth 100000 in
set_option maxHeartbeats 0 in
theorem PySem.Challenge.cw_lanepacks_k21_sheets_refused_holds : PySem.Challenge.rw_lanepacks_k21_sheets_refused.Holds := by
 w_on;refine holds_law KK.said λsaid=>?_
 refine holds_open (q:=KK.view) (loose:=KK.lo) (Xt:=KK.X) (XP:=XL KK.view []) (Yf:=KK.H.obs) (Ya:=KK.H.val) (YP:=KK.H.says) (N:=10706) KK.hl (Hook.of _) (Hook.keeps _) (λs e=>xl_of s (Dv.mp e).1) XL.keeps (by rfl) (by rfl) (by rfl) (λs e=>recFacts_of (Dv.mp e).2) (by rfl) (by first|assumption|decide+kernel) (by decide+kernel) ⟨rfl,rfl,rfl,rfl,rfl,by decide+kernel⟩ ?hw ?hc
 case hw=>w_witness2
 refine L2.zBS (l:=Ku) (n:=63) (k:=11) (x:= "_law_script") (CX:=L2.CX0) (sp:=λK=>L2.spV K [] 1 L2.HP) rfl (by decide) rfl ⟨rfl,by decide,by decide⟩ (λw h Y=>W.kIn_of (K:=KK.K) (as:=KK.A) (e:=KK.kA) Y) ?F (λK H a ns hl _ hS=>RR.zCH K H a ns hl hS) λ_ _ _ _ z=>z
 case F=>
  intro w mg fa h KX G hmg;have N:∀{x},Fg (KK.K w.params) Ui x=some none->mg x=none:=λh=>W.mg_none_of KX G h;refine RR.zL3 (K:=KK.K w.params) ?_ hmg;constructor;exact λ_ _ h=>W.mg_of KX G h;exact λ_ _ _ h=>W.mg_of KX G h;exact KK.p _ _ _ _ KK.m5;iterate 7 exact KK.p _ _ _ _ KK.m0
  iterate 2 exact KK.p _ _ _ _ KK.m2
  exact KK.p _ _ _ _ KK.m3;iterate 9 exact KK.p _ _ _ _ KK.m1
  iterate 3 exact KK.p _ _ _ _ KK.m4
  iterate 5 kernel_rfl
  iterate 8 exact KK.p _ _ _ _ KK.m4
  iterate 18 exact KK.p _ _ _ _ KK.m
  iterate 17 exact N (by kernel_rfl)
  iterate 35 kernel_rfl
  iterate 2 exact⟨⟨by kernel_rfl,⟨by kernel_rfl,by kernel_rfl,by kernel_rfl,by kernel_rfl,by kernel_rfl,by kernel_rfl,by kernel_rfl⟩,by kernel_rfl,24,⟨by kernel_rfl,by kernel_rfl,by kernel_rfl,by kernel_rfl,by kernel_rfl⟩⟩,by kernel_rfl⟩
  exact⟨⟨by kernel_rfl,⟨by kernel_rfl,by kernel_rfl,by kernel_rfl,by kernel_rfl,by kernel_rfl,by kernel_rfl,by kernel_rfl⟩,by kernel_rfl,24,⟨by kernel_rfl,by kernel_rfl,by kernel_rfl,by kernel_rfl,by kernel_rfl⟩⟩,24,65,"NoRow.__init__",RR.mem 4 0,"there is no such row",_,by kernel_rfl,by kernel_rfl,by kernel_rfl,(RR.zB0 _ ⟨⟨.type "function",none,.none,.none,.str "lanepacks.errors" 187,none,.ref 64,.none,#[],rfl,by kernel_rfl,by kernel_rfl⟩,by kernel_rfl⟩),(L2.XG.of (by kernel_rfl) (by kernel_rfl) (by kernel_rfl)),⟨by kernel_rfl,by kernel_rfl,by kernel_rfl⟩⟩;iterate 2 kernel_rfl
  exact KK.p _ _ _ _ KK.m6
end
