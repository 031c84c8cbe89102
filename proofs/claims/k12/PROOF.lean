import PyProof.Rows.All
import KE.KFromBytes
import KE.KTab
import KE.KIsAll
import KE.KDictOf
import KE.KEqDeep
import KE.KItem
import KE.KUnpackStar
import Wide.FinOn
import Wide.Line
import KE.KSortTup
import PyProof.AttrMissSeq
import OpenK.KOwn
import Open.TreeImp
import OpenK.KMore
import PyProof.InstStoreFacts
import PyProof.DictCompW
import KE.KDictList
import PyProof.DictTruth
import KE.KIntText
import PyProof.Rows.StrNews
import PyProof.Rows.SetFrom
import PyProof.StrWalks
import PySem.Challenge.RW_lanepacks_k12_plans_refused
set_option Elab.async false
set_option linter.all false
set_option maxRecDepth 100000
set_option maxHeartbeats 4000000
set_option bootstrap.genMatcherCode false
set_option compiler.extract_closed false
open Option renaming some->b3,none->b4
open Bool renaming true->ba,false->bb
open PySem renaming Value->Uq,Addr->Ur,wpAny->Us,model->Ut,starEach->Uu,Str->Uv,mainGlobals->Uw,Expr->Ux,World->Uy,foldedSetIterable->Uz,assignEach->Va,Heap->Vb,swapsWith->Vc,Stmt->Vd,Obj->Ve,Scope->Vf,cellsFrom->Vg,NameKind->Vh,assignInOrder->Vi,Sem->Vk,Model->Vl,Tok->Vm
open PySem.W renaming Frag->Vj
open PySem renaming wpAny_bind->Aa,Shared->Ae,wpAny_pure->Ag,Program->Av,wpAny_mono->Ax,bootBuiltins->Bo,wpAny_holding->Bp,sizeLine_eq->Bv,Around->Bz,wpAny_newObj_type->Cb,FuncData->Cj,compareOp->Cr,wpAny_callSpecial?_slot->Cs,mem_of_lookup->Di,wpAny_call_entry->Dm,backTo->Dx,wpAny_standAt->Dz,wpAny_truthy_bool->Ee,wpAny_field->Ek,Spec->Eu,sysModules->Ew,wpAny_Call_Name_kw->Ey,Builtin->Fa,keywordEach->Fb,attributeBase->Ff,recursionLimit->Fg,wpAny_seqItems->Fh,binaryOp->Fo,tupleKind_room_in1->Fp,wpAny_setField_rec->Fq,codeAny_call_builtin->Fv,wpAny_passesOwn->Fw,wpAny_pyIter_list->Fx,call_meets->Ga,swapsWithSole->Gc,swappedStores->Gd,assign->Gg,wpAny_typeNameOfWhole_keyiter->Gi,wpAny_execs_nil->Gm,letOwnedTupleGo->Go,excClassObj->Gs,wpAny_loadPart_at->He,wpAny_newFunctionEnv_cells->Hg,wpAny_loadName_local->Hi,codeAny->Hj,backToKw->Ho,Keyword->Hr,wpAny_call->Hv,codeAny_mono->Hw,wpAny_comprehension_free->Hy,wpAny_pyIter_tuple->Ig,behindInMarks->Ij,codeAny_builtin->Ir,wpAny_assign_Name->Iz,wpAny_rule->Jb,sliceBounds->Jd,wpAny_dictEntries->Je,bindName->Jk,wpAny_bindName->Jl,codeAny_call_function->Jo,wpAny_typeOf->Jp,wpAny_execs_cons->Ju,wpAny_updateSeq_pair->Jx,importedModules->Kb,DictEntry->Kg,unpackItems->Ki,getAttrByItsOwn->Ko,wpAny_setField->Lf,firstArgMember->Lg,wpAny_binaryOp_repeat_ref->Li,wpAny_Name->Ll,wpAny_sequenceKey->Lm,isInstance->Lp,standAt->Ly,getItem->Lz,wpAny_onRaise->Mc,wpAny_attempt->Md,noFill_tuple_add->Mk,checkBuiltinCall->Ml,wpAny_pyNext_list_item->Mn,wpAny_pyNext_list_end->Ms,concat_meets->Mv,call_meetsIn->Mx,exec_Assign_Name_used->Nd,wpAny_notOrdered_dict->Ng,wpAny_isOneOf_keyiter->Ni,typeIs_int->Nl,ZipApart->No,typeOf->Nw,PyData->Ny,newFunctionEnv->Ob,wpAny_loadPart->Od,holding->Of,callerA->Oh,wpAny_of_eq->Oj,wpAny_letGo->Ol,OwnTail->Ot,wpAny_isSubtype_exc->Ov,wpAny_dictSet_pairs->Ox,PassesOwn->Oz,bindArgs->Pb,seq_tuple_add->Pc,Fin->Ph,frameOf->Pk,callWith->Pl,wpAny_newList->Pq,getattributeRaised->Pr,ExceptHandler->Pt,BindsTo->Qa,valueAt->Qb,wpAny_Call_method->Qc,wpAny_pyIter_enum->Qh,Params->Qq,codeAny_func->Qs,entryPlaceOf->Qv,wpAny_mkText->Qw,seqSlot_of->Rn,interactive->Ry,pyIter->Rz,lastMarks->Sa,pushCells->Sg,noteFrame->Sh,setField->Su,Thread->Sw,call->Sx,newObjAsIs->Sz,compPost->Ti,Builtin->Tj,getAttr?->To,Within->Ts,Result->Tv,stored->Tw,again->Ul
open Option renaming bind_eq_some_iff->Ac,map_eq_some_iff->Aj,bind_some->Ap,isSome_map->Ln,isSome_some->Pd,getD_none->Qz,map_some->So,map->Up
open PySem.Heap renaming get?_push_of_some->Ad,lt_size->Ak,get?_push_size->An,size_push->Dq,SameBut->Es,get?_update_other->Gk,get?_update_self->Gq,ExtBut->Jf,get?_push_ne->Jh,get?_none_of_le->Jw,FlyingW->Ld,get?_update_ne->Ow,get?_some_iff->Pj,size_update->Rh
open Bool renaming and_eq_true->Af,false_ne_true->Ch,and_eq_true_iff->Dv,false_eq_true->El,or_eq_true->Io,beq_eq_decide_eq->Nk,and_false->Oe,not_eq_true'->Qm,or_false->Te,false_or->Tf,true_and->Tq,or_true->Uc
open List renaming getElem?_eq_some_iff->Ah,mem_cons->Al,size_toArray->Am,mem_cons_of_mem->Aq,getElem?_append_left->Ar,range->As,mem_cons_self->At,mem_singleton->Aw,replicate->Az,getElem?_set_ne->Ba,mem_append_right->Be,mem_append_left->Bf,map_cons->Bg,not_mem_nil->Bi,length_map->Bm,getElem?_map->Bt,getElem?_eq_getElem->Bx,length_set->By,length_append->Cc,getElem?_set_self->Cd,take_of_length_le->Ce,length_take->Cf,length_cons->Cg,lookup_cons->Co,getElem?_eq_none->Ct,map_append->Cu,mem_map->Cv,mem_of_getElem?->Cw,mem_append->Db,nodup_cons->De,append_assoc->Df,mem_range->Dh,append_nil->Dk,drop_eq_getElem_cons->Dn,getElem?_take_of_lt->Dr,getElem?_replicate->Dt,getElem?_append_right->Du,take_append_of_le_length->Ea,replicate_succ->Ed,map_nil->Ef,lookup_cons_self->Eh,set_comm->Er,all_eq_true->Fc,nil_append->Fk,flatten_cons->Gb,length_eq_zero_iff->Gf,drop_length->Gh,find?_cons->Gp,set_append_right->Gv,any_cons->Hc,ext_getElem?->Hd,forall_mem_cons->Hk,getElem_mem->Hq,lookup->Hs,mem_filter->Ie,mem_filterMap->Ii,of_mem_zip->Ik,range_succ_eq_map->Ix,length_range->Jg,length_singleton->Jq,mem_iff_getElem?->Js,getElem_inj->Jt,cons_append->Jv,filterMap_cons->Kh,forIn_cons->Kl,idxOf_lt_length_of_mem->Ks,map_map->Lc,nodup_append->Lo,take_add_one->Lr,length_replicate->Mt,length_nil->Mw,zip_append->Na,getElem?_mapIdx->Nq,nodup_nil->Nx,drop_zero->Nz,forIn_nil->Oa,map_congr_left->Oi,mem_map_of_mem->Op,zip_cons_cons->Pm,zip_nil_right->Po,getElem?_take->Pp,map_inj_right->Ps,getElem_idxOf->Px,zip_nil_left->Qf,length_drop->Qy,isEmpty_iff->Rb,zipIdx_cons->Rc,map_snd_zip->Ri,any_eq_true->Rj,map_fst_zip->Rk,zipIdx_nil->Se,mapM_cons->Ss,take_left->Sv,all_cons->Tg,all_map->Tz,any_map->Ua,toArray->Ud
open PySem.W renaming Frag->Ai,nsIn->Ep,kia_one->Fd,kitOne->Hn,looks_findIn->Hz,keepIn->Jm,callWith_K->Lb,SharedT->Lu,hideAll_get->Lv,cellsFrom_some->Mj,fnOf->Mu,hideAll_none->Nv,kitx_list->Og,subIn->Qk,of_hideAll->Qr,funFrames_hide->Rm,findIn->Rq,codeIn->Rr,methodObj->Rw,hideAll->Rx,kitx_dict->Sb,clsIn->Sk,absHeap->Ta,openEnds->Tb,kas_sort->Tl,instObj->Tr,Frag->Tu,OpenLaw->Tx
open Nat renaming le_refl->Ao,ne_of_lt->Au,lt_of_lt_of_le->Bb,lt_irrefl->Ci,zero_le->Cn,le_trans->Dw,le_succ->Gr,ne_of_gt->Hu,min_eq_left->Iu,le_of_succ_le->Jj,zero_add->Jn,le_of_lt->La,lt_of_succ_lt->Lq,lt_of_succ_lt_succ->Mp,not_lt_zero->Nc,lt_of_le_of_lt->Pe,lt_trans->Qt,add_comm->Qu,lt_succ_self->Ra,succ_le_succ->Rg,min_le_left->Sf
open PySem.Value renaming ref->Ay,bool->Gw,type->Gx,str->Mr,int->Ru,isStrOf->Tc,builtin->Tk,isInt->Ug,float->Uh
open PySem.Str renaming ofString->Bj,ofString_eq_toList->Iy
open PySem.F renaming slot_list_append->Bq,type_list_append->Br,slot_dict_get->Eg,entry_dict_get->Fm,slot_tuple_iterator_next->Fn,plainAttrs_list->Ge,excBase_ValueError->Hh,args_tuple_add_2->Hx,slot_list_extend->Ia,type_list_extend->Ib,entry_tuple_add->Il,args_dict_get_2->Im,slot_tuple_add->Iw,args_tuple_iterator_next_1->Jy,slot_dict_keyiterator_next->Jz,entry_tuple_iterator_next->Km,slot_zip_next->Kn,slot_int_rmul->Kq,slot_dict_getitem->Le,args_dict_get_3->Ma,plainAttrs_dict->Mb,slot_list_index->Me,type_list_index->Mf,type_dict_get->My,entry_bexc_ga->Nf,args_bexc_ga->Nr,args_list_index_2->Oo,entry_list_index->Pf,args_tuple_mul_2->Pu,args_zip_next_1->Qi,slot_list_index->Qj,args_int_rmul_2->Qn,entry_tuple_mul->Qo,entry_zip_next->Rf,slot_dict_iter->Rl,entry_int_rmul->Ro,slot_tuple_mul->Rp,slot_dict_len->Sj,fills_int_mul->Sm
open PySem.NameKind renaming free->Bu,cell->Ck
open Prod renaming fst->Bw,snd->Cz
open PySem.Builtin.SmallTypes renaming nextOf->Ca,ownedTupleIsFree->Ec,ownedTupleHandOut->Hm
open Or renaming inr->Cm,inl->Dy
open Option.some renaming inj->Cq
open PySem.AutoSeq1 renaming wpAny_loadPart'->Dg,idx_int->Mm
open Ne renaming symm->Dj
open PySem.PassesOwn renaming never->Ds
open Array renaming length_toList->Eb,getElem?_toList->Nj,find?_toList->Pa,size_append->Ql,toList->Tt
open PyProof.Rows renaming assignInOrder_cons->Ei,callWith_type1->Ej,slot_tuple_getitem->Eo,seqObj->Gu,assignInOrder_nil->Ja,IntsAre->Kk,AllBare->Lw,listUpdate_at->Mh,subscriptTail_builtinR->Mo,firstMet->Pw,unpackItems_tuple->Pz,listItems_at->Qx,seqEpoch_at->Si,tail_any->Td,SortKind->Tn
open PySem.Calls renaming evalArgs_plain->Em,spliced_cons->Ex,callWith_builtin->Fl,spliced_nil->Gz,Name_function_global->Hf,call_function_entry->Lh,loadGlobal_global->Lx,Constant_str->Oy
open PySem.SeqAt renaming shaped->Et,list_indexAt->Pg
open Int renaming emod_lt_of_pos->Ez,toNat_natCast->Ha,emod_nonneg->Iv
open PySem.PyData renaming keyHash->Fe,depthAll->Fj,canLay0->Gj,canLayAll0->Ji,depth->Jr,eqv->Ka,int->Qe,strOk->Ue
open ForInStep renaming yield->Fi
open Sum renaming inl->Fs,inr->Py
open PySem.Builtin.Slice renaming slicePlaces->Ft,sliceAdjust->Hl,sliceApplied->Kw,slicePartIndex->Rs,sliceFields->Sr
open PyProof.Rows.KTD renaming datumAt->Fu
open PySem.Builtin.Tuple renaming tupleExact->Fy,tupleItemsOf->Kx,tupleTooMany->Kz,tupleIsExact->Sq
open PySem.Builtin.List renaming listTooLong->Fz,listExtendWith->Kp
open False renaming elim->Gy
open PySem.Obj renaming mapSeq->Hb,data_mapFields->Ip,mapFields->Mg,isFreed_of_fields->Nb,cls_mapFields->Qg
open PySem.Heap.SameBut renaming update->Ht
open PySem.Paired renaming length->Ic,snoc->Uj
open PySem.Builtin.Range renaming rangeSize->Ih,small->Uk
open PySem.Code renaming quiet_builtin->Iq,builtin->Ub
open PySem.W.Fast renaming tw10156331382660048174->Kc,tw11892475500146522536->Ke,tw14364793385576792824->Kf,tw1435165496053646825->Kt,tw4187177175401517315->Ku,te4187177175401517315->Kv
open PyProof.Rows.IsTup renaming new->Kj
open List.cons renaming injEq->Kr
open PySem.Challenge renaming pw_lanepacks_k12_plans_refused->Lj,rw_lanepacks_k12_plans_refused->Lk
open List.Pairwise renaming map->Ls,nil->Qd
open PySem.Builtin.Dict renaming updateFrom->Mi,pairItems->Mq,showsAll->Nh,missed->Om
open Classical renaming choose_spec->Mz
open PySem.W.Looks renaming ld->Np
open PySem.Around renaming under_plainId->Nt
open PySem.SeqAt.EqAt renaming bool_bool->Nu
open PySem.EntryCells renaming newEntry->Oq
open Char renaming toNat->Qp
open PySem.Builtin.Dict_items renaming ownsTuple->Rt
open Sum.inl renaming inj->Rv
open PySem.Heap.DictOf renaming new->Sc
open PySem.Shared renaming heap->Sd
open PySem.Walks renaming list->Sy
open Function renaming comp->Th
open PySem.Heap.UpToSlots renaming of_keeps->Tp
open PySem.MeetsSeq.EqGives renaming int->Uf
open PySem.IsRange renaming new->Ui
open PySem.Heap.IsSliceOf renaming new->Um
open PySem.W.WShape renaming has->Uo
noncomputable section
namespace KK
open PySem PySem.W
noncomputable def DE:List Ve->Nat->BT->Option BT
 |[],_,t=>b3 t
 |o::l,n,t=>match((t.ins n o).get n).isSome with
  |true=>DE l (n+1) (t.ins n o)
  |false=>b4
theorem HI{life:Life}:∀{l:List Ve}{n:Nat}{t t':BT},DE l n t=b3 t'->Ta t' (n+l.length) life=⟨(Ta t n life).objs++l.toArray,life⟩
 |[],n,t,t',h=>by cases h;simp[Ta]
 | o :: l,n,t,t',h => by
  unfold DE at h;split at h
  ·rename_i g
   have a:=HI (life:=life) h;rw[show n+(o::l).length=n+1+l.length by simp;lia,a,absHeap_ins g];simp[Heap.push]
  ·cases h
def toT(s:Ae):Option Lu:=(DE s.heap.objs.toList 0 .nil).map λt=>⟨t,s.heap.objs.size,s.heap.life,s.gens,s.drawn,s.toks,s.os⟩
def AW{s:Ae}{u:Lu}(h:toT s=b3 u):u.abs=s:=by
 unfold toT at h;cases e:DE s.heap.objs.toList 0 .nil with
 |none=>rw[e]at h;cases h
 |some t=>
  rw[e]at h;cases h;have:=HI (life:=s.heap.life) e
  simp only[Jn,Eb]at this;obtain⟨⟨a,life⟩,gens,drawn,toks,os⟩:=s;show(⟨Ta t a.size life,gens,drawn,toks,os⟩:Ae)=_;rw[this];simp[Ta,BT.list]
abbrev StT:=Lu->Sw->Option (Lu×Sw)
noncomputable def topG(st:StT)(ok:Sw->Bool):Nat->Lu->Sw->Option Lu
 |0,_,_=>b4
 | n + 1,s,t => match through t with
  |true=>b3 s
  | false => match ok t with
   |false=>b4
   |true=>match st s t with
    |some (s',t')=>topG st ok n s' t'
    |none=>b4
theorem AX{tb:String->Option Fa}{p:Av}{w:Uy}{a:Nat}{b:Option Uq}:∀{n:Nat}{s s':Lu}{t:Sw},topG (stepT (denote tb) p w) (stepOk a b) n s t=b3 s'->topRun tb p w a b n s.abs t=b3 s'.abs
 |0,_,_,_,h=>by cases h
 | n + 1,s,s',t,h => by
  unfold topG at h;unfold topRun;cases f:through t with
  |true=>rw[f]at h;cases h;rfl
  |false=>
   rw[f]at h;cases g:stepOk a b t with
   |false=>rw[g]at h;cases h
   |true=>
    rw[g]at h;cases c:stepT (denote tb) p w s t with
    |none=>rw[c]at h;cases h
    |some r=>obtain⟨e,d⟩:=r;rw[c]at h;rw[stepT_spec c];exact AX h
noncomputable def impG(st:StT):Nat->Lu->Sw->Option Lu
 |0,_,_=>b4
 | n + 1,s,t => match t.atExitBegin with
  |some []=>b3 s
  |some (_::_)=>b4
  |none=>match st s t with
   |some (s',t')=>impG st n s' t'
   |none=>b4
theorem eF{tb:String->Option Fa}{p:Av}{w:Uy}:∀{n:Nat}{s s':Lu}{t:Sw},impG (stepT (denote tb) p w) n s t=b3 s'->importEnds tb p w n s.abs t=b3 s'.abs
 |0,_,_,_,h=>by cases h
 | n + 1,s,s',t,h => by
  unfold impG at h;unfold importEnds;cases d:t.atExitBegin with
  |some x=>
   rw[d]at h;cases x with
   |nil=>cases h;rfl
   |cons=>cases h
  |none=>
   rw[d]at h;cases a:stepT (denote tb) p w s t with
   |none=>rw[a]at h;cases h
   |some r=>obtain⟨c,b⟩:=r;rw[a]at h;dsimp only;rw[stepT_spec a];exact eF h
noncomputable def chkU(p:Av)(s₀ s:Ae):Bool:=staticsOk (Kb p.main.body) s₀.heap s.heap&&namesBound p s.heap&&gensDone s&&laidKept s₀.heap s.heap
noncomputable def OI(p:Av)(w:Uy)(N:Nat):Option (Ae×Ae):=
 (toT (Kt (opening p)).1).bind λu=>(impG (Kc (Ke Kf) (opening p) w) N u (Kt (opening p)).2).bind λb=>(Fast.tw14289696077712309145 p b.abs).bind λs₀=>
 match s₀.heap.isNs Uw&&s₀.gens.size==0 with
 |true=>(toT s₀).bind λv=>(topG (Kc (Ke Kf) p w) (Fast.tw6613529449190102663 s₀.heap.objs.size (s₀.heap.nsMap Uw "__annotations__")) N v (topStub p)).bind λa=>b3 (s₀,a.abs)
 |false=>b4
def nu{p:Av}{w:Uy}{N:Nat}{q:Ae×Ae}(h:OI p w N=b3 q)(hc:chkU p q.1 q.2=ba):Tb treeTable p w N=b3 q.2:=by
 unfold OI at h;rw[<-Fast.te1435165496053646825,<-Fast.te10156331382660048174,<-Fast.te11892475500146522536,<-Fast.te14364793385576792824,<-Fast.te14289696077712309145,<-Fast.te6613529449190102663]at h;unfold Tb fencedOpening;obtain⟨u,i,h⟩:=Ac.mp h;obtain⟨k,g,h⟩:=Ac.mp h;obtain⟨s₀,f,h⟩:=Ac.mp h;have c:=eF g;rw[AW i]at c;rw[c,Ap,f,Ap];unfold topFrom;cases b:(s₀.heap.isNs Uw&&s₀.gens.size==0)with
 |false=>rw[b]at h;cases h
 |true=>
  rw[b]at h;obtain⟨v,e,h⟩:=Ac.mp h;obtain⟨j,d,h⟩:=Ac.mp h;cases h;have a:=AX d;rw[AW e]at a;dsimp only;rw[a,Ap];unfold chkU at hc;rw[hc]
def mapQ{α β:Type}{p:Av}{w:Uy}{N:Nat}{f:Ae->α}{g:Ae->β}{v:α}{u:β}(h1:(OI p w N).map (λq=>f q.2)=b3 v)(h2:(OI p w N).map (λq=>(chkU p q.1 q.2,g q.2))=b3 (ba,u)):(Tb treeTable p w N).map (λs=>(f s,g s))=b3 (v,u):=by
 cases e:OI p w N with
 |none=>rw[e]at h1;cases h1
 |some q=>
  rw[e]at h1 h2;obtain⟨b,a⟩:=Prod.mk.inj (Cq h2);rw[nu e b];exact congrArg b3 (Prod.ext (Cq h1) a)
end KK
namespace RR
open PySem
def top(i:Nat):Vd:=PySem.Challenge.pw_lanepacks_k12_plans_refused.main.body.getD i (.Pass ⟨0,0,0,0⟩)
def mem(i j:Nat):Vd:=match top i with
 |.ClassDef _ _ _ b _ _ _ _ _ _ _=>b.getD j (.Pass ⟨0,0,0,0⟩)
 |s=>s
end RR
namespace KK
open PySem PySem.W PySem.Calls PyProof.Rows
def dA(s:Vd):Arguments:=match s with
 |.FunctionDef _ a _ _ _ _ _ _ _ _=>a
 |_=>⟨[],[],b4,[],[],b4,[]⟩
def dB(s:Vd):List Vd:=match s with
 |.FunctionDef _ _ b _ _ _ _ _ _ _=>b
 |_=>[]
def dS(s:Vd):Vf:=match s with
 |.FunctionDef _ _ _ _ _ _ c _ _ _=>c
 |_=>{kind:=.function,names:=[],isGenerator:=bb,isCoroutine:=bb}
abbrev s(x:Uv)(t:Nat):Uq:=.str x t
abbrev e(P:Qq)(x:Uv)(t:Nat)(v:Uq):Kg:=⟨PyData.keyHash P x,s x t,v⟩
abbrev f(a i:Nat)(n:Uv)(d m:Uq):Nat×Ve:=(a,⟨.type "function",b4,.func (fnOf n n (dA (RR.top i)) (dB (RR.top i)) (dS (RR.top i)) d .none .none m b4 (.ref (a-1)) .none),#[]⟩)
abbrev fm(a i j:Nat)(q:Uv)(m:Uq):Nat×Ve:=(a,⟨.type "function",b4,.func (fnOf "__init__" q (dA (RR.mem i j)) (dB (RR.mem i j)) (dS (RR.mem i j)) .none .none .none m b4 (.ref (a-1)) .none),#[]⟩)
abbrev fk(a i:Nat)(n:Uv)(d k m:Uq):Nat×Ve:=(a,⟨.type "function",b4,.func (fnOf n n (dA (RR.top i)) (dB (RR.top i)) (dS (RR.top i)) d k .none m b4 (.ref (a-1)) .none),#[]⟩)
abbrev co(a:Nat)(n:Uv)(t:Nat)(l k:Int)(u:Nat)(x y z v:Uq):Nat×Ve:=(a,⟨.type "code",b4,.fields #[s n t,s n (t+1),s "/claim/cut.py" (t+2),.int l 0,.int k 0,.int 0 0,.int 0 0,.int 3 0,x,.bool ba,.int 181 0,y,.none,z,v,.ref (a-1),.int u 0,.int l 0,s "/claim/cut.py" (u+1)],#[]⟩)
abbrev c(a:Nat)(n:Uv)(t:Nat)(l k:Int)(u:Nat):Nat×Ve:=co a n t l k u (.ref (a-5)) (.ref (a-4)) (.ref (a-3)) (.ref (a-2))
abbrev b(a:Nat)(n:Uv)(t:Nat)(l k:Int)(u:Nat):Nat×Ve:=co a n t l k u (.ref (a-3)) (.ref (a-2)) .none .none
abbrev m:Uq:=s "law_lanepacks_k12_plans_refused" 913
abbrev kc(a q:Nat)(n:Uv)(b t u:Nat):Nat×Ve:=(a,⟨.type "type",b4,.cls {name:=n,bases:=[.ref q],mro:=[.ref a,.ref q,.type "ValueError",.type "Exception",.type "BaseException",.type "object"],ns:=a-1,qualname:=n},#[b3 (.ref b),b4,b3 (s n t),b3 (s n u),b3 (.builtin "ValueError.__new__"),b3 (.bool ba)]⟩)
abbrev kn(P:Qq)(a m w l r:Nat):Nat×Ve:=(a,⟨.type "dict",b4,.dict #[e P "__module__" m (s "lanepacks.errors" w),e P "__firstlineno__" (m+4) (.int l (m+3)),e P "__static_attributes__" (m+5) (.ref r),e P "__doc__" (m+6) .none] 2,#[]⟩)
noncomputable def K(P:Qq):Vj:=[(2,⟨.none,b4,.dict #[] 0,#[]⟩),(3,⟨.type "dict",b4,.dict #[e P "__name__" 165 (s "law_lanepacks_k12_plans_refused" 913),e P "__doc__" 166 (.none),e P "__package__" 167 (.none),e P "__loader__" 168 (.builtin "__main__.__loader__#opaque"),e P "__spec__" 169 (.none),e P "__annotations__" 170 (.ref 6),e P "__builtins__" 171 (.ref 4),e P "__file__" 173 (s "/claim/cut.py" 172),e P "__cached__" 174 (.none),e P "PackError" 206 (.ref 24),e P "NoBlock" 222 (.ref 37),e P "NoCells" 238 (.ref 49),e P "NoRow" 263 (.ref 68),e P "NoLanes" 279 (.ref 80),e P "NoPlan" 295 (.ref 92),e P "NoProgram" 311 (.ref 104),e P "NoTree" 327 (.ref 116),e P "NoLoop" 343 (.ref 128),e P "NoText" 359 (.ref 140),e P "NoName" 384 (.ref 159),e P "TooMany" 400 (.ref 171),e P "TooLong" 416 (.ref 183),e P "NotValid" 441 (.ref 202),e P "Nothing" 457 (.ref 214),e P "MOST_WORD" 461 (.int 999 460),e P "DEEDS" 469 (.ref 217),e P "is_whole" 478 (.ref 224),e P "MOST_SURE" 482 (.int 64 481),e P "MOST_ROWS" 484 (.int 40 483),e P "MOST_PLACE" 486 (.int 63 485),e P "DEED_PARTS" 489 (.ref 225),e P "OTHER_PARTS" 515 (.ref 226),e P "READERS" 518 (.ref 233),e P "WRITERS" 521 (.ref 234),e P "parts_of" 528 (.ref 241),e P "makes_word" 535 (.ref 248),e P "place_of" 542 (.ref 255),e P "names_of" 548 (.ref 260),e P "with_names" 556 (.ref 267),e P "may_name" 564 (.ref 274),e P "fits" 573 (.ref 281),e P "is_row" 579 (.ref 286),e P "is_block" 590 (.ref 293),e P "writes" 599 (.ref 300),e P "is_safe_number" 606 (.ref 307),e P "can_fault" 618 (.ref 314),e P "share_written_cell" 626 (.ref 321),e P "must_stay" 638 (.ref 328),e P "must_pairs" 644 (.ref 333),e P "LEAST_LANES" 648 (.int 2 647),e P "MOST_LANES" 650 (.int 4 649),e P "is_lanes" 657 (.ref 340),e P "may_follow" 668 (.ref 347),e P "is_pack" 674 (.ref 352),e P "rows_within" 680 (.ref 357),e P "fits_plan" 686 (.ref 362),e P "check_lanes" 694 (.ref 369),e P "check_plan" 703 (.ref 376),e P "rows_alone" 709 (.ref 381),e P "nodes_of" 715 (.ref 386),e P "waits_of" 721 (.ref 391),e P "next_node" 727 (.ref 396),e P "ordered_by" 738 (.ref 403),e P "ordered" 746 (.ref 410),e P "wished" 752 (.ref 415),e P "supply" 758 (.ref 420),e P "wished_as" 764 (.ref 425),e P "drawn_rows" 770 (.ref 430),e P "is_plan" 779 (.ref 437),e P "is_valid" 788 (.ref 444),e P "order" 798 (.ref 451),e P "plan_cost" 804 (.ref 456),e P "cost" 813 (.ref 463),e P "Draft" 900 (.ref 521),e P "lowered" 912 (.ref 532),e P "_law_cell_at" 924 (.ref 539),e P "_law_mixed" 934 (.ref 546),e P "_law_draw" 943 (.ref 553),e P "_law_pick" 952 (.ref 560),e P "_law_place" 963 (.ref 567),e P "_law_row" 969 (.ref 572),e P "_law_rows" 983 (.ref 579),e P "_law_next" 1000 (.ref 586),e P "_law_block" 1006 (.ref 591),e P "_law_names" 1013 (.ref 598),e P "_law_may" 1019 (.ref 603),e P "_law_must" 1025 (.ref 608),e P "_law_which" 1033 (.ref 615),e P "_law_none" 1042 (.ref 622),e P "_law_mixed_order" 1048 (.ref 627),e P "_law_renamed" 1054 (.ref 632),e P "_law_ask" 1065 (.ref 639),e P "law" 1071 (.ref 644)] 93,#[]⟩),(23,⟨.type "dict",b4,.dict #[e P "__module__" 196 (s "lanepacks.errors" 187),e P "__firstlineno__" 200 (.int 2 199),e P "__static_attributes__" 201 (.ref 22),e P "__weakref__" 203 (.ref 25),e P "__doc__" 204 (.none)] 3,#[]⟩),(24,⟨.type "type",b4,.cls {name:= "PackError",bases:=[.type "ValueError"],mro:=[.ref 24,.type "ValueError",.type "Exception",.type "BaseException",.type "object"],ns:=23,qualname:= "PackError",subclasses:=[.ref 37,.ref 49,.ref 68,.ref 80,.ref 92,.ref 104,.ref 116,.ref 128,.ref 140,.ref 159,.ref 171,.ref 183,.ref 202,.ref 214]},#[b3 (.ref 15),b4,b3 (s "PackError" 189),b3 (s "PackError" 197),b3 (.builtin "ValueError.__new__"),b3 (.bool ba)]⟩),kn P 36 214 187 4 35,kc 37 24 "NoBlock" 28 207 215,kn P 48 230 187 6 47,kc 49 24 "NoCells" 40 223 231,(67,⟨.type "dict",b4,.dict #[e P "__module__" 246 (s "lanepacks.errors" 187),e P "__firstlineno__" 250 (.int 8 249),e P "__init__" 258 (.ref 65),e P "__static_attributes__" 260 (.ref 66),e P "__doc__" 261 (.none)] 2,#[]⟩),kc 68 24 "NoRow" 52 239 247,kn P 79 271 187 13 78,kc 80 24 "NoLanes" 71 264 272,kn P 91 287 187 15 90,kc 92 24 "NoPlan" 83 280 288,kn P 103 303 187 17 102,kc 104 24 "NoProgram" 95 296 304,kn P 115 319 187 19 114,kc 116 24 "NoTree" 107 312 320,kn P 127 335 187 21 126,kc 128 24 "NoLoop" 119 328 336,kn P 139 351 187 23 138,kc 140 24 "NoText" 131 344 352,(158,⟨.type "dict",b4,.dict #[e P "__module__" 367 (s "lanepacks.errors" 187),e P "__firstlineno__" 371 (.int 25 370),e P "__init__" 379 (.ref 156),e P "__static_attributes__" 381 (.ref 157),e P "__doc__" 382 (.none)] 2,#[]⟩),kc 159 24 "NoName" 143 360 368,kn P 170 392 187 30 169,kc 171 24 "TooMany" 162 385 393,kn P 182 408 187 32 181,kc 183 24 "TooLong" 174 401 409,fm 199 14 0 "NotValid.__init__" (s "lanepacks.errors" 187),(198,⟨.type "code",b4,.fields #[s "__init__" 429,s "NotValid.__init__" 430,s "/claim/cut.py" 431,.int 36 0,.int 2 0,.int 0 0,.int 0 0,.int 3 0,.ref 193,.bool ba,.int 181 0,.ref 194,.none,.ref 195,.ref 196,.ref 197,.int 434 0,.int 36 0,s "/claim/cut.py" 435],#[]⟩),(201,⟨.type "dict",b4,.dict #[e P "__module__" 424 (s "lanepacks.errors" 187),e P "__firstlineno__" 428 (.int 34 427),e P "__init__" 436 (.ref 199),e P "__static_attributes__" 438 (.ref 200),e P "__doc__" 439 (.none)] 2,#[]⟩),kc 202 24 "NotValid" 186 417 425,kn P 213 449 187 39 212,kc 214 24 "Nothing" 205 442 450,(217,⟨.type "tuple",b4,.seq #[s "plus" 462,s "minus" 463,s "times" 464,s "least" 465,s "most" 466,s "less" 467,s "over" 468] 0,#[]⟩),f 224 19 "is_whole" (.none) (s "lanepacks.words" 458),c 223 "is_whole" 470 44 3 476,(225,⟨.type "tuple",b4,.seq #[s "row" 487,s "row" 488] 0,#[]⟩),(226,⟨.type "dict",b4,.dict #[e P "number" 490 (.ref 227),e P "pick" 492 (.ref 228),e P "load" 496 (.ref 229),e P "take" 498 (.ref 230),e P "store" 502 (.ref 231),e P "put" 505 (.ref 232)] 6,#[]⟩),(227,⟨.type "tuple",b4,.seq #[s "word" 491] 0,#[]⟩),(228,⟨.type "tuple",b4,.seq #[s "row" 493,s "row" 494,s "row" 495] 0,#[]⟩),(229,⟨.type "tuple",b4,.seq #[s "place" 497] 0,#[]⟩),(230,⟨.type "tuple",b4,.seq #[s "place" 499,s "row" 500,s "row" 501] 0,#[]⟩),(231,⟨.type "tuple",b4,.seq #[s "place" 503,s "row" 504] 0,#[]⟩),(232,⟨.type "tuple",b4,.seq #[s "place" 506,s "row" 507,s "row" 508] 0,#[]⟩),(233,⟨.type "tuple",b4,.seq #[s "load" 516,s "take" 517] 0,#[]⟩),(234,⟨.type "tuple",b4,.seq #[s "store" 519,s "put" 520] 0,#[]⟩),f 241 28 "parts_of" (.none) (s "lanepacks.blocks" 479),c 240 "parts_of" 522 56 1 526,f 248 29 "makes_word" (.none) (s "lanepacks.blocks" 479),c 247 "makes_word" 529 60 1 533,f 255 30 "place_of" (.none) (s "lanepacks.blocks" 479),c 254 "place_of" 536 62 1 540,f 260 31 "names_of" (.none) (s "lanepacks.blocks" 479),b 259 "names_of" 543 64 1 546,f 274 33 "may_name" (.none) (s "lanepacks.blocks" 479),c 273 "may_name" 557 69 2 562,f 281 34 "fits" (.none) (s "lanepacks.blocks" 479),c 280 "fits" 565 71 3 571,f 286 35 "is_row" (.none) (s "lanepacks.blocks" 479),b 285 "is_row" 574 77 2 577,f 293 36 "is_block" (.none) (s "lanepacks.blocks" 479),c 292 "is_block" 580 85 1 588,f 300 38 "writes" (.none) (s "lanepacks.orders" 591),c 299 "writes" 593 100 1 597,f 307 39 "is_safe_number" (.none) (s "lanepacks.orders" 591),c 306 "is_safe_number" 600 102 1 604,f 314 40 "can_fault" (.none) (s "lanepacks.orders" 591),c 313 "can_fault" 607 104 2 616,f 321 41 "share_written_cell" (.none) (s "lanepacks.orders" 591),c 320 "share_written_cell" 619 111 2 624,f 328 42 "must_stay" (.none) (s "lanepacks.orders" 591),c 327 "must_stay" 627 113 3 636,f 333 43 "must_pairs" (.none) (s "lanepacks.orders" 591),b 332 "must_pairs" 639 121 1 642,f 340 47 "is_lanes" (.none) (s "lanepacks.plans" 645),c 339 "is_lanes" 651 128 1 655,f 347 48 "may_follow" (.none) (s "lanepacks.plans" 645),c 346 "may_follow" 658 130 3 666,f 352 49 "is_pack" (.none) (s "lanepacks.plans" 645),b 351 "is_pack" 669 136 3 672,f 357 50 "rows_within" (.none) (s "lanepacks.plans" 645),b 356 "rows_within" 675 145 1 678,f 362 51 "fits_plan" (.none) (s "lanepacks.plans" 645),b 361 "fits_plan" 681 147 3 684,f 369 52 "check_lanes" (.none) (s "lanepacks.plans" 645),c 368 "check_lanes" 687 152 2 692,f 376 53 "check_plan" (.none) (s "lanepacks.plans" 645),c 375 "check_plan" 695 157 3 701,f 381 54 "rows_alone" (.none) (s "lanepacks.plans" 645),b 380 "rows_alone" 704 161 2 707,f 386 55 "nodes_of" (.none) (s "lanepacks.plans" 645),b 385 "nodes_of" 710 164 2 713,f 391 56 "waits_of" (.none) (s "lanepacks.plans" 645),b 390 "waits_of" 716 166 2 719,f 396 57 "next_node" (.none) (s "lanepacks.plans" 645),b 395 "next_node" 722 173 3 725,f 403 58 "ordered_by" (.none) (s "lanepacks.plans" 645),c 402 "ordered_by" 728 178 2 736,f 410 59 "ordered" (.none) (s "lanepacks.plans" 645),c 409 "ordered" 739 187 2 744,f 437 64 "is_plan" (.none) (s "lanepacks.plans" 645),c 436 "is_plan" 771 213 3 777,f 444 65 "is_valid" (.none) (s "lanepacks.plans" 645),c 443 "is_valid" 780 216 3 786,f 451 66 "order" (.none) (s "lanepacks.plans" 645),c 450 "order" 789 219 3 796,f 463 68 "cost" (.none) (s "lanepacks.plans" 645),c 462 "cost" 805 231 3 811,(520,⟨.type "dict",b4,.dict #[e P "__module__" 823 (s "lanepacks.lowering" 814),e P "__firstlineno__" 827 (.int 237 826),e P "__init__" 836 (.ref 477),e P "write" 844 (.ref 484),e P "single" 854 (.ref 491),e P "group" 862 (.ref 498),e P "brought" 868 (.ref 503),e P "shuffled" 874 (.ref 508),e P "do_alone" 880 (.ref 513),e P "do_pack" 886 (.ref 518),e P "__static_attributes__" 893 (.ref 519),e P "__dict__" 895 (.ref 522),e P "__weakref__" 897 (.ref 523),e P "__doc__" 898 (.none)] 4,#[]⟩),(521,⟨.type "type",b4,.cls {name:= "Draft",bases:=[.type "object"],mro:=[.ref 521,.type "object"],ns:=520,qualname:= "Draft"},#[b4,b4,b3 (s "Draft" 816),b3 (s "Draft" 824),b3 (.builtin "object.__new__"),b3 (.bool ba)]⟩),f 532 71 "lowered" (.none) (s "lanepacks.lowering" 814),c 531 "lowered" 901 289 3 910,f 539 73 "_law_cell_at" (.none) m,c 538 "_law_cell_at" 915 302 2 922,f 546 74 "_law_mixed" (.none) m,c 545 "_law_mixed" 925 311 3 932,f 553 75 "_law_draw" (.none) m,c 552 "_law_draw" 935 314 3 941,f 560 76 "_law_pick" (.none) m,c 559 "_law_pick" 944 317 3 950,f 567 77 "_law_place" (.none) m,c 566 "_law_place" 953 319 5 961,f 572 78 "_law_row" (.none) m,b 571 "_law_row" 964 322 5 967,f 579 79 "_law_rows" (.none) m,c 578 "_law_rows" 970 340 4 981,f 586 80 "_law_next" (.none) m,c 585 "_law_next" 984 352 6 998,f 591 81 "_law_block" (.none) m,b 590 "_law_block" 1001 363 3 1004,f 598 82 "_law_names" (.none) m,c 597 "_law_names" 1007 372 1 1011,f 603 83 "_law_may" (.none) m,b 602 "_law_may" 1014 376 2 1017,f 608 84 "_law_must" (.none) m,b 607 "_law_must" 1020 381 1 1023,f 615 85 "_law_which" (.none) m,c 614 "_law_which" 1026 393 1 1031,f 622 86 "_law_none" (.none) m,c 621 "_law_none" 1034 401 2 1040,f 627 87 "_law_mixed_order" (.none) m,b 626 "_law_mixed_order" 1043 408 3 1046,f 632 88 "_law_renamed" (.none) m,b 631 "_law_renamed" 1049 415 2 1052,f 639 89 "_law_ask" (.none) m,c 638 "_law_ask" 1055 420 4 1063,f 644 90 "law" (.none) m,b 643 "law" 1066 427 1 1069]
noncomputable def A:List Nat:=[2,3,23,24,36,37,48,49,67,68,79,80,91,92,103,104,115,116,127,128,139,140,158,159,170,171,182,183,199,198,201,202,213,214,217,224,223,225,226,227,228,229,230,231,232,233,234,241,240,248,247,255,254,260,259,274,273,281,280,286,285,293,292,300,299,307,306,314,313,321,320,328,327,333,332,340,339,347,346,352,351,357,356,362,361,369,368,376,375,381,380,386,385,391,390,396,395,403,402,410,409,437,436,444,443,451,450,463,462,520,521,532,531,539,538,546,545,553,552,560,559,567,566,572,571,579,578,586,585,591,590,598,597,603,602,608,607,615,614,622,621,627,626,632,631,639,638,644,643]
noncomputable def view:Av:={Lj with main:={PySem.Challenge.pw_lanepacks_k12_plans_refused.main with body:=[1,2,3,4,5,6,7,8,9,10,11,12,13,14,15,17,18,19,21,22,23,24,25,26,27,28,29,30,31,32,33,34,35,36,38,39,40,41,42,43,45,46,47,48,49,50,51,52,53,54,55,56,57,58,59,60,61,62,63,64,65,66,67,68,70,71,73,74,75,76,77,78,79,80,81,82,83,84,85,86,87,88,89,90].map RR.top}}
abbrev lo:List Uv:=["OTHER_PARTS"]
def kA(P:Qq):A=(K P).map (·.1):=by kernel_rfl
noncomputable def X(s:Ae):Bool:=xlAt view [] s&&recOk (RowW.records (OpenRow.toRowW PySem.Challenge.rw_lanepacks_k12_plans_refused.row)) s
noncomputable abbrev H:Hook:=kHook K A kA
abbrev pr:Av:=PySem.Challenge.rw_lanepacks_k12_plans_refused.row.prog
theorem mapP{α β γ:Type}{o:Option α}{f:α->β×γ}{a:β}{b:γ}(h:o.map (λq=>(f q).1)=b3 a)(k:o.map (λq=>(f q).2)=b3 b):o.map f=b3 (a,b):=by cases o with
 |none=>cases h
 |some q=>cases h;cases k;rfl
set_option maxRecDepth 100000 in
set_option maxHeartbeats 0 in
theorem rAfp(w:Uy):(OI pr (w.withFollow "special-get-raises" bb) 11452).map (λq=>(Ku view lo (Kb pr.main.body) X ba q.2).1)=b3 (openGood view lo).1:=by kernel_rfl
set_option maxRecDepth 100000 in
set_option maxHeartbeats 0 in
theorem rCf(w:Uy):(OI pr (w.withFollow "special-get-raises" bb) 11452).map (λq=>(Ku view lo (Kb pr.main.body) X ba q.2).2)=b3 (openGood view lo).2:=by kernel_rfl
theorem rAf(w:Uy):(OI pr (w.withFollow "special-get-raises" bb) 11452).map (λq=>Ku view lo (Kb pr.main.body) X ba q.2)=b3 (openGood view lo):=@mapP _ _ _ _ _ (openGood view lo).1 (openGood view lo).2 (rAfp w) (rCf w)
set_option maxRecDepth 100000 in
set_option maxHeartbeats 0 in
theorem rBf(w:Uy):(OI pr (w.withFollow "special-get-raises" bb) 11452).map (λq=>(chkU pr q.1 q.2,H.obs q.2))=b3 ((ba,H.val (w.withFollow "special-get-raises" bb))):=by kernel_rfl
set_option maxRecDepth 100000 in
set_option maxHeartbeats 0 in
theorem rAtp(w:Uy):(OI pr (w.withFollow "special-get-raises" ba) 11452).map (λq=>(Ku view lo (Kb pr.main.body) X ba q.2).1)=b3 (openGood view lo).1:=by kernel_rfl
set_option maxRecDepth 100000 in
set_option maxHeartbeats 0 in
theorem rCt(w:Uy):(OI pr (w.withFollow "special-get-raises" ba) 11452).map (λq=>(Ku view lo (Kb pr.main.body) X ba q.2).2)=b3 (openGood view lo).2:=by kernel_rfl
theorem rAt(w:Uy):(OI pr (w.withFollow "special-get-raises" ba) 11452).map (λq=>Ku view lo (Kb pr.main.body) X ba q.2)=b3 (openGood view lo):=@mapP _ _ _ _ _ (openGood view lo).1 (openGood view lo).2 (rAtp w) (rCt w)
set_option maxRecDepth 100000 in
set_option maxHeartbeats 0 in
theorem rBt(w:Uy):(OI pr (w.withFollow "special-get-raises" ba) 11452).map (λq=>(chkU pr q.1 q.2,H.obs q.2))=b3 ((ba,H.val (w.withFollow "special-get-raises" ba))):=by kernel_rfl
def hl:LeftO pr view lo X H.obs H.val 11452:=λw=>byRow2 "special-get-raises" (P:=λw=>(Tb treeTable pr w 11452).map (λs=>(openSeen view lo (Kb pr.main.body) X ba s,H.obs s))=b3 (openGood view lo,H.val w)) (λw=>mapQ (by rw[Kv];exact rAf w) (rBf w)) (λw=>mapQ (by rw[Kv];exact rAt w) (rBt w)) w
set_option maxRecDepth 100000 in
set_option maxHeartbeats 0 in
theorem said:PySem.Challenge.rw_lanepacks_k12_plans_refused.wellSaid=ba:=by rw[Fast.te9446332074065402090];kernel_rfl
abbrev m0:Uq:=.str "lanepacks.blocks" 479
abbrev m1:Uq:=.str "lanepacks.lowering" 814
abbrev m2:Uq:=.str "lanepacks.orders" 591
abbrev m3:Uq:=.str "lanepacks.plans" 645
abbrev m4:Uq:=.str "lanepacks.words" 458
abbrev m5:Uq:=.str "law_lanepacks_k12_plans_refused" 913
end KK
namespace L2
open PySem PySem.Spec PyProof.Rows
abbrev Z5:=Sum Int Uv
noncomputable def HX:Z5->Uq->Bool
 |.inl k,v=>Ug k v
 |.inr x,v=>Tc x v
def keyH(w:Uy):Z5->Int
 |.inl k=>hashInt k
 |.inr x=>hashStr w x
theorem ZK:∀{k:Z5}{v:Uq},HX k v=ba->(∃i t,k=Fs i/\v=Ru i t)∨(∃x t,k=Py x/\v=Mr x t)
 |.inl i,v,h=>by obtain⟨t,e⟩:=Value.isInt_shape (k:=i) (v:=v) h;exact .inl ⟨i,t,rfl,e⟩
 |.inr x,v,h=>by obtain⟨t,e⟩:=Value.isStrOf_shape (x:=x) (v:=v) h;exact .inr ⟨x,t,rfl,e⟩
def gO(i:Int)(t:Vm):HX (.inl i) (.int i t)=ba:=by simp[HX,Ug]
def kL(x:Uv)(t:Vm):HX (.inr x) (.str x t)=ba:=by simp[HX,Tc]
def nX(a b:Int):decide ((Fs a:Z5)=Fs b)=(a==b):=by
 by_cases e:a=b
 ·subst e;simp
 ·have h : ¬ (Fs a : Z5) = Fs b := λq => e (Rv q)
  rw[decide_eq_false h];exact(beq_eq_false_iff_ne.mpr e).symm
def lr(a b:Uv):decide ((Py a:Z5)=Py b)=decide (a=b):=by
 by_cases e:a=b
 ·subst e;simp
 ·have h : ¬ (Py a : Z5) = Py b := λq => e (Sum.inr.inj q)
  rw[decide_eq_false h,decide_eq_false e]
def kQ(a:Int)(b:Uv):decide ((Fs a:Z5)=Py b)=bb:=decide_eq_false (λq=>nomatch q)
def ql(a:Uv)(b:Int):decide ((Py a:Z5)=Fs b)=bb:=decide_eq_false (λq=>nomatch q)
def Z9(prog:Av)(w:Uy):PySem.KeyKind prog w Z5 where
 is:=HX
 hash:=keyH w
 inj:=λv a b l f=>by
  rcases ZK l with⟨i,t,rfl,rfl⟩|⟨x,t,rfl,rfl⟩
  ·rcases ZK f with⟨j,u,rfl,e⟩|⟨y,u,rfl,e⟩
   ·injection e with c _;rw[c]
   ·exact nomatch e
  ·rcases ZK f with⟨j,u,rfl,e⟩|⟨y,u,rfl,e⟩
   ·exact nomatch e
   ·injection e with c _;rw[c]
 byValue:=λk v h=>by
  rcases ZK h with⟨i,t,rfl,rfl⟩|⟨x,t,rfl,rfl⟩<;>rfl
 pyHash:=λd h=>by
  rcases ZK d with⟨i,t,rfl,rfl⟩|⟨x,t,rfl,rfl⟩
  ·exact wpAny_pyHash_int h
  ·exact wpAny_pyHash_str h
 eqBool:=λg d h=>by
  rcases ZK g with⟨i,t,rfl,rfl⟩|⟨x,t,rfl,rfl⟩
  ·rcases ZK d with⟨j,u,rfl,rfl⟩|⟨y,u,rfl,rfl⟩
   ·rw[nX]at h;exact wpAny_eqBool_int h
   ·rw[kQ]at h;exact SeqAt.EqAt.int_str i t y u _ _ _ _ h
  ·rcases ZK d with⟨j,u,rfl,rfl⟩|⟨y,u,rfl,rfl⟩
   ·rw[ql]at h;exact SeqAt.EqAt.str_int x t j u _ _ _ _ h
   ·rw[lr]at h;exact wpAny_eqBool_str h
 «strs» :=λk x t v h=>by
  rcases ZK h with⟨i,u,rfl,e⟩|⟨y,u,rfl,e⟩
  ·exact nomatch e
  ·injection e with c _
   subst c;cases v<;>rfl
def D1(prog:Av)(w:Uy)(i:Int)(t:Vm):(Z9 prog w).is (.inl i) (.int i t)=ba:=gO i t
def D2(prog:Av)(w:Uy)(x:Uv)(t:Vm):(Z9 prog w).is (.inr x) (.str x t)=ba:=kL x t
inductive V where
 |non|bl (b:Bool)|int (i:Int)|str (x:Uv)|byt (b:Array UInt8)|flt (b:UInt64)|ref (a:Ur)|ty (n:String)
 deriving DecidableEq
def aV:V->Uq->Prop
 |.non,u=>u=Value.none
 |.bl b,u=>u=Gw b
 |.int i,u=>∃t,u=Ru i t
 |.str x,u=>∃t,u=Mr x t
 |.byt b,u=>∃t,u=Value.bytes b t
 |.flt b,u=>∃t,u=Uh b t
 |.ref a,u=>u=Ay a
 |.ty n,u=>u=Gx n
abbrev aY:List V->List Uq->Prop:=Paired aV
def aY.length{xs:List V}{a:List Uq}(r:aY xs a):xs.length=a.length:=Ic r
theorem aY.get:∀{xs:List V}{a:List Uq}{i:Nat}{x:V},aY xs a->xs[i]?=b3 x->∃u,a[i]?=b3 u/\aV x u
 |_,_,_,_,.nil,e=>by simp at e
 |_,_,0,_,.cons r _,e=>by simp at e;subst e;exact⟨_,rfl,r⟩
 |_,_,i+1,x,.cons _ t,e=>by obtain⟨u,h1,h2⟩:=aY.get (i:=i) (x:=x) t (by simpa using e);exact⟨u,by simpa using h1,h2⟩
theorem aY.append:∀{xs ys:List V}{b a:List Uq},aY xs b->aY ys a->aY (xs++ys) (b++a)
 |_,_,_,_,.nil,s=>s
 |_,_,_,_,.cons r t,s=>.cons r (aY.append t s)
theorem aY.take:∀{xs:List V}{a:List Uq}(n:Nat),aY xs a->aY (xs.take n) (a.take n)
 |_,_,0,_=>.nil
 |_,_,_+1,.nil=>.nil
 |_,_,n+1,.cons r t=>.cons r (aY.take n t)
theorem aY.drop:∀{xs:List V}{a:List Uq}(n:Nat),aY xs a->aY (xs.drop n) (a.drop n)
 |_,_,0,r=>r
 |_,_,_+1,.nil=>.nil
 |_,_,n+1,.cons _ t=>aY.drop n t
noncomputable def QR:Option V->Option Uq->Prop
 |some v,b3 u=>aV v u
 |none,b4=>True
 |_,_=>False
def KV{κ:Type}:List (κ×V)->List (κ×Uq)->Prop:=Paired λ(p:κ×V) (q:κ×Uq)=>p.1=q.1/\aV p.2 q.2
noncomputable def kV:Z5->V
 |.inl i=>.int i
 |.inr x=>.str x
inductive HO where
 |lst (xs:List V)
 |tup (xs:List V)
 |dK (kvs:List (Z5×V))|dT (kvs:List (List Z5×V))
 |set (S:Int->Bool) (n:Nat)
 |ins (C dx:Ur) (fs:List (Uv×V))
 |own (x:Ur)
 |xd (fs:List (Uv×V))
 |met (f x:Ur)
 |rng (lo hi:Int)
 |frz (o:Ve) (u:HO)
 |tbl (ps:Array Uq)
 |ext (φ:Vb->Prop)
abbrev Hp:=Ur->Option HO
def upd(H:Hp)(a:Ur)(o:HO):Hp:=λb=>if b=a then b3 o else H b
def bU{H:Hp}{a:Ur}{o:HO}:upd H a o a=b3 o:=by unfold upd;rw[if_pos rfl]
def bL{H:Hp}{a b:Ur}{o:HO}(h:b≠a):upd H a o b=H b:=by unfold upd;rw[if_neg h]
def Ye{H:Hp}{a b:Ur}{o u:HO}(h:H a=b3 o)(h':H b=b3 u)(d:o≠u):a≠b:=by intro e;subst e;rw[h]at h';exact d (Cq h')
def W9{H:Hp}{a b:Ur}{o:HO}(h:H a=b3 o)(h':H b=b4):a≠b:=by intro e;subst e;rw[h]at h';cases h'
section
variable(P:Av)(w:Uy)
def ZV(H:Hp)(h:Vb)(a:Ur):HO->Prop
 |.lst xs=>xs.length<=sizeLine/\∃(b:List Uq) (n:Nat),aY xs b/\h.get? a=b3 {cls:=.type "list",data:=.seq b.toArray n}
 |.tup xs=>xs.length<=sizeLine/\∃b:List Uq,aY xs b/\IsTup h a b.toArray
 |.dK kvs=>kvs.length<=sizeLine/\(a==Ew)=bb/\∃vs,KV kvs vs/\h.DictOf (Z9 P w) a vs
 | .dT kvs => kvs.length <= sizeLine /\ (a == Ew) = bb /\ ∃ xs : List (List Z5 × Ur × Uq),
   Paired (λ(p:List Z5×V) (q:List Z5×Ur×Uq)=>p.1=q.1/\H q.2.1=b3 (.tup (p.1.map kV))/\aV p.2 q.2.2) kvs xs∧
   ∃o es ep,h.get? a=b3 o/\o.ExactDict/\o.data=.dict es ep/\es.toList=xs.map (entryOfKey (tupleKind (Z9 P w)))/\(xs.map (·.1)).Nodup
 |.set S n=>h.SetOf (intKind P w) a S n
 | .ins C dx fs => H dx = b3 (.own a) /\ fs.length <= 1000 /\ dx ≠ a /\ h.get? a = b3 (Tr C dx) ∧
   ∃c,h.Ns1 dx c/\(∀f,QR (fs.lookup f) (c f))/\Ts c (fs.map (·.1))
 |.own _=>∃o,h.get? a=b3 o
 |.xd fs=>∃c,h.Ns1 a c/\∀f,QR (fs.lookup f) (c f)
 |.rng lo hi=>∃t u v,h.get? a=b3 {cls:=.type "range",data:=.fields #[.int lo t,.int hi u,.int 1 v]}
 |.frz o u=>h.get? a=b3 o/\ZV H h a u
 |.tbl ps=>h.get? a=b3 {cls:=.none,data:=.fields ps}
 |.met f x=>h.get? a=b3 (Rw (.ref f) (.ref x))
 |.ext d=>d h/\(∃o,h.get? a=b3 o)/\∀h1 h2:Vb,d h1->(∀o,h1.get? a=b3 o->h2.get? a=b3 o)->d h2
def QQ(H:Hp)(h:Vb):Prop:=∀a o,H a=b3 o->ZV P w H h a o
end
section
variable{P:Av}{w:Uy}{H H':Hp}{h h':Vb}{a:Ur}{o:HO}
def ZV.lt(x:ZV P w H h a o):a<h.objs.size:=by
 cases o with
 |lst xs=>obtain⟨_,_,_,_,e⟩:=x;exact Ak e
 |tup xs=>obtain⟨_,_,_,p⟩:=x;exact p.lt
 |dK kvs=>obtain⟨_,_,_,_,o,_,_,e,_⟩:=x;exact Ak e
 |dT kvs=>obtain⟨_,_,_,_,o,_,_,e,_⟩:=x;exact Ak e
 |set S n=>obtain⟨o,_,_,_,e,_⟩:=x;exact Ak e
 |ins C dx fs=>obtain⟨_,_,_,e,_⟩:=x;exact Ak e
 |own y=>obtain⟨_,e⟩:=x;exact Ak e
 |xd fs=>obtain⟨_,⟨_,_,_,e,_⟩,_⟩:=x;exact Ak e
 |rng lo hi=>obtain⟨_,_,_,e⟩:=x;exact Ak e
 |frz ob u=>obtain⟨e,_⟩:=x;exact Ak e
 |tbl ps=>exact Ak (show h.get? a=b3 _ from x)
 |met f y=>exact Ak (show h.get? a=b3 _ from x)
 |ext b=>obtain⟨_,⟨_,e⟩,_⟩:=x;exact Ak e
theorem Paired.mapP{α β:Type}{F G:α->β->Prop}:∀{d:List α}{c:List β},Paired F d c->(∀a b,F a b->G a b)->Paired G d c
 |_,_,.nil,_=>.nil
 |_,_,.cons r t,f=>.cons (f _ _ r) (Paired.mapP t f)
def ZV.stay(x:ZV P w H h a o)(k:∀b u,(b=a∨H b=b3 (.own a))->h.get? b=b3 u->h'.get? b=b3 u)(s:∀b,H b=b3 (.own a)->H' b=b3 (.own a))(m:∀b xs,H b=b3 (.tup xs)->H' b=b3 (.tup xs)):ZV P w H' h' a o:=by
 induction o with
 |lst xs=>obtain⟨z,g,n,r,e⟩:=x;exact⟨z,g,n,r,k _ _ (.inl rfl) e⟩
 |tup xs=>obtain⟨z,g,r,ob,e,c⟩:=x;exact⟨z,g,r,ob,k _ _ (.inl rfl) e,c⟩
 |dK kvs=>obtain⟨z,y,vs,r,ob,es,ep,e,c⟩:=x;exact⟨z,y,vs,r,ob,es,ep,k _ _ (.inl rfl) e,c⟩
 |dT kvs=>
  obtain⟨z,y,xs,r,ob,es,ep,e,c⟩:=x;exact⟨z,y,xs,Paired.mapP r λp q z=>⟨z.1,m _ _ z.2.1,z.2.2⟩,ob,es,ep,k _ _ (.inl rfl) e,c⟩
 |set S n=>obtain⟨ob,es,ep,t,e,c⟩:=x;exact⟨ob,es,ep,t,k _ _ (.inl rfl) e,c⟩
 |ins C dx fs=>
  obtain⟨d,z,j,e,i,⟨od,es,ep,A,c⟩,r⟩:=x;exact⟨s _ d,z,j,k _ _ (.inl rfl) e,i,⟨od,es,ep,k _ _ (.inr d) A,c⟩,r⟩
 |own y=>obtain⟨ob,e⟩:=x;exact⟨ob,k _ _ (.inl rfl) e⟩
 |xd fs=>obtain⟨i,⟨od,es,ep,e,c⟩,r⟩:=x;exact⟨i,⟨od,es,ep,k _ _ (.inl rfl) e,c⟩,r⟩
 |rng lo hi=>obtain⟨t,u,v,e⟩:=x;exact⟨t,u,v,k _ _ (.inl rfl) e⟩
 |frz ob u l=>obtain⟨e,q⟩:=x;exact⟨k _ _ (.inl rfl) e,l q⟩
 |tbl ps=>
  have e:h.get? a=b3 {cls:=.none,data:=.fields ps}:=x;show h'.get? a=b3 {cls:=.none,data:=.fields ps};exact k a _ (.inl rfl) e
 |met f y=>
  have e:h.get? a=b3 (Rw (.ref f) (.ref y)):=x;show h'.get? a=b3 (Rw (.ref f) (.ref y));exact k a _ (.inl rfl) e
 |ext B=>obtain⟨p,⟨o,e⟩,st⟩:=x;exact⟨st _ _ p λo q=>k _ _ (.inl rfl) q,⟨o,k _ _ (.inl rfl) e⟩,st⟩
def QQ.lt(x:QQ P w H h)(e:H a=b3 o):a<h.objs.size:=(x a o e).lt
def QQ.fresh(x:QQ P w H h)(e:h.objs.size<=a):H a=b4:=by
 cases q:H a with
 |none=>rfl
 |some u=>exact absurd (Bb (x.lt q) e) (Ci _)
def QQ.kept(x:QQ P w H h)(k:∀b u,h.get? b=b3 u->h'.get? b=b3 u):QQ P w H h':=λa o e=>
 (x a o e).stay (λb u _ q=>k b u q) (λ_ q=>q) λ_ _ q=>q
def QQ.laid(x:QQ P w H h)(k:∀b u,h.get? b=b3 u->h'.get? b=b3 u)(g:h.objs.size<=a)(new:ZV P w (upd H a o) h' a o):QQ P w (upd H a o) h':=λb u e=>by
 have d:=x.fresh g;by_cases f:b=a
 ·subst f;rw[bU]at e;cases e;exact new
 ·rw[bL f]at e
  exact(x b u e).stay (λc v _ q=>k c v q) (λc q=>by rw[bL (W9 q d)];exact q) λc xs q=>by rw[bL (W9 q d)];exact q
end
def Rd(H:Hp)(a:Ur)(u:HO):Prop:=H a=b3 u∨∃o,H a=b3 (.frz o u)
def Rd.ok{P:Av}{w:Uy}{H:Hp}{h:Vb}{a:Ur}{u:HO}(r:Rd H a u)(x:QQ P w H h):ZV P w H h a u:=by
 rcases r with r|⟨o,r⟩
 ·exact x a u r
 ·obtain⟨_,q⟩:=x a _ r
  exact q
def Mut:Option HO->Prop
 |some (.lst _)=>True
 |some (.dK _)=>True
 |some (.dT _)=>True
 |some (.set _ _)=>True
 |some (.ins _ _ _)=>True
 |some (.ext _)=>True
 |_=>False
section
variable{P:Av}{w:Uy}{H:Hp}{h h':Vb}{x e:Ur}{o':HO}
def QQ.write(ok:QQ P w H h)(d:Mut (H x))(j:e=x∨H e=b3 (.own x))(k:∀b u,b≠e->h.get? b=b3 u->h'.get? b=b3 u)(g:∃u,h'.get? e=b3 u)
  (new:ZV P w (upd H x o') h' x o'):QQ P w (upd H x o') h':=λb u q=>by
 have l:∀c y,H c=b3 (.own y)->c≠x:=λc y r z=>by subst z;rw[r]at d;exact d
 have m:∀c xs,H c=b3 (.tup xs)->c≠x:=λc xs r z=>by subst z;rw[r]at d;exact d
 by_cases f:b=x
 ·subst f;rw[bU]at q;cases q;exact new
 ·rw[bL f]at q
  by_cases a:b=e
  ·have i:H b=b3 (.own x):=by
    rcases j with z|z
    ·exact absurd (a.trans z) f
    ·rw[a];exact z
   rw[q]at i;cases i;obtain⟨v,n⟩:=g;exact⟨v,by rw[a];exact n⟩
  ·refine (ok b u q).stay (λc v hc r => k c v ?_ r) (λc r => by rw [bL (l c b r)];exact r) λc xs r => by rw [bL (m c xs r)];exact r
   rcases hc with rfl|hc
   ·exact a
   ·rintro rfl
    rcases j with z|z
    ·exact l c b hc z
    ·rw[hc]at z;cases z;exact f rfl
end
structure Un(fs ex:List Ur)(H H':Hp)(h h':Vb):Prop where
 keep:∀b o,h.get? b=b3 o->H b=b4->b∉fs->b∉ex->h'.get? b=b3 o
 slot:∀b o,h.get? b=b3 o->H b=b4->b∈fs->b∉ex->∃sl,h'.get? b=b3 {o with slots:=sl}
 free:∀b o,h.get? b=b3 o->H b=b4->b∉ex->H' b=b4
 there:∀b o,h.get? b=b3 o->b∉ex->∃o',h'.get? b=b3 o'
 tups:∀b xs,H b=b3 (.tup xs)->H' b=b3 (.tup xs)
 frzs:∀b o u,H b=b3 (.frz o u)->H' b=b3 (.frz o u)
 tbls:∀b ps,H b=b3 (.tbl ps)->∃more,H' b=b3 (.tbl (ps++more))
section
variable{fs fs' ex ex':List Ur}{H H1 H2:Hp}{h h1 h2 h':Vb}{a x e:Ur}{o:HO}
def Un.any(u:Un fs ex H H1 h h1){b:Ur}{ob:Ve}(q:h.get? b=b3 ob)(n:H b=b4)(a:b∉ex):∃sl,h1.get? b=b3 {ob with slots:=sl}:=by
 by_cases c:b∈fs
 ·exact u.slot b ob q n c a
 ·exact⟨ob.slots,u.keep b ob q n c a⟩
def Un.kept(k:∀b u,h.get? b=b3 u->h'.get? b=b3 u):Un fs ex H H h h':=
 ⟨λb ob q _ _ _=>k b ob q,λb ob q _ _ _=>⟨ob.slots,k b ob q⟩,λ_ _ _ n _=>n,λb ob q _=>⟨ob,k b ob q⟩,λ_ _ q=>q,λ_ _ _ q=>q,λ_ ps q=>⟨#[],by rw[q];simp⟩⟩
def Un.refl:Un fs ex H H h h:=Un.kept λ_ _ q=>q
def Un.laid(k:∀b u,h.get? b=b3 u->h'.get? b=b3 u)(d:h.objs.size<=a)(c:H a=b4):Un fs ex H (upd H a o) h h' where
 keep:=λb u q _ _ _=>k b u q
 slot:=λb u q _ _ _=>⟨u.slots,k b u q⟩
 free:=λb u q n _=>by rw[bL (Au (Bb (Ak q) d))];exact n
 there:=λb u q _=>⟨u,k b u q⟩
 tups:=λb xs q=>by rw[bL (W9 q c)];exact q
 frzs:=λb u xs q=>by rw[bL (W9 q c)];exact q
 tbls:=λb ps q=>⟨#[],by rw[bL (W9 q c),q];simp⟩
def Un.write(c:Mut (H x))(j:e=x∨H e=b3 (.own x))(k:∀b u,b≠e->h.get? b=b3 u->h'.get? b=b3 u)(f:∃u,h'.get? e=b3 u):Un fs ex H (upd H x o) h h':=by
 have g:∀b,H b=b4->b≠x:=λb n z=>by subst z;rw[n]at c;exact c
 have i:∀b,H b=b4->b≠e:=λb n z=>by
  subst z;rcases j with r|r
  ·exact g b n r
  ·rw[n]at r;cases r
 have d:∀b u,H b=b3 u->¬Mut (b3 u)->b≠x:=λb u q nm z=>by subst z;rw[q]at c;exact nm c
 refine⟨λb u q n _ _=>k b u (i b n) q,λb u q n _ _=>⟨u.slots,k b u (i b n) q⟩,λb u q n _=>by rw[bL (g b n)];exact n,λb u q _=>?_,λb xs q=>by rw[bL (d b _ q λz=>z)];exact q,λb u xs q=>by rw[bL (d b _ q λz=>z)];exact q,λb ps q=>⟨#[],by rw[bL (d b _ q λz=>z),q];simp⟩⟩
 by_cases a:b=e
 ·subst a;exact f
 ·exact⟨u,k b u a q⟩
end
def trk(h:Vb)(H:Hp):List Ur:=(As h.objs.size).filter λa=>(H a).isSome
def FV(h:Vb)(H:Hp):Vb:=Rx h (trk h H)
def nw(h:Vb)(H:Hp):(FV h H).objs.size=h.objs.size:=W.hideAll_size _ _
def iA{h:Vb}{H:Hp}{b:Ur}{o:Ve}(e:h.get? b=b3 o)(n:H b=b4):(FV h H).get? b=b3 o:=
 Lv _ e λa=>by have q:(H b).isSome=ba:=(Ie.mp a).2;rw[n]at q;simp at q
def qH{h:Vb}{H:Hp}{b:Ur}{o:Ve}(e:(FV h H).get? b=b3 o):h.get? b=b3 o/\H b=b4:=by
 have a:h.get? b=b3 o:=Qr (trk h H) e;refine⟨a,?_⟩;cases q:H b with
 |none=>rfl
 |some x=>
  have c:b∈trk h H:=Ie.mpr ⟨Dh.mpr (Ak a),by simp[q]⟩;have z:(FV h H).get? b=b4:=Nv (trk h H) c;rw[z]at e;cases e
structure Mod(K:Ai)(mg:Uv->Option Uq)(base:Vb):Prop where
 kin:K.In base
 glob:base.Ns Uw mg
 blt:∃mb,base.Ns builtinsNs mb/\∀x:Uv,x≠ "__name__" ->mb x=Bo x
 nolimit:base.NoLimit
structure Cx where
 prog:Av
 w:Uy
 K:Ai
 mg:Uv->Option Uq
 base:Vb
 A:Bz
 N:List Uv
 s₀:Ae
 H₀:Hp
 env:Env
 outer:List Env
 stack:List Env
 ex:List Ur
 fn:Uv->Bool
 calm:Bool
 pn:List (Ur×Ve)
 xe:Uq->Ae->Prop
def SM(l:List Env):List Ur:=l.filterMap (·.frame)
abbrev Cx.fs(X:Cx):List Ur:=SM X.outer
def Vis(a:Vf)(x:Uv):Prop:=a.names.lookup x=b3 .local∨a.names.lookup x=b3 .cell∨a.names.lookup x=b3 .free
def Loc(a:Vf)(x:Uv):Prop:=a.names.lookup x=b3 .local∨a.names.lookup x=b3 .cell
def Look(env:Env)(h:Vb)(m:Uv->Option Uq)(x:Uv)(u:Uq):Prop:=
 (env.kindOf x=b3 .local/\m x=b3 u)∨((env.kindOf x=b3 .cell∨env.kindOf x=b3 .free)/\∃c,env.cells.lookup x=b3 c/\h.IsCell c (b3 u))
structure Cx.Ok(X:Cx):Prop where
 mod:Mod X.K X.mg X.base
 kind:X.env.scope.kind=.function
 glob:X.env.globals=Uw
 blt:X.env.builtins=builtinsNs
 above:X.s₀.heap.objs.size<=X.env.locals
 inj:∀x y c,X.env.cells.lookup x=b3 c->X.env.cells.lookup y=b3 c->x=y
 has:∀x,(X.env.kindOf x=b3 .cell∨X.env.kindOf x=b3 .free)->∃c,X.env.cells.lookup x=b3 c
 cab:∀x c,X.fn x=ba->X.env.cells.lookup x=b3 c->X.s₀.heap.objs.size<=c
 hd:X.calm=ba->X.A.handled=b4
 frames:X.A.frames=b3 X.stack
 stk:X.stack=X.outer∨(X.stack=X.env::X.outer/\X.env.frame=b3 X.env.locals)
 exf:∀b∈X.ex,b≠X.env.locals/\∀x c,X.env.cells.lookup x=b3 c->c≠b
 bs:∀b o,X.base.get? b=b3 o->X.s₀.heap.get? b=b3 o/\X.H₀ b=b4
 bsz:X.base.objs.size<=X.s₀.heap.objs.size
 noex:∀b o,X.base.get? b=b3 o->b∉X.ex
 exfs:∀b∈X.ex,b∉X.fs
 funs:X.s₀.heap.FunFrames X.base X.outer
 frf:∀b∈X.fs,X.H₀ b=b4
structure bS(X:Cx)(aa:List (Ur×Ve))(σ:List (Option V))(H:Hp)(s:Ae):Prop where
 ok:X.Ok
 os:s.os=X.s₀.os
 bare:Lw s.gens
 base:Un X.fs X.ex X.H₀ H X.s₀.heap s.heap
 loc:∃m,s.heap.Ns X.env.locals m/\∀(i:Nat) (x:Uv) (v:V),X.N[i]?=b3 x->σ[i]?=b3 (b3 v)->Vis X.env.scope x->∃u,aV v u/\Look X.env s.heap m x u
 cell:∀x c,X.env.cells.lookup x=b3 c->∃v,s.heap.IsCell c v
 free:H X.env.locals=b4
 freeC:∀x c,X.env.cells.lookup x=b3 c->H c=b4
 pin:∀p∈X.pn++aa,s.heap.get? p.1=b3 p.2/\H p.1=b4/\p.1≠X.env.locals/\p.1∉X.fs/\∀v,p.2.data≠ .cell v
 hok:QQ X.prog X.w H s.heap
 len:σ.length=X.N.length
section
variable{X:Cx}{aa:List (Ur×Ve)}{σ:List (Option V)}{H H':Hp}{s:Ae}{h':Vb}
def Cx.Ok.nofr(ok:X.Ok){b:Ur}{o:Ve}(e:X.base.get? b=b3 o):b∉X.fs:=λa=>by
 have:=(ok.funs.mem a).1
 rw[e]at this;cases this
def bS.bs(I:bS X aa σ H s):∀b o,X.base.get? b=b3 o->s.heap.get? b=b3 o/\H b=b4:=λb o e=>
 ⟨I.base.keep b o (I.ok.bs b o e).1 (I.ok.bs b o e).2 (I.ok.nofr e) (I.ok.noex b o e),I.base.free b o (I.ok.bs b o e).1 (I.ok.bs b o e).2 (I.ok.noex b o e)⟩
def bS.bk(I:bS X aa σ H s):∀b o,X.base.get? b=b3 o->s.heap.get? b=b3 o:=λb o e=>(I.bs b o e).1
def bS.mod(I:bS X aa σ H s):Mod X.K X.mg X.base:=I.ok.mod
def bS.kIn(I:bS X aa σ H s):X.K.In s.heap:=I.ok.mod.kin.keeps I.bk
def bS.nolimit(I:bS X aa σ H s):s.heap.NoLimit:=I.ok.mod.nolimit.keeps I.bk
def bS.lt(I:bS X aa σ H s):X.env.locals<s.heap.objs.size:=let ⟨_,a,_⟩:=I.loc;a.lt
def bS.sz(I:bS X aa σ H s):X.s₀.heap.objs.size<=s.heap.objs.size:=Dw I.ok.above (La I.lt)
def bS.nofs(I:bS X aa σ H s){a:Ur}(h:s.heap.objs.size<=a):a∉X.fs:=λc=>by obtain⟨_,o,b,_⟩:=I.ok.funs.mem c;exact absurd (Bb (Ak b) (Dw I.sz h)) (Ci _)
def bS.cne(I:bS X aa σ H s):∀x c,X.env.cells.lookup x=b3 c->c≠X.env.locals:=λx c e z=>by obtain⟨v,o,d,f⟩:=I.cell x c e;obtain⟨m,⟨o',es,ep,a,b,_⟩,_⟩:=I.loc;rw[z,a]at d;cases d;rw[b]at f;cases f
def bS.funs(I:bS X aa σ H s):s.heap.FunFrames X.base X.outer:=by
 have all:∀(l:List Env),(∀b∈SM l,b∈X.fs)->X.s₀.heap.FunFrames X.base l->s.heap.FunFrames X.base l:=by
  intro l;induction l with
  |nil=>intro _ _;trivial
  |cons env r g=>
   intro f hl;obtain⟨k,⟨L,o,a,j,i,m⟩,h⟩:=hl;have d:L∈X.fs:=f L (by unfold SM;rw[Kh,a];exact At);obtain⟨sl,e⟩:=I.base.slot L o i (I.ok.frf L d) d λz=>I.ok.exfs L z d;exact⟨k,⟨L,_,a,j,e,m⟩,g (λb c=>f b (by unfold SM;rw[Kh,a];exact Aq _ c)) h⟩
 exact all X.outer (λ_ c=>c) I.ok.funs
def bS.stack(I:bS X aa σ H s):s.heap.FunFrames X.base X.stack:=by
 rcases I.ok.stk with e|⟨e,b⟩
 ·rw[e];exact I.funs
 ·rw[e]
  obtain⟨m,a,_⟩:=I.loc;refine .cons (by rw[I.ok.kind];decide) b a ?_ I.funs;exact Jw (Dw I.ok.bsz I.ok.above)
def bS.stkSub(I:bS X aa σ H s):∀b∈SM X.stack,b∈X.env.locals::X.fs:=λb a=>by
 rcases I.ok.stk with e|⟨e,c⟩
 ·rw[e]at a;exact Aq _ a
 ·rw[e]at a
  unfold SM at a;rw[Kh,c]at a;exact a
def bS.stkFree(I:bS X aa σ H s):∀b∈SM X.stack,H b=b4:=λb a=>by
 rcases Al.mp (I.stkSub b a)with e|a
 ·rw[e];exact I.free
 ·obtain⟨_,o,c,_⟩:=I.ok.funs.mem a
  exact I.base.free b o c (I.ok.frf b a) λz=>I.ok.exfs b z a
def bS.step{g':Array GenState}{t':Nat}{d':Drawn}{ch:List Ur}(I:bS X aa σ H s)(h:∀b∈ch,(b∈X.ex∨X.s₀.heap.objs.size<=b)/\b≠X.env.locals/\(∀x c,X.env.cells.lookup x=b3 c->c≠b)/\∀p∈X.pn++aa,p.1≠b)(keep:∀b o,b≠X.env.locals->b∉X.fs->b∉ch->s.heap.get? b=b3 o->H b=b4->h'.get? b=b3 o)(slot:∀b o,b≠X.env.locals->b∈X.fs->b∉ch->s.heap.get? b=b3 o->H b=b4->∃sl,h'.get? b=b3 {o with slots:=sl})(f:∀b o,b∉ch->s.heap.get? b=b3 o->H b=b4->H' b=b4)(there:∀b o,b∉ch->s.heap.get? b=b3 o->∃o',h'.get? b=b3 o')(tups:∀b xs,H b=b3 (.tup xs)->H' b=b3 (.tup xs))(D:∀b o u,H b=b3 (.frz o u)->H' b=b3 (.frz o u))(B:∀b ps,H b=b3 (.tbl ps)->∃more,H' b=b3 (.tbl (ps++more)))(ns:∀m,s.heap.Ns X.env.locals m->h'.Ns X.env.locals m)(G:QQ X.prog X.w H' h')(P:Lw g'):bS X aa σ H' {s with heap:=h',gens:=g',drawn:=d',toks:=t'}:=by
 have C:∀b o,X.s₀.heap.get? b=b3 o->b≠X.env.locals:=λb o e=>Au (Bb (Ak e) I.ok.above);have j:∀b o,X.s₀.heap.get? b=b3 o->b∉X.ex->b∉ch:=λb o e a y=>by
  rcases(h b y).1 with z|z
  ·exact a z
  ·exact absurd (Bb (Ak e) z) (Ci _)
 have N:∀x c,X.env.cells.lookup x=b3 c->∀v,s.heap.IsCell c v->h'.IsCell c v:=λx c e v q0=>by
  obtain⟨o,A,J⟩:=q0;have g:c∉ch:=λz=>(h c z).2.2.1 x c e rfl;by_cases hc:c∈X.fs
  ·obtain⟨sl,q⟩:=slot c o (I.cne x c e) hc g A (I.freeC x c e)
   exact⟨_,q,J⟩
  ·exact⟨o,keep c o (I.cne x c e) hc g A (I.freeC x c e),J⟩
 refine⟨I.ok,I.os,P,⟨λb o e n y a=>?_,λb o e n y a=>?_,λb o e n a=>?_,λb o e a=>?_,λb xs e=>tups b xs (I.base.tups b xs e),λb o xs e=>D b o xs (I.base.frzs b o xs e),λb ps e=>?_⟩,?_,λx c e=>?_,?_,λx c e=>?_,λp M=>?_,G,I.len⟩
 ·exact keep b o (C b o e) y (j b o e a) (I.base.keep b o e n y a) (I.base.free b o e n a)
 ·obtain⟨sl,t⟩:=I.base.slot b o e n y a
  obtain⟨F,E⟩:=slot b _ (C b o e) y (j b o e a) t (I.base.free b o e n a);exact⟨F,E⟩
 ·obtain⟨o',t⟩:=I.base.there b o e a
  exact f b o' (j b o e a) t (I.base.free b o e n a)
 ·obtain⟨o',t⟩:=I.base.there b o e a
  exact there b o' (j b o e a) t
 ·obtain⟨m1,t⟩:=I.base.tbls b ps e
  obtain⟨m2,E⟩:=B b _ t;exact⟨m1++m2,by rw[E,Array.append_assoc]⟩
 ·obtain⟨m,O,hl⟩:=I.loc
  refine⟨m,ns m O,λi x v t E Q=>?_⟩;obtain⟨u,r,l⟩:=hl i x v t E Q;refine⟨u,r,?_⟩;rcases l with l|⟨k,c,e,z⟩
  ·exact .inl l
  ·exact .inr ⟨k,c,e,N x c e _ z⟩
 ·obtain⟨v,z⟩:=I.cell x c e
  exact⟨v,N x c e v z⟩
 ·obtain⟨m,⟨o,_,_,A,_⟩,_⟩:=I.loc
  exact f _ o (λz=>(h _ z).2.1 rfl) A I.free
 ·obtain⟨v,o,A,J⟩:=I.cell x c e
  exact f c o (λz=>(h c z).2.2.1 x c e rfl) A (I.freeC x c e)
 ·obtain⟨e,n,L,K,d⟩:=I.pin p M
  have g:p.1∉ch:=λz=>(h p.1 z).2.2.2 p M rfl;exact⟨keep p.1 p.2 L K g e n,f p.1 p.2 g e n,L,K,d⟩
def bS.un{t':Nat}(I:bS X aa σ H s)(u:Un X.fs [] H H' s.heap h')(c:QQ X.prog X.w H' h'):bS X aa σ H' {s with heap:=h',toks:=t'}:=by
 obtain⟨m,⟨o,es,ep,h,r⟩,_⟩:=id I.loc;obtain⟨sl,j⟩:=u.any h I.free (by simp);exact I.step (g':=s.gens) (d':=s.drawn) (ch:=[]) (λ_ z=>nomatch z) (λb o _ d _ e n=>u.keep b o e n d (by simp)) (λb o _ d _ e n=>u.slot b o e n d (by simp)) (λb o _ e n=>u.free b o e n (by simp)) (λb o _ e=>u.there b o e (by simp)) u.tups u.frzs u.tbls (λk i=>by obtain⟨o',f,g,a,r'⟩:=i;rw[h]at a;cases a;exact⟨_,f,g,j,r'⟩) c I.bare
def bS.call{g':Array GenState}{t':Nat}{d':Drawn}{ch:List Ur}(I:bS X aa σ H s)(u:Un (SM X.stack) ch H H' s.heap h')(f:QQ X.prog X.w H' h')(l:Lw g')(d:∀b∈ch,(b∈X.ex∨X.s₀.heap.objs.size<=b)/\b≠X.env.locals/\(∀x c,X.env.cells.lookup x=b3 c->c≠b)/\∀p∈X.pn++aa,p.1≠b):bS X aa σ H' {s with heap:=h',gens:=g',drawn:=d',toks:=t'}:=by
 obtain⟨m,⟨o,es,ep,j,r⟩,_⟩:=id I.loc;obtain⟨sl,g⟩:=u.any j I.free λz=>(d _ z).2.1 rfl;exact I.step (ch:=ch) d (λb o g q hc e n=>u.keep b o e n (λz=>(Al.mp (I.stkSub b z)).elim g q) hc) (λb o _ _ hc e n=>u.any e n hc) (λb o hc e n=>u.free b o e n hc) (λb o hc e=>u.there b o e hc) u.tups u.frzs u.tbls (λt k=>by obtain⟨o',h,i,a,r'⟩:=k;rw[j]at a;cases a;exact⟨_,h,i,g,r'⟩) f l
def bS.turned{t':Nat}{it:Ur}(I:bS X aa σ H s)(k:∀b o,b≠it->s.heap.get? b=b3 o->h'.get? b=b3 o)(g:H it=b4)(d:it≠X.env.locals)(h1:it∈X.ex∨X.s₀.heap.objs.size<=it)(h2:∀x c,X.env.cells.lookup x=b3 c->c≠it)(j:∀p∈X.pn++aa,p.1≠it):bS X aa σ H {s with heap:=h',toks:=t'}:=by
 have a:∀b u,H b=b3 u->b≠it:=λb u e z=>by rw[z,g]at e;cases e
 refine I.step (g':=s.gens) (d':=s.drawn) (ch:=[it]) (λb i=>?_) (λb o _ _ hc e _=>k b o (λz=>hc (by simp[z])) e) (λb o _ _ hc e _=>⟨o.slots,k b o (λz=>hc (by simp[z])) e⟩) (λ_ _ _ _ n=>n)
  (λb o hc e=>⟨o,k b o (λz=>hc (by simp[z])) e⟩) (λ_ _ e=>e) (λ_ _ _ e=>e) (λb ps e=>⟨#[],by rw[e];simp⟩) (λm h=>?_) (λb u e=>?_) I.bare
 ·have e : b = it := by simpa using i
  subst e;exact⟨h1,d,h2,j⟩
 ·obtain⟨o,es,ep,f,r⟩:=h
  exact⟨o,es,ep,k _ o (Dj d) f,r⟩
 ·refine (I.hok b u e).stay (λc v hc q => k c v ?_ q) (λ_ q => q) λ_ _ q => q
  rcases hc with z|z
  ·rw[z];exact a b u e
  ·exact a c _ z
def bS.tok(I:bS X aa σ H s)(t:Nat):bS X aa σ H {s with toks:=t}:=I.un (h':=s.heap) (t':=t) Un.refl I.hok
def bS.kept{t':Nat}(I:bS X aa σ H s)(k:∀b u,s.heap.get? b=b3 u->h'.get? b=b3 u):bS X aa σ H {s with heap:=h',toks:=t'}:=I.un (Un.kept k) (I.hok.kept k)
def bS.laid{a:Ur}{o:HO}{t':Nat}(I:bS X aa σ H s)(k:∀b u,s.heap.get? b=b3 u->h'.get? b=b3 u)(c:s.heap.objs.size<=a)(new:ZV X.prog X.w (upd H a o) h' a o):bS X aa σ (upd H a o) {s with heap:=h',toks:=t'}:=I.un (Un.laid k c (I.hok.fresh c)) (I.hok.laid k c new)
def bS.write{x e:Ur}{o:HO}{t':Nat}(I:bS X aa σ H s)(c:Mut (H x))(d:e=x∨H e=b3 (.own x))(k:∀b u,b≠e->s.heap.get? b=b3 u->h'.get? b=b3 u)(a:∃u,h'.get? e=b3 u)(new:ZV X.prog X.w (upd H x o) h' x o):bS X aa σ (upd H x o) {s with heap:=h',toks:=t'}:=I.un (Un.write c d k a) (I.hok.write c d k a new)
def bS.weak{a:List (Option V)}(I:bS X aa σ H s)(hl:a.length=σ.length)(w:∀(i:Nat) v,a[i]?=b3 (b3 v)->σ[i]?=b3 (b3 v)):bS X aa a H s:=
 ⟨I.ok,I.os,I.bare,I.base,let ⟨m,c,b⟩:=I.loc;⟨m,c,λi x v f e d=>b i x v f (w i v e) d⟩,I.cell,I.free,I.freeC,I.pin,I.hok,hl.trans I.len⟩
def bS.pins_of{a:List (Ur×Ve)}(I:bS X aa σ H s)(h:∀p∈a,s.heap.get? p.1=b3 p.2/\H p.1=b4/\p.1≠X.env.locals/\p.1∉X.fs/\∀v,p.2.data≠ .cell v):bS X a σ H s:=
 ⟨I.ok,I.os,I.bare,I.base,I.loc,I.cell,I.free,I.freeC,λp b=>(Db.mp b).elim (λz=>I.pin p (Bf _ z)) (h p),I.hok,I.len⟩
def D5{N:List Uv}(c:N.Nodup){i j:Nat}{x:Uv}(a:N[i]?=b3 x)(b:N[j]?=b3 x):i=j:=by obtain⟨h1,e⟩:=Ah.mp a;obtain⟨h2,d⟩:=Ah.mp b;exact(Jt c).mp (e.trans d.symm)
def IV{M:Vl}{A:Bz}{E:Uq->Ae->Prop}{i:Nat}{x:Uv}{v:V}{u:Uq}{Q:Unit->Ae->Prop}(I:bS X aa σ H s)(hN:X.N.Nodup)(hi:X.N[i]?=b3 x)(l:Loc X.env.scope x)(r:aV v u)(h:∀s',bS X aa (σ.set i (b3 v)) H s'->(∃a,Es a s.heap s'.heap/\(a=X.env.locals∨X.env.cells.lookup x=b3 a))->Q () s')(hf:X.fn x=ba∨X.env.scope.names.lookup x=b3 .local:=by first|exact .inl rfl|exact .inr rfl|assumption):Us M A (storeName X.env x u) Q E s:=by
 obtain⟨m,hn,hl⟩:=id I.loc;have j9:(X.env.scope.kind== .class || (X.env.scope.kind== .module&&X.env.locals !=X.env.globals))=bb:=by rw[I.ok.kind];rfl
 have C:i<σ.length:=by rw[I.len];exact(Ah.mp hi).1
 have cne:=I.cne;have cw:∀{a:Ur}{h':Vb},(∃o,s.heap.get? a=b3 o/\H a=b4)->Es a s.heap h'->QQ X.prog X.w H h':=λ{a h'} ha f b ob e=>by
  obtain⟨_,_,bu⟩:=ha;refine(I.hok b ob e).stay (λc O hc q=>(f.2 c ?_).trans q) (λ_ q=>q) λ_ _ q=>q;rintro rfl;rcases hc with rfl|hc
  ·rw[bu]at e;cases e
  ·rw[bu]at hc;cases hc
 rcases l with B|B
 ·refine wpAny_storeName_local B hn (λh' Z f => ?_) j9
  obtain⟨oL,_,_,Y,_⟩:=id hn;refine h _ ⟨I.ok,I.os,I.bare,⟨λb o e n G l=>?_,λb o e n G l=>?_,I.base.free,λb o e l=>?_,I.base.tups,I.base.frzs,I.base.tbls⟩,⟨_,Z,λj y S g t e3=>?_⟩,λy c e=>?_,I.free,I.freeC,λp W=>?_,cw ⟨oL,Y,I.free⟩ f,by simpa using I.len⟩ ⟨_,f,.inl rfl⟩
  ·exact(f.2 b (Au (Bb (Ak e) I.ok.above))).trans (I.base.keep b o e n G l)
  ·obtain⟨sl,g⟩:=I.base.slot b o e n G l
   exact⟨sl,(f.2 b (Au (Bb (Ak e) I.ok.above))).trans g⟩
  ·obtain⟨o',g⟩:=I.base.there b o e l
   exact⟨o',(f.2 b (Au (Bb (Ak e) I.ok.above))).trans g⟩
  ·by_cases D:j=i
   ·subst D
    rw[hi]at g;cases g;rw[Cd C]at t;cases t;exact⟨u,r,.inl ⟨B,by simp⟩⟩
   ·rw[Ba (Dj D)]at t
    obtain⟨T,r',q⟩:=hl j y S g t e3;refine⟨T,r',?_⟩;rcases q with⟨k,e⟩|⟨k,c,e,z⟩
    ·refine .inl ⟨k,?_⟩
     have:y≠x:=λe=>D (D5 hN g (e▸hi))
     simp[this,e]
    ·exact .inr ⟨k,c,e,z.sameBut f (cne y c e)⟩
  ·obtain⟨O,z⟩:=I.cell y c e
   exact⟨O,z.sameBut f (cne y c e)⟩
  ·obtain⟨e,n,P,U,d⟩:=I.pin p W
   exact⟨(f.2 p.1 P).trans e,n,P,U,d⟩
 ·have F:X.fn x=ba:=by
   rcases hf with z|z
   ·exact z
   ·rw[z]at B;cases B
  obtain⟨c,hc⟩:=I.ok.has x (.inl B);obtain⟨O,z⟩:=I.cell x c hc;refine wpAny_storeName_cell I.ok.kind B hc z (λh' L f=>?_);obtain⟨oc,J,ip⟩:=id z;refine h {s with heap:=h'} ⟨I.ok,I.os,I.bare,⟨λb o e n G l=>?_,λb o e n G l=>?_,I.base.free,λb o e l=>?_,I.base.tups,I.base.frzs,I.base.tbls⟩,⟨m,hn.sameBut f (Dj (cne x c hc)),λj y S g t e3=>?_⟩,λy R e=>?_,I.free,I.freeC,λp W=>?_,cw ⟨oc,J,I.freeC x c hc⟩ f,by simpa using I.len⟩ ⟨c,f,.inr hc⟩
  ·exact(f.2 b (Au (Bb (Ak e) (I.ok.cab x c F hc)))).trans (I.base.keep b o e n G l)
  ·obtain⟨sl,g⟩:=I.base.slot b o e n G l
   exact⟨sl,(f.2 b (Au (Bb (Ak e) (I.ok.cab x c F hc)))).trans g⟩
  ·obtain⟨o',g⟩:=I.base.there b o e l
   exact⟨o',(f.2 b (Au (Bb (Ak e) (I.ok.cab x c F hc)))).trans g⟩
  ·by_cases D:j=i
   ·subst D
    rw[hi]at g;cases g;rw[Cd C]at t;cases t;exact⟨u,r,.inr ⟨.inl B,c,hc,L⟩⟩
   ·rw[Ba (Dj D)]at t
    obtain⟨T,r',q⟩:=hl j y S g t e3;refine⟨T,r',?_⟩;rcases q with q|⟨k,R,e,z'⟩
    ·exact .inl q
    ·refine .inr ⟨k,R,e,z'.sameBut f ?_⟩
     rintro rfl;exact D (D5 hN g (I.ok.inj _ _ _ e hc▸hi))
  ·by_cases K:R=c
   ·subst K;exact⟨_,L⟩
   ·obtain⟨w2,z2⟩:=I.cell y R e
    exact⟨w2,z2.sameBut f K⟩
  ·obtain⟨e,n,P,U,d⟩:=I.pin p W
   refine⟨(f.2 p.1 ?_).trans e,n,P,U,d⟩;intro q;rw[q,J]at e;have q':oc=p.2:=Cq e;exact d O (by rw[<-q'];exact ip)
def YH{M:Vl}{A:Bz}{E:Uq->Ae->Prop}{i:Nat}{x:Uv}{v:V}{u:Uq}{Q:Unit->Ae->Prop}(I:bS X aa σ H s)(c:X.N.Nodup)(hi:X.N[i]?=b3 x)(a:Loc X.env.scope x)(r:aV v u)(h:∀s',bS X aa (σ.set i (b3 v)) H s'->Q () s')(b:X.fn x=ba∨X.env.scope.names.lookup x=b3 .local:=by first|exact .inl rfl|exact .inr rfl|assumption):Us M A (storeName X.env x u) Q E s:=
 IV I c hi a r (λs' d _=>h s' d) b
def bS.call'{s':Ae}{ch:List Ur}(I:bS X aa σ H s)(f:s'.os=s.os)(u:Un (SM X.stack) ch H H' s.heap s'.heap)(a:QQ X.prog X.w H' s'.heap)(g:Lw s'.gens)(d:∀b∈ch,(b∈X.ex∨X.s₀.heap.objs.size<=b)/\b≠X.env.locals/\(∀x c,X.env.cells.lookup x=b3 c->c≠b)/\∀p∈X.pn++aa,p.1≠b):bS X aa σ H' s':=by obtain⟨h',g',d',t',o'⟩:=s';have e:o'=s.os:=f;subst e;exact I.call (g':=g') (t':=t') (d':=d') u a g d
end
abbrev XK:=Uq->Option Ur->Hp->Prop
abbrev St:=List (Option V)
abbrev VK:=V->Hp->Prop
abbrev TE:=St->Hp->VK->Prop
abbrev TT:=St->Hp->(Bool->Hp->Prop)->Prop
abbrev TA:=St->Hp->(List V->Hp->Prop)->Prop
structure M0 where
 nx:St->Hp->Prop
 rt:VK
 bk:St->Hp->Prop:=λ_ _=>False
 ct:St->Hp->Prop:=λ_ _=>False
abbrev TS:=M0->St->Hp->Prop
inductive EPi(X:Cx)(aa:List (Ur×Ve))(σ:St)(Q:VK)(u:Uq)(s':Ae):Prop
 |mk (v:_) (H':_) (h0:bS X aa σ H' s') (h1:aV v u) (h2:Q v H'):EPi X aa σ Q u s'
def EP(X:Cx)(aa:List (Ur×Ve))(σ:St)(Q:VK)(u:Uq)(s':Ae):Prop:=EPi X aa σ Q u s'
def TP(X:Cx)(aa:List (Ur×Ve))(σ:St)(Q:Bool->Hp->Prop)(b:Bool)(s':Ae):Prop:=∃H',bS X aa σ H' s'/\Q b H'
inductive APi(X:Cx)(aa:List (Ur×Ve))(σ:St)(Q:List V->Hp->Prop)(us:List Uq)(s':Ae):Prop
 |mk (vs:_) (H':_) (h0:bS X aa σ H' s') (h1:aY vs us) (h2:Q vs H'):APi X aa σ Q us s'
def AP(X:Cx)(aa:List (Ur×Ve))(σ:St)(Q:List V->Hp->Prop)(a:List Uq)(s':Ae):Prop:=APi X aa σ Q a s'
def SP(X:Cx)(aa:List (Ur×Ve))(D:M0)(f:Flow)(s':Ae):Prop:=
 match f with
 |.next=>∃a H',bS X aa a H' s'/\D.nx a H'
 |.brk=>∃a H',bS X aa a H' s'/\D.bk a H'
 |.cont=>∃a H',bS X aa a H' s'/\D.ct a H'
 |.ret u=>∃v a H',bS X aa a H' s'/\aV v u/\D.rt v H'
def PE(X:Cx)(e:Ux)(t:TE):Prop:=
 ∀(aa:List (Ur×Ve)) (s:Ae) (σ:St) (H:Hp) (Q:VK),bS X aa σ H s->t σ H Q->Us (Ut X.prog X.w) X.A (eval e X.env) (EP X aa σ Q) X.xe s
def PT(X:Cx)(e:Ux)(t:TT):Prop:=
 ∀(aa:List (Ur×Ve)) (s:Ae) (σ:St) (H:Hp) (Q:Bool->Hp->Prop),bS X aa σ H s->t σ H Q->Us (Ut X.prog X.w) X.A (isTrue e X.env (eval e X.env)) (TP X aa σ Q) X.xe s
def PW(X:Cx)(e:Ux)(t:TT):Prop:=
 ∀(a:Vk Uq) (aa:List (Ur×Ve)) (s:Ae) (σ:St) (H:Hp) (Q:Bool->Hp->Prop),bS X aa σ H s->t σ H Q->Us (Ut X.prog X.w) X.A (isTrue e X.env a) (TP X aa σ Q) X.xe s
def PW.pt{X:Cx}{e:Ux}{t:TT}(h:PW X e t):PT X e t:=h _
def PA(X:Cx)(es:List Ux)(t:TA):Prop:=
 ∀(pos:Pos) (aa:List (Ur×Ve)) (s:Ae) (σ:St) (H:Hp) (Q:List V->Hp->Prop),bS X aa σ H s->t σ H Q->Us (Ut X.prog X.w) X.A (spliced (Dx pos (Uu es X.env))) (AP X aa σ Q) X.xe s
def PS(X:Cx)(st:Vd)(t:TS):Prop:=
 ∀(aa:List (Ur×Ve)) (s:Ae) (σ:St) (H:Hp) (D:M0),bS X aa σ H s->t D σ H->Us (Ut X.prog X.w) X.A (exec st X.env) (SP X aa D) X.xe s
def WP(X:Cx)(st:List Vd)(t:TS):Prop:=
 ∀(aa:List (Ur×Ve)) (s:Ae) (σ:St) (H:Hp) (D:M0),bS X aa σ H s->t D σ H->Us (Ut X.prog X.w) X.A (execs st X.env) (SP X aa D) X.xe s
def Y3{α:Type}{t:Vk α}{Q b:α->Ae->Prop}{M:Vl}{A:Bz}{E:Uq->Ae->Prop}{s:Ae}(h:Us M A t Q E s)(c:∀a s,Q a s->b a s):Us M A t b E s:=Ax h c λ_ _ x=>x
section
variable{X:Cx}
def VC(i:Nat):TE:=λσ H Q=>∃v,σ[i]?=b3 (b3 v)/\Q v H
def tC(v:V):TE:=λ_ H Q=>Q v H
def CF{i:Nat}{x:Uv}{pos:Pos}(o:X.N[i]?=b3 x)(j:Vis X.env.scope x)(d:(x==("__debug__":Uv))=bb:=by decide)(f:(x==("__classdict__":Uv))=bb:=by decide):PE X (.Name x pos) (VC i):=by
 intro aa s σ H Q I h;obtain⟨v,e,h⟩:=h;obtain⟨m,k,hl⟩:=I.loc;obtain⟨u,r,l⟩:=hl i x v o e j;have b:EP X aa σ Q u s:=⟨v,H,I,r,h⟩;rcases l with⟨a,n⟩|⟨a,c,hc,g⟩
 ·exact Ll (Hi I.ok.kind a k n b) d
 ·rcases a with a|a
  ·exact Ll (wpAny_loadName_cell I.ok.kind a hc g b) d
  ·exact Ll (wpAny_loadName_free I.ok.kind a hc g b f) d
def ko{i j pos}:PE X (.Constant (.int i) j pos) (tC (.int i)):=λ_ _ _ H _ I h=>wpAny_Constant_int ⟨.int i,H,I.tok _,⟨_,rfl⟩,h⟩
def nY{b j pos}:PE X (.Constant (.bool b) j pos) (tC (.bl b)):=λ_ _ _ H _ I h=>Constant_bool ⟨.bl b,H,I,rfl,h⟩
def qt{j pos}:PE X (.Constant .none j pos) (tC .non):=λ_ _ _ H _ I h=>Constant_none ⟨.non,H,I,rfl,h⟩
def eG{x j pos}:PE X (.Constant (.str x) j pos) (tC (.str x)):=λ_ _ _ H _ I h=>Oy ⟨.str x,H,I.tok _,⟨_,rfl⟩,h⟩
def Gl(X:Cx)(x:Uv):Prop:=X.env.kindOf x=b3 .globalImplicit
def T1{E:Uq->Ae->Prop}{aa:List (Ur×Ve)}{s:Ae}{σ:St}{H:Hp}{x:Uv}{u:Uq}{pos:Pos}{Q:Uq->Ae->Prop}(I:bS X aa σ H s)(b:Gl X x)(a:X.mg x=b3 u)(h:Q u s)(c:(x==("__debug__":Uv))=bb:=by decide):Us (Ut X.prog X.w) X.A (eval (.Name x pos) X.env) Q E s:=
 Hf I.ok.kind b (Lx (by rw[I.ok.glob];exact I.mod.glob.keeps I.bk) a h) c
def P9{E:Uq->Ae->Prop}{aa:List (Ur×Ve)}{s:Ae}{σ:St}{H:Hp}{x:Uv}{u:Uq}{pos:Pos}{Q:Uq->Ae->Prop}(I:bS X aa σ H s)(d:Gl X x)(c:X.mg x=b4)(a:Bo x=b3 u)(h:Q u s)(b:x≠ "__name__":=by decide)(e:(x==("__debug__":Uv))=bb:=by decide):Us (Ut X.prog X.w) X.A (eval (.Name x pos) X.env) Q E s:=by obtain⟨f,h1,h2⟩:=I.mod.blt;exact Hf I.ok.kind d (Calls.loadGlobal_builtin (by rw[I.ok.glob];exact I.mod.glob.keeps I.bk) c (by rw[I.ok.blt];exact h1.keeps I.bk) ((h2 x b).trans a) h) e
def kr{x:Uv}{v:V}{u:Uq}{pos:Pos}(b:Gl X x)(a:X.mg x=b3 u)(r:aV v u)(c:(x==("__debug__":Uv))=bb:=by decide):PE X (.Name x pos) (tC v):=
 λ_ _ _ H _ I h=>T1 I b a ⟨v,H,I,r,h⟩ c
def gW{x:Uv}{v:V}{u:Uq}{pos:Pos}(d:Gl X x)(c:X.mg x=b4)(a:Bo x=b3 u)(r:aV v u)(b:x≠ "__name__":=by decide)(e:(x==("__debug__":Uv))=bb:=by decide):PE X (.Name x pos) (tC v):=
 λ_ _ _ H _ I h=>P9 I d c a ⟨v,H,I,r,h⟩ b e
variable{a b:Ux}{ta tb:TE}{pos:Pos}
def tB(t:TE):TT:=λσ H Q=>t σ H λx H1=>∃c,x=.bl c/\Q c H1
def oF{e:Ux}{t:TE}(h:PE X e t)(c:∀a,isTrue e X.env a=(do let v<-a;Ly e.pos;Of [v] (truthy v)):=by intro _;rfl):PT X e (tB t):=by intro aa s σ H Q I hw;refine isTrue_plain (Y3 (h aa s σ H _ I hw) λv s1 ⟨x,H1,f,b,q1⟩=>?_) (c _);obtain⟨d,rfl,q⟩:=q1;cases b;exact Ee ⟨H1,f,q⟩
variable{tA tB':TT}{rest:List Ux}
def tAnd(t u:TT):TT:=λσ H Q=>t σ H λc H1=>if c=ba then u σ H1 Q else Q bb H1
def tOr(t u:TT):TT:=λσ H Q=>t σ H λc H1=>if c=ba then Q ba H1 else u σ H1 Q
def tNot(t:TT):TT:=λσ H Q=>t σ H λc H1=>Q (!c) H1
def rn(b:PT X a tA):PW X (.BoolOp .And [a] pos) tA:=by
 intro d aa s σ H Q I h;refine isTrue_and (Y3 (b aa s σ H Q I h) λc s1 e=>?_);cases c with
 |true=>exact isTrue_and_nil e
 |false=>exact e
def jM(b:PT X a tA):PW X (.BoolOp .Or [a] pos) tA:=by
 intro d aa s σ H Q I h;refine isTrue_or (Y3 (b aa s σ H Q I h) λc s1 e=>?_);cases c with
 |false=>exact isTrue_or_nil e
 |true=>exact e
def kO(g:PT X a tA)(f:PW X (.BoolOp .And (b::rest) pos) tB'):PW X (.BoolOp .And (a::b::rest) pos) (tAnd tA tB'):=by
 intro e aa s σ H Q I h;refine isTrue_and (Y3 (g aa s σ H _ I h) λc s1 ⟨H1,d,q1⟩=>?_);cases c with
 |true=>exact f e aa s1 σ H1 Q d q1
 |false=>exact⟨H1,d,q1⟩
def iZ(g:PT X a tA)(f:PW X (.BoolOp .Or (b::rest) pos) tB'):PW X (.BoolOp .Or (a::b::rest) pos) (tOr tA tB'):=by
 intro e aa s σ H Q I h;refine isTrue_or (Y3 (g aa s σ H _ I h) λc s1 ⟨H1,d,q1⟩=>?_);cases c with
 |true=>exact⟨H1,d,q1⟩
 |false=>exact f e aa s1 σ H1 Q d q1
def iC(b:PT X a tA):PT X (.UnaryOp .Not a pos) (tNot tA):=by intro aa s σ H Q I h;exact isTrue_not (b aa s σ H (λc H1=>Q (!c) H1) I h)
def kg(ta tb:TE):TE:=λσ H Q=>ta σ H λx H1=>∃c,x=.bl c/\if c=ba then tb σ H1 Q else Q (.bl bb) H1
def tOrV(ta tb:TE):TE:=λσ H Q=>ta σ H λx H1=>∃c,x=.bl c/\if c=ba then Q (.bl ba) H1 else tb σ H1 Q
def qo(ta:TE):TE:=λσ H Q=>ta σ H λx H1=>∃c,x=.bl c/\Q (.bl (!c)) H1
def mL{op}{t:TE}(h:PE X a t):PE X (.BoolOp op [a] pos) t:=λaa s σ H Q I hw=>BoolOp_one (h aa s σ H Q I hw)
def pP(g:PE X a ta)(f:PE X (.BoolOp .And (b::rest) pos) tb):PE X (.BoolOp .And (a::b::rest) pos) (kg ta tb):=by
 intro aa s σ H Q I h;refine BoolOp_and (Y3 (g aa s σ H _ I h) λv s1 ⟨x,H1,d,e,q1⟩=>?_);obtain⟨c,rfl,q1⟩:=q1;cases e;refine Ee ?_;cases c with
 |true=>exact f aa s1 σ H1 Q d q1
 |false=>exact⟨.bl bb,H1,d,rfl,q1⟩
def iX(g:PE X a ta)(f:PE X (.BoolOp .Or (b::rest) pos) tb):PE X (.BoolOp .Or (a::b::rest) pos) (tOrV ta tb):=by
 intro aa s σ H Q I h;refine BoolOp_or (Y3 (g aa s σ H _ I h) λv s1 ⟨x,H1,d,e,q1⟩=>?_);obtain⟨c,rfl,q1⟩:=q1;cases e;refine Ee ?_;cases c with
 |false=>exact f aa s1 σ H1 Q d q1
 |true=>exact⟨.bl ba,H1,d,rfl,q1⟩
def oH(d:PE X a ta):PE X (.UnaryOp .Not a pos) (qo ta):=by intro aa s σ H Q I h;refine UnaryOp_ (Y3 (d aa s σ H _ I h) λv s1 ⟨x,H1,e,b,q1⟩=>?_);obtain⟨c,rfl,q1⟩:=q1;cases b;exact not_of (Ee ⟨.bl (!c),H1,e,rfl,q1⟩)
def tIf(t:TT)(ta tb:TE):TE:=λσ H Q=>t σ H λc H1=>if c=ba then ta σ H1 Q else tb σ H1 Q
def oN{c:Ux}(hc:PT X c tA)(g:PE X a ta)(f:PE X b tb):PE X (.IfExp c a b pos) (tIf tA ta tb):=by
 intro aa s σ H Q I h;refine wpAny_IfExp (Y3 (hc aa s σ H _ I h) λd s1 ⟨H1,e,q1⟩=>?_);cases d with
 |true=>exact g aa s1 σ H1 Q e q1
 |false=>exact f aa s1 σ H1 Q e q1
end
def XR(K:Ai)(H:Hp)(a:Ur)(xs:List V):Prop:=
 Rd H a (.lst xs)∨
  ∃(o:Ve) (b:Array Uq) (n:Nat),K.lookup a=b3 o/\o.cls=.type "list" /\o.dict=b4/\o.data=.seq b n/\b.size<=sizeLine/\aY xs b.toList
def nI:List V->Bool
 |.int _::_=>bb
 |_=>ba
def VE(K:Ai)(H:Hp)(a:Ur)(xs:List V):Prop:=
 H a=b3 (.tup xs)∨
  ∃(o:Ve) (b:Array Uq) (n:Nat),K.lookup a=b3 o/\o.cls=.type "tuple" /\o.data=.seq b n/\b.size<=sizeLine/\aY xs b.toList/\nI xs=ba
noncomputable def absV:Uq->Option V
 |.none=>b3 .non
 |.bool b=>b3 (.bl b)
 |.int i _=>b3 (.int i)
 |.str x _=>b3 (.str x)
 |.bytes b _=>b3 (.byt b)
 |.float b _=>b3 (.flt b)
 |.ref a=>b3 (.ref a)
 |.type n=>b3 (.ty n)
 |_=>b4
def aV.abs{x:V}{u:Uq}(r:aV x u):absV u=b3 x:=by
 cases x with
 |non=>cases r;rfl
 |bl _=>cases r;rfl
 |int _=>obtain⟨t,rfl⟩:=r;rfl
 |str _=>obtain⟨t,rfl⟩:=r;rfl
 |byt _=>obtain⟨t,rfl⟩:=r;rfl
 |flt _=>obtain⟨t,rfl⟩:=r;rfl
 |ref _=>cases r;rfl
 |ty _=>cases r;rfl
def aV.inj{x y:V}{u:Uq}(r:aV x u)(q:aV y u):x=y:=Cq (r.abs.symm.trans q.abs)
theorem aY.inj:∀{xs ys:List V}{a:List Uq},aY xs a->aY ys a->xs=ys
 |_,_,_,.nil,.nil=>rfl
 |_,_,_,.cons r t,.cons r' t'=>by rw[r.inj r',aY.inj t t']
section
variable{X:Cx}{aa:List (Ur×Ve)}{σ:St}{H:Hp}{s:Ae}{a:Ur}{xs ys:List V}
def XR.of{K:Ai}(h:H a=b3 (.lst xs)):XR K H a xs:=.inl (.inl h)
def VE.of{K:Ai}(h:H a=b3 (.tup xs)):VE K H a xs:=.inl h
def bS.list(I:bS X aa σ H s)(h:XR X.K H a xs):∃b:List Uq,aY xs b/\PlainL s.heap a b.toArray/\xs.length<=sizeLine:=by
 rcases h with h|⟨o,b,n,d,hc,f,c,hz,r⟩
 ·obtain⟨z,b,n,r,e⟩:=h.ok I.hok
  exact⟨b,r,⟨_,n,e,rfl,rfl,rfl⟩,z⟩
 ·refine ⟨b.toList,r,⟨o,n,I.kIn a o d,hc,f,by simpa using c⟩,?_⟩
  have e:=r.length;simp only[Eb]at e;lia
def bS.tuple(I:bS X aa σ H s)(h:VE X.K H a xs):∃b:List Uq,aY xs b/\IsTup s.heap a b.toArray/\xs.length<=sizeLine:=by
 rcases h with h|⟨o,b,n,d,hc,c,hz,r,_⟩
 ·obtain⟨z,b,r,p⟩:=I.hok a _ h
  exact⟨b,r,p,z⟩
 ·refine ⟨b.toList,r,⟨o,I.kIn a o d,hc,n,by simpa using c⟩,?_⟩
  have e:=r.length;simp only[Eb]at e;lia
def bS.list_inj(I:bS X aa σ H s)(h:XR X.K H a xs)(h':XR X.K H a ys):xs=ys:=by
 obtain⟨b,r,⟨o,n,e,_,_,d⟩,_⟩:=I.list h;obtain⟨its',r',⟨o',g,c,_,_,d'⟩,_⟩:=I.list h';rw[e]at c;cases c;rw[d]at d';injection d' with f _;have:b=its':=by simpa using congrArg Tt f
 subst this;exact r.inj r'
def bS.tuple_inj(I:bS X aa σ H s)(h:VE X.K H a xs)(h':VE X.K H a ys):xs=ys:=by
 obtain⟨b,r,⟨o,e,_,n,d⟩,_⟩:=I.tuple h;obtain⟨its',r',⟨o',c,_,g,d'⟩,_⟩:=I.tuple h';rw[e]at c;cases c;rw[d]at d';injection d' with f _;have:b=its':=by simpa using congrArg Tt f
 subst this;exact r.inj r'
end
abbrev Cx.wish(X:Cx)(E:Uq->Ae->Prop):Cx:={X with xe:=E}
abbrev Cx.nox(X:Cx):Cx:=X.wish λ_ _=>False
def Cx.Ok.wish{X:Cx}(ok:X.Ok)(E:Uq->Ae->Prop):(X.wish E).Ok:=
 ⟨ok.mod,ok.kind,ok.glob,ok.blt,ok.above,ok.inj,ok.has,ok.cab,ok.hd,ok.frames,ok.stk,ok.exf,ok.bs,ok.bsz,ok.noex,ok.exfs,ok.funs,ok.frf⟩
def Cx.Ok.unwish{X:Cx}{E:Uq->Ae->Prop}(ok:(X.wish E).Ok):X.Ok:=
 ⟨ok.mod,ok.kind,ok.glob,ok.blt,ok.above,ok.inj,ok.has,ok.cab,ok.hd,ok.frames,ok.stk,ok.exf,ok.bs,ok.bsz,ok.noex,ok.exfs,ok.funs,ok.frf⟩
section
variable{X:Cx}{aa:List (Ur×Ve)}{σ:St}{H:Hp}{s:Ae}{E:Uq->Ae->Prop}
def bS.wish(I:bS X aa σ H s)(E:Uq->Ae->Prop):bS (X.wish E) aa σ H s:=⟨I.ok.wish E,I.os,I.bare,I.base,I.loc,I.cell,I.free,I.freeC,I.pin,I.hok,I.len⟩
def bS.unwish(I:bS (X.wish E) aa σ H s):bS X aa σ H s:=⟨I.ok.unwish,I.os,I.bare,I.base,I.loc,I.cell,I.free,I.freeC,I.pin,I.hok,I.len⟩
def SP.unwish{D:M0}{f:Flow}{s':Ae}(h:SP (X.wish E) aa D f s'):SP X aa D f s':=by
 cases f with
 |next=>obtain⟨a,H',I,q⟩:=h;exact⟨a,H',I.unwish,q⟩
 |brk=>obtain⟨a,H',I,q⟩:=h;exact⟨a,H',I.unwish,q⟩
 |cont=>obtain⟨a,H',I,q⟩:=h;exact⟨a,H',I.unwish,q⟩
 |ret u=>obtain⟨v,a,H',I,r,q⟩:=h;exact⟨v,a,H',I.unwish,r,q⟩
def WP.nox{st:List Vd}{t:TS}(h:WP X.nox st t):WP X st t:=λaa s σ H D I hw=>
 Ax (h aa s σ H D (I.wish _) hw) (λ_ _ q=>q.unwish) λ_ _ z=>Gy z
end
section
variable{X:Cx}{st:Vd}{rest:List Vd}{t u:TS}{e:Ux}{te:TE}{pos:Pos}
def Wo:TS:=λD σ H=>D.nx σ H
def tSeq(t u:TS):TS:=λD σ H=>t {D with nx:=u D} σ H
def GI:WP X [] Wo:=λ_ _ σ H _ I h=>Gm ⟨σ,H,I,h⟩
def UQ(h1:PS X st t)(h2:WP X rest u):WP X (st::rest) (tSeq t u):=by
 intro aa s σ H D I h;refine Ju (Y3 (h1 aa s σ H {D with nx:=u D} I h) λf s1 q=>?_);cases f with
 |next=>
  obtain⟨a,H',b,q⟩:=q;exact h2 aa s1 a H' D b q
 |ret v=>exact q
 |brk=>exact q
 |cont=>exact q
def AE(h1:PS X st t):WP X [st] t:=by
 intro aa s σ H D I h;refine Ju (Y3 (h1 aa s σ H D I h) λf s1 q=>?_);cases f with
 |next=>exact Gm q
 |ret v=>exact q
 |brk=>exact q
 |cont=>exact q
def bS.quiet{aa:List (Ur×Ve)}{σ:St}{H:Hp}{s:Ae}(I:bS X aa σ H s):Ry X.env=bb:=by simp[Ry,I.ok.kind]
def Wp(te:TE):TS:=λD σ H=>te σ H λ_ H1=>D.nx σ H1
def L8(b:PE X e te)(a:Vc e b4 pos.line X.env=pure bb:=by rfl):PS X (.Expr e pos) (Wp te):=by intro aa s σ H D I h;exact wpAny_Expr_any (Y3 (b aa s σ H _ I h) λv s1 ⟨x,H1,c,d,q1⟩=>⟨σ,H1,c,q1⟩) I.quiet a
def tRet(te:TE):TS:=λD σ H=>te σ H D.rt
def CK(b:PE X e te):PS X (.Return (b3 e) pos) (tRet te):=by intro aa s σ H D I h;exact wpAny_Return_some (Y3 (b aa s σ H _ I h) λv s1 ⟨x,H1,c,a,q1⟩=>⟨x,σ,H1,c,a,q1⟩)
def tIfS(c:TT)(t u:TS):TS:=λD σ H=>c σ H λb H1=>if b=ba then t D σ H1 else u D σ H1
def Xb{c:Ux}{a b:List Vd}{tc:TT}(hc:PT X c tc)(g:WP X a t)(f:WP X b u):PS X (.If c a b pos) (tIfS tc t u):=by
 intro aa s σ H D I h;refine wpAny_If (Y3 (hc aa s σ H _ I h) λd s1 ⟨H1,e,q1⟩=>?_);cases d with
 |true=>exact g aa s1 σ H1 D e q1
 |false=>exact f aa s1 σ H1 D e q1
def gL:TS:=λ_ _ _=>False
def pD{a:List Vd}:WP X a gL:=λ_ _ _ _ _ _ h=>h.elim
end
abbrev TG:=V->St->Hp->(St->Hp->Prop)->Prop
abbrev TGs:=List V->St->Hp->(St->Hp->Prop)->Prop
def PG(X:Cx)(b:Ux)(t:TG):Prop:=
 ∀(aa:List (Ur×Ve)) (s:Ae) (σ:St) (H:Hp) (v:V) (u:Uq) (Q:St->Hp->Prop),bS X aa σ H s->aV v u->t v σ H Q->
  Us (Ut X.prog X.w) X.A (Gg b X.env u) (λ_ s'=>∃a H',bS X aa a H' s'/\Q a H') X.xe s
def PGs(X:Cx)(c:List Ux)(t:TGs):Prop:=
 ∀(aa:List (Ur×Ve)) (s:Ae) (σ:St) (H:Hp) (vs:List V) (b:List Uq) (Q:St->Hp->Prop),bS X aa σ H s->aY vs b->t vs σ H Q->
  Us (Ut X.prog X.w) X.A (Vi ((Va c X.env).map (·.2)) b) (λ_ s'=>∃a H',bS X aa a H' s'/\Q a H') X.xe s
section
variable{X:Cx}{pos:Pos}
def WH(i:Nat):TG:=λv σ H Q=>Q (σ.set i (b3 v)) H
def WD{i:Nat}{x:Uv}(c:X.N.Nodup)(hi:X.N[i]?=b3 x)(a:Loc X.env.scope x)(b:X.fn x=ba∨X.env.scope.names.lookup x=b3 .local:=by first|exact .inl rfl|exact .inr rfl|assumption):PG X (.Name x pos) (WH i):=by intro aa s σ H v u Q I r h;exact Iz (YH I c hi a r (λs' d=>⟨_,H,d,h⟩) b)
def gNil:TGs:=λvs σ H Q=>vs=[]/\Q σ H
def Wy(t:TG)(u:TGs):TGs:=λvs σ H Q=>∃v r,vs=v::r/\t v σ H λa H'=>u r a H' Q
def GG:PGs X [] gNil:=by intro aa s σ H vs a Q I r h;obtain⟨e,h⟩:=h;subst e;cases r;exact Ja ⟨σ,H,I,h⟩
def UP{e:Ux}{es:List Ux}{t:TG}{u:TGs}(h1:PG X e t)(h2:PGs X es u)(c:(Va (e::es) X.env).map (·.2)=Gg e X.env::(Va es X.env).map (·.2):=by rfl):PGs X (e::es) (Wy t u):=by
 intro aa s σ H vs i Q I r h;obtain⟨v,g,d,h⟩:=h;subst d;cases r with
 |cons r b=>
  rw[c];refine Ei (Y3 (h1 aa s σ H _ _ _ I r h) λ_ s1 ⟨a,H1,f,q1⟩=>?_);exact h2 aa s1 a H1 _ _ Q f b q1
def gTup(K:Ai)(n:Nat)(t:TGs):TG:=λv σ H Q=>∃a xs,v=.ref a/\VE K H a xs/\xs.length=n/\t xs σ H Q
def cO{es:List Ux}{k:Nat}{t:TGs}{n:Nat}(hc:X.calm=ba)(h:PGs X es t)(l:(Va es X.env).length=n:=by rfl)(c:(Va es X.env).findIdx? (·.1)=b4:=by rfl):PG X (.Tuple es k pos) (gTup X.K n t):=by intro aa s σ H v u Q I r hw;obtain⟨a,xs,m,j,hl,hw⟩:=hw;subst m;cases r;obtain⟨f,d,i,hz⟩:=I.tuple j;refine assign_Tuple_tuple (I.ok.hd hc) i (by simp[l,<-hl,d.length]) c λh' g=>?_;have p:bS X aa σ H {s with heap:=h'}:=I.kept (t':=s.toks) λb o e=>g b o (Au (Ak e)) e;exact h aa _ σ H xs _ Q p (by simpa using d) hw
def tAsg(te:TE)(g:TG):TS:=λD σ H=>te σ H λx H1=>g x σ H1 D.nx
def CJ{tg e:Ux}{te:TE}{g:TG}(d:PE X e te)(c:PG X tg g)(b:Gc [tg] e pos.line X.env=pure bb:=by rfl)(hw:Gd [tg] e X.env=pure b4:=by rfl)(h1:(Va [tg] X.env).map (·.2)=[Gg tg X.env]:=by rfl):PS X (.Assign [tg] e pos) (tAsg te g):=by intro aa s σ H D I h;refine wpAny_Assign_stores (Y3 (d aa s σ H _ I h) λv s1 ⟨x,H1,f,a,q1⟩=>?_) b hw;rw[h1];exact Y3 (c aa s1 σ H1 x v _ f a q1) λ_ s2 q=>q
def lj{i:Nat}{x:Uv}{e:Ux}{te:TE}{bh:Pos}(g:X.N.Nodup)(hi:X.N[i]?=b3 x)(b:Loc X.env.scope x)(f:PE X e te)(c:Vc e (b3 (.Name x bh)) pos.line X.env=pure bb:=by rfl)(d:X.fn x=ba∨X.env.scope.names.lookup x=b3 .local:=by first|exact .inl rfl|exact .inr rfl|assumption):PS X (.Assign [.Name x bh] e pos) (tAsg te (WH i)):=by intro aa s σ H D I h;refine wpAny_Assign_Name (Y3 (f aa s σ H _ I h) λv s1 ⟨y,H1,k,a,q1⟩=>?_) c;exact YH k g hi b a (λs2 j=>⟨_,H1,j,q1⟩) d
def tPar(i j:Nat)(ta:TA):TS:=λD σ H=>ta σ H λvs H1=>∃v w,vs=[v,w]/\D.nx ((σ.set i (b3 v)).set j (b3 w)) H1
def eJ{i j:Nat}{x y:Uv}{a b:Ux}{ta:TA}{g py pt:Pos}{kt k2 pt2}(hc:X.calm=ba)(r:X.N.Nodup)(hi:X.N[i]?=b3 x)(F:X.N[j]?=b3 y)(l:i≠j)(n:X.env.scope.names.lookup x=b3 .local)(m:X.env.scope.names.lookup y=b3 .local)(G:PA X [a,b] ta)(hw:Gd [.Tuple [.Name x g,.Name y py] kt pt] (.Tuple [a,b] k2 pt2) X.env=pure (b3 [x,y]))(E:Gc [.Tuple [.Name x g,.Name y py] kt pt] (.Tuple [a,b] k2 pt2) pos.line X.env=pure bb:=by rfl):PS X (.Assign [.Tuple [.Name x g,.Name y py] kt pt] (.Tuple [a,b] k2 pt2) pos) (tPar i j ta):=by
 intro aa s σ H D I h;rw[exec_Assign_arm];refine Aa (Dz ?_);rw[E];refine Aa (Ag ?_);rw[if_neg (by decide)];refine Aa (Tuple_ (Y3 (G _ aa s σ H _ I h) λu s1 ⟨vs,H1,O,B,q1⟩=>?_));obtain⟨v,w,J,q1⟩:=q1;subst J;obtain⟨d,c,rfl,z,f⟩:∃d c,u=[d,c]/\aV v d/\aV w c:=by
  cases B with
  |cons p q=>
   cases q with
   |cons p' C=>
    cases C;exact⟨_,_,rfl,p,p'⟩
 refine Cb ?_ (by show 2<=sizeLine;decide);have M:bS X aa σ H1 {s1 with heap:=s1.heap.push {cls:=.type "tuple",data:=.seq [d,c].toArray}}:=O.kept (t':=s1.toks) λb o e=>Ad _ e;rw[hw];refine Aa (Ag ?_);show Us (Ut X.prog X.w) X.A (do rule "assign.swapped-stores";let items<-Ki (.ref s1.heap.objs.size) 2 b4;Vi [λv=>Jk X.env y v,λv=>Jk X.env x v] items.reverse;pure Flow.next) _ _ _;refine Aa (Jb (Aa (Pz (items:= #[d,c]) (I.ok.hd hc) (Kj s1.heap _) λh' k=>?_)));have L:=M.kept (h':=h') (t':=s1.toks) λb o e=>k b o (Au (Ak e)) e;show Us _ _ (Vi [λv=>Jk X.env y v,λv=>Jk X.env x v] [c,d]>>=λ_=>pure Flow.next) _ _ _;refine Aa (Ei (Jl (YH L r F (.inl m) f (λs2 K=>?_) (.inr m))));refine Ei (Jl (YH K r hi (.inl n) z (λs3 t=>Ja (Ag ?_)) (.inr n)));rw[Er _ _ (Dj l)]at t;exact⟨_,H1,t,q1⟩
end
section
variable{X:Cx}{pos:Pos}
def oB(c:TT)(tb:TS):TS:=λD σ H=>∃W:Nat->St->Hp->Prop,(∃m,W m σ H)/\∀m σ H,W m σ H->
 c σ H λb H1=>if b=ba then∃N:St->Hp->Prop,(∀a H',N a H'->∃d,d<m/\W d a H')/\tb {D with nx:=N,ct:=N,bk:=D.nx} σ H1 else D.nx σ H1
def jS{c:Ux}{body:List Vd}{tc:TT}{tb:TS}(o:Oz (Ut X.prog X.w) X.A X.env X.xe)(hc:PT X c tc)(u:WP X body tb):PS X (.While c body [] pos) (oB tc tb):=by
 intro aa s σ H D I h;obtain⟨W,⟨m0,t⟩,turn⟩:=h;refine wpAny_While (codeAny_whileLoop (λn s'=>∃e H',bS X aa e H' s'/\W n e H') ?_ m0 ⟨σ,H,I,t⟩);rintro n s1 ⟨d,H1,x,r⟩;refine Fw o (Y3 (hc aa s1 d H1 _ x (turn n d H1 r)) λb s2 ⟨H2,q,q2⟩=>?_);cases b with
 |true=>
  obtain⟨N,p,q2⟩:=q2;rw[if_pos rfl];refine Fw o (Y3 (u aa s2 d H2 _ q q2) λf s3 q3=>?_);cases f with
  |next=>
   obtain⟨a,g,m,j⟩:=q3;obtain⟨k,l,i⟩:=p a g j;exact⟨k,l,a,g,m,i⟩
  |cont=>
   obtain⟨a,g,m,j⟩:=q3;obtain⟨k,l,i⟩:=p a g j;exact⟨k,l,a,g,m,i⟩
  |brk=>exact q3
  |ret v=>exact q3
 |false=>
  rw[if_neg Ch];exact Gm ⟨d,H2,q,q2⟩
end
structure It where
 go:Nat->Hp->Prop
 yld:Nat->Hp->V->Hp->Prop
 stop:Nat->Hp->Prop
def J1(X:Cx)(aa:List (Ur×Ve))(H:Hp)(b:Ur):Prop:=
 H b=b4/\b≠X.env.locals/\b∉X.fs/\(b∈X.ex∨X.s₀.heap.objs.size<=b)/\(∀x c,X.env.cells.lookup x=b3 c->c≠b)/\∀p∈X.pn++aa,p.1≠b
def bS.fpOk{X:Cx}{aa:List (Ur×Ve)}{σ:St}{H H':Hp}{s:Ae}{b:Ur}(I:bS X aa σ H s)(a:s.heap.objs.size<=b)(f:H' b=b4):J1 X aa H' b:=by
 refine⟨f,Hu (Bb I.lt a),I.nofs a,.inr (Dw I.sz a),λx c e z=>?_,λp d z=>?_⟩
 ·obtain⟨v,q⟩:=I.cell x c e
  exact absurd (Bb q.lt (by rw[z];exact a)) (Ci _)
 ·exact absurd (Bb (Ak (I.pin p d).1) (by rw[z];exact a)) (Ci _)
structure BF(P:Av)(w:Uy)(K:Ai)(tg:Ux)(J:It)(fp:List Ur)(it:Ur)(tn:Nat->Vb->Prop):Prop where
 mem:it∈fp
 obj:∀i h,tn i h->∀b∈fp,∃o,h.get? b=b3 o/\∀v,o.data≠ .cell v
 keep:∀i h h',tn i h->(∀b∈fp,∀o,h.get? b=b3 o->h'.get? b=b3 o)->tn i h'
 item:∀(X:Cx),X.prog=P->X.w=w->X.K=K->X.calm=ba->∀(i:Nat) (aa:List (Ur×Ve)) (s:Ae) (σ:St) (H:Hp) (E:Uq->Ae->Prop),bS X aa σ H s->(∀b∈fp,J1 X aa H b)->tn i s.heap->J.go i H->
  Us (Ut P w) X.A (pyNext (.ref it)) (λr s1=>∃u,r=b3 u∧
   Us (Ut P w) X.A (Go tg (.ref it) u) (λ_ s2=>∃x H',bS X aa σ H' s2/\aV x u/\J.yld i H x H'/\tn (i+1) s2.heap/\∀b∈fp,H' b=b4) E s1) E s
 done:∀(X:Cx),X.prog=P->X.w=w->X.K=K->X.calm=ba->∀(i:Nat) (aa:List (Ur×Ve)) (s:Ae) (σ:St) (H:Hp) (E:Uq->Ae->Prop),bS X aa σ H s->(∀b∈fp,J1 X aa H b)->tn i s.heap->J.stop i H->
  Us (Ut P w) X.A (pyNext (.ref it)) (λr s1=>r=b4/\bS X aa σ H s1) E s
 self:∀(A:Bz) (i:Nat) (s:Ae) (Q:Uq->Ae->Prop) (E:Uq->Ae->Prop),tn i s.heap->Q (.ref it) s->Us (Ut P w) A (Rz (.ref it)) Q E s
abbrev TI:=St->Hp->(It->Hp->Prop)->Prop
def PIE(X:Cx)(aa:List (Ur×Ve))(σ:St)(tg:Ux)(R:It->Hp->Prop)(a:Uq)(s2:Ae):Prop:=
 ∃(it:Ur) (fp:List Ur) (c:Nat->Vb->Prop) (J:It) (H':Hp),a=.ref it/\bS X aa σ H' s2/\BF X.prog X.w X.K tg J fp it c/\c 0 s2.heap/\(∀b∈fp,J1 X aa H' b)/\R J H'
def PI(X:Cx)(tg iter:Ux)(wi:TI):Prop:=
 ∀(aa:List (Ur×Ve)) (s:Ae) (σ:St) (H:Hp) (R:It->Hp->Prop),bS X aa σ H s->wi σ H R->
  Us (Ut X.prog X.w) X.A (eval iter X.env) (λv s1=>Us (Ut X.prog X.w) X.A (Rz v) (PIE X aa σ tg R) X.xe s1) X.xe s
def Wt{M:Vl}{A:Bz}{E:Uq->Ae->Prop}{s:Ae}{tg:Ux}{it:Ur}{u:Uq}{o:Ve}{n:String}{vs:Array Uq}{Q:Unit->Ae->Prop}(b:s.heap.get? it=b3 o)(hc:o.cls= .type n)(d:o.data= .fields vs)(c:["enumerate","zip","dict_itemiterator","dict_reverseitemiterator","odict_iterator","itertools.zip_longest","itertools.pairwise"].contains n=bb)(a:Q () s):Us M A (Go tg (.ref it) u) Q E s:=by
  unfold Go;cases tg<;>first
    |exact Ag a
    |(cases u<;>first
        |exact Ag a
        | (refine Aa (wpAny_load b ?_)
           rw[hc,d];show Us M A (if(["enumerate","zip","dict_itemiterator","dict_reverseitemiterator","odict_iterator","itertools.zip_longest","itertools.pairwise"].contains n&&vs[0]? ==b3 (rawInt _))=ba then _ else _) Q E s;rw[if_neg (by intro h;rw[c,Bool.false_and]at h;cases h)];exact Ag a))
def Itl(K:Ai)(a:Ur):It:=
 ⟨λi H=>∃xs x,XR K H a xs/\xs[i]?=b3 x,λi H x H'=>H'=H/\∀xs,XR K H a xs->xs[i]?=b3 x,λi H=>∃xs,XR K H a xs/\xs.length<=i⟩
def Itt(K:Ai)(a:Ur):It:=
 ⟨λi H=>∃xs x,VE K H a xs/\xs[i]?=b3 x,λi H x H'=>H'=H/\∀xs,VE K H a xs->xs[i]?=b3 x,λi H=>∃xs,VE K H a xs/\xs.length<=i⟩
def Itr(lo:Int)(n:Nat):It:=⟨λi _=>i<n,λi H x H'=>H'=H/\x=.int (lo+i),λi _=>n<=i⟩
def nq{P:Av}{w:Uy}{K:Ai}{tg:Ux}(a it:Ur):BF P w K tg (Itl K a) [it] it (λi h=>h.IsListIter it a i) where
 mem:=by simp
 obj:=λi h st b f=>by
  have e:b=it:=by simpa using f
  subst e;obtain⟨o,e,c,d⟩:=st;exact⟨o,e,λv z=>by rw[d]at z;cases z⟩
 keep:=λi h h' st k=>st.at λo e=>k it (by simp) o e
 item:=by intro X t hw y hc i aa s σ H E I l st r;subst t hw y;obtain⟨xs,x,j,q⟩:=r;obtain⟨n,m,p,hz⟩:=I.list j;obtain⟨u,J,F⟩:=m.get q;obtain⟨C,f1,f2,f3,B,A⟩:=l it (by simp);refine Mn st p.isList (x:=u) (by simpa using J) λh' g D=>?_;have M:bS X aa σ H {s with heap:=h'}:=I.turned (t':=s.toks) (λb o f e=>(D.2 b f).trans e) C f1 f3 B A;obtain⟨o,e,c,d⟩:=id g;exact⟨u,rfl,Wt (s:={s with heap:=h'}) e c d (by decide) ⟨x,H,M,F,⟨rfl,λys G=>by rw[I.list_inj G j];exact q⟩,g,λb f=>(l b f).1⟩⟩
 done:=by intro X t hw y hc i aa s σ H E I l st r;subst t hw y;obtain⟨xs,j,q⟩:=r;obtain⟨n,m,p,hz⟩:=I.list j;obtain⟨C,f1,f2,f3,B,A⟩:=l it (by simp);have hl:=m.length;exact Ms (I.ok.hd hc) st p.isList (by simp;lia) λh' L=>⟨rfl,I.turned (t':=s.toks) (λb o f e=>L b o f e) C f1 f3 B A⟩
 self:=λ_ _ _ _ _ st h=>wpAny_pyIter_listiter st h
def C3{P:Av}{w:Uy}{K:Ai}{tg:Ux}(a it:Ur):BF P w K tg (Itt K a) [it] it (λi h=>h.IsTupleIter it a i) where
 mem:=by simp
 obj:=λi h st b g=>by
  have e:b=it:=by simpa using g
  subst e;obtain⟨o,e,c,d⟩:=st;exact⟨o,e,λv z=>by rw[d]at z;cases z⟩
 keep:=λi h h' st k=>st.at λo e=>k it (by simp) o e
 item:=by intro X t hw y hc i aa s σ H E I m st r;subst t hw y;obtain⟨xs,x,l,q⟩:=r;obtain⟨f,n,p,hz⟩:=I.tuple l;obtain⟨u,J,F⟩:=n.get q;obtain⟨C,f1,f2,f3,B,A⟩:=m it (by simp);refine wpAny_pyNext_tuple_item st (show s.heap.IsTuple a f.toArray from p) (x:=u) (by simpa using J) λh' j D=>?_;have M:bS X aa σ H {s with heap:=h'}:=I.turned (t':=s.toks) (λb o g e=>(D.2 b g).trans e) C f1 f3 B A;obtain⟨o,e,c,d⟩:=id j;exact⟨u,rfl,Wt (s:={s with heap:=h'}) e c d (by decide) ⟨x,H,M,F,⟨rfl,λys G=>by rw[I.tuple_inj G l];exact q⟩,j,λb g=>(m b g).1⟩⟩
 done:=by intro X t hw y hc i aa s σ H E I m st r;subst t hw y;obtain⟨xs,l,q⟩:=r;obtain⟨f,n,p,hz⟩:=I.tuple l;obtain⟨C,f1,f2,f3,B,A⟩:=m it (by simp);have hl:=n.length;exact wpAny_pyNext_tuple_end (I.ok.hd hc) st (show s.heap.IsTuple a f.toArray from p) (by simp;lia) λh' L=>⟨rfl,I.turned (t':=s.toks) (λb o g e=>L b o g e) C f1 f3 B A⟩
 self:=λ_ _ _ _ _ st h=>wpAny_pyIter_tupleiter st h
def C2{P:Av}{w:Uy}{K:Tu}{tg:Ux}(it:Ur)(lo:Int)(n:Nat):BF P w K tg (Itr lo n) [it] it (λi h=>IsRangeIter h it (lo+(i:Nat)*1) ((n:Int)-(i:Nat)) 1) where
 mem:=by simp
 obj:=λi h st b a=>by
  have e:b=it:=by simpa using a
  subst e;exact⟨_,st,λv z=>by have z':Data.fields _=Data.cell v:=z;cases z'⟩
 keep:=λi h h' st k=>k it (by simp) _ st
 item:=by intro X g hw j hc i aa s σ H E I d st f;subst g hw j;obtain⟨p,f1,f2,f3,m,l⟩:=d it (by simp);have W:=Walks.range (prog:=X.prog) (w:=X.w) (I.ok.hd hc) it lo 1 n;refine W.item i s _ _ f st λv h' tk q c kk=>?_;obtain⟨t,rfl⟩:=q;have u:bS X aa σ H {s with heap:=h',toks:=tk}:=I.turned (λb o a e=>kk b o (by simpa using a) e) p f1 f3 m l;refine⟨_,rfl,Wt (s:={s with heap:=h',toks:=tk}) (n:= "range_iterator") c rfl rfl (by decide) ⟨.int (lo+i),H,u,⟨t,?_⟩,⟨rfl,rfl⟩,c,λb a=>(d b a).1⟩⟩;rw[Int.mul_one]
 done:=by intro X g hw j hc i aa s σ H E I d st f;subst g hw j;obtain⟨p,f1,f2,f3,m,l⟩:=d it (by simp);exact wpAny_pyNext_range_end (I.ok.hd hc) st (by have:n<=i:=f;lia) λh' r=>⟨rfl,I.turned (t':=s.toks) (λb o a e=>r b o a e) p f1 f3 m l⟩
 self:=λ_ _ _ _ _ st h=>wpAny_pyIter_rangeiter st h
section
variable{X:Cx}{tg:Ux}
def Xo(K:Ai)(tl:TE):TI:=λσ H R=>tl σ H λx H1=>∃a,x=.ref a/\(∃xs,XR K H1 a xs)/\R (Itl K a) H1
def iTup(K:Ai)(tl:TE):TI:=λσ H R=>tl σ H λx H1=>∃a,x=.ref a/\(∃xs,VE K H1 a xs)/\R (Itt K a) H1
def pQ{l:Ux}{tl:TE}(hl:PE X l tl):PI X tg l (Xo X.K tl):=by
 intro aa s σ H R I h;refine Y3 (hl aa s σ H _ I h) λv s1 ⟨x,H1,c,d,q1⟩=>?_;obtain⟨a,e,⟨xs,g⟩,q⟩:=q1;subst e;cases d;obtain⟨f,j,p,hz⟩:=c.list g;refine Fx p.isList ?_;refine⟨s1.heap.objs.size,[s1.heap.objs.size],_,_,H1,rfl,c.kept (t':=s1.toks) λb o e=>Ad _ e,nq a _,⟨_,An _ rfl,rfl,rfl⟩,λb i=>?_,q⟩;have e:b=s1.heap.objs.size:=by simpa using i
 subst e;exact c.fpOk (Ao _) (c.hok.fresh (Ao _))
def Xq{l:Ux}{tl:TE}(hl:PE X l tl):PI X tg l (iTup X.K tl):=by
 intro aa s σ H R I h;refine Y3 (hl aa s σ H _ I h) λv s1 ⟨x,H1,c,f,q1⟩=>?_;obtain⟨a,e,⟨xs,g⟩,q⟩:=q1;subst e;cases f;obtain⟨d,j,p,hz⟩:=c.tuple g;refine Ig (show s1.heap.IsTuple a d.toArray from p) ?_;refine⟨s1.heap.objs.size,[s1.heap.objs.size],_,_,H1,rfl,c.kept (t':=s1.toks) λb o e=>Ad _ e,C3 a _,⟨_,An _ rfl,rfl,rfl⟩,λb i=>?_,q⟩;have e:b=s1.heap.objs.size:=by simpa using i
 subst e;exact c.fpOk (Ao _) (c.hok.fresh (Ao _))
def EC{aa:List (Ur×Ve)}{σ:St}{H:Hp}{s:Ae}{R:It->Hp->Prop}{E:Uq->Ae->Prop}{lo hi:Int}{t u v:Vm}{tk:Nat}(I:bS X aa σ H s)(h1: -(2 ^ 62)<=lo)(h2:lo<2 ^ 62)(f: -(2 ^ 62)<=hi)(d:hi<2 ^ 62)(q:R (Itr lo (hi-lo).toNat) H):Us (Ut X.prog X.w) X.A (Rz (.ref s.heap.objs.size)) (PIE X aa σ tg R) E {s with heap:=s.heap.push {cls:=.type "range",data:=.fields #[.int lo t,.int hi u,.int 1 v]},toks:=tk}:=by
 refine wpAny_pyIter_range (Ui ..) (small_one h1 h2 f d) ?_;have a:bS X aa σ H {s with heap:=s.heap.push {cls:=.type "range",data:=.fields #[.int lo t,.int hi u,.int 1 v]},toks:=tk}:=I.kept λb o e=>Ad _ e;refine⟨(s.heap.push {cls:=.type "range",data:=.fields #[.int lo t,.int hi u,.int 1 v]}).objs.size,[(s.heap.push {cls:=.type "range",data:=.fields #[.int lo t,.int hi u,.int 1 v]}).objs.size],_,_,H,rfl,a.kept (t':=tk) λb o e=>Ad _ e,C2 _ lo (hi-lo).toNat,?_,λb c=>?_,q⟩
 ·have h : lo + ((0 : Nat) : Int) * 1 = lo := by simp
  have g:(((hi-lo).toNat:Nat):Int)-((0:Nat):Int)=Ih lo hi 1:=by rw[rangeSize_one];split<;>lia
  show IsRangeIter _ _ (lo+((0:Nat):Int)*1) ((((hi-lo).toNat:Nat):Int)-((0:Nat):Int)) 1;rw[h,g];exact An _ rfl
 ·have e : b = (s.heap.push { cls := .type "range",data := .fields #[.int lo t,.int hi u,.int 1 v] }).objs.size := by simpa using c
  subst e;exact a.fpOk (Ao _) (a.hok.fresh (Ao _))
def lu(ta:TA):TI:=λσ H R=>ta σ H λvs H1=>∃j:Int,vs=[.int j]/\ -(2 ^ 62)<=j/\j<2 ^ 62/\R (Itr 0 j.toNat) H1
def kM(ta:TA):TI:=λσ H R=>ta σ H λvs H1=>∃i j:Int,vs=[.int i,.int j]/\(-(2 ^ 62)<=i/\i<2 ^ 62/\ -(2 ^ 62)<=j/\j<2 ^ 62)/\R (Itr i (j-i).toNat) H1
def lw{a:Ux}{ta:TA}{p pos:Pos}(g:Gl X "range")(f:X.mg "range"=b4)(i:PA X [a] ta)(d:Uu [a] X.env=[(bb,eval a X.env)]:=by rfl):PI X tg (.Call (.Name "range" p) [a] [] pos) (lu ta):=by
 intro aa s σ H R I h;refine Call_ (P9 I g f boot_range (Ej (Y3 (i pos aa s σ H _ I h) λl s1 ⟨vs,H1,k,c,q1⟩=>?_) d rfl));obtain⟨j,e,q1,q2,q⟩:=q1;subst e;cases c with
 |cons r b=>
  cases b;obtain⟨t,rfl⟩:=r;exact call_range_1 (EC k (by lia) (by lia) q1 q2 (by simpa using q))
def jw{a b:Ux}{ta:TA}{p pos:Pos}(m:Gl X "range")(l:X.mg "range"=b4)(n:PA X [a,b] ta)(k:Uu [a,b] X.env=[(bb,eval a X.env),(bb,eval b X.env)]:=by rfl)(c:Uu [b] X.env=[(bb,eval b X.env)]:=by rfl):PI X tg (.Call (.Name "range" p) [a,b] [] pos) (kM ta):=by
 intro aa s σ H R I h;refine Call_ (P9 I m l boot_range (Ej (Y3 (n pos aa s σ H _ I h) λu s1 ⟨vs,H1,o,f,q1⟩=>?_) (by rw[k,c]) (by rw[c];rfl)));obtain⟨i,j,e,⟨q1,q2,q3,g⟩,q⟩:=q1;subst e;cases f with
 |cons r d=>
  cases d with
  |cons r' d=>
   cases d;obtain⟨t,rfl⟩:=r;obtain⟨t',rfl⟩:=r';exact call_range_2 (EC o q1 q2 q3 g q)
def tFor(wi:TI)(g:TG)(tb:TS):TS:=λD σ H=>wi σ H λJ H1=>∃W:Nat->Nat->St->Hp->Prop,(∃m,W 0 m σ H1)/\∀i m σ H,W i m σ H->
 (J.stop i H/\D.nx σ H)∨(J.go i H/\∃N:St->Hp->Prop,(∀a H',N a H'->∃c,c<m/\W (i+1) c a H')/\∀x H',J.yld i H x H'->g x σ H' λb H2=>tb {D with nx:=N,ct:=N,bk:=D.nx} b H2)
def NN(fp:List Ur)(h:Vb):List (Ur×Ve):=fp.filterMap λb=>(h.get? b).map λo=>(b,o)
def W8{fp:List Ur}{h:Vb}{b:Ur}{o:Ve}(a:b∈fp)(e:h.get? b=b3 o):(b,o)∈NN fp h:=Ii.mpr ⟨b,a,by rw[e];rfl⟩
def gR{fp:List Ur}{h:Vb}{p:Ur×Ve}(a:p∈NN fp h):p.1∈fp/\h.get? p.1=b3 p.2:=by
 obtain⟨b,c,e⟩:=Ii.mp a;cases q:h.get? b with
 |none=>rw[q]at e;cases e
 |some o=>
  rw[q]at e;have d:(b,o)=p:=Cq e;subst d;exact⟨c,q⟩
def bS.pinned{aa:List (Ur×Ve)}{σ:St}{H:Hp}{s:Ae}{fp:List Ur}(I:bS X aa σ H s)(h:∀b∈fp,J1 X aa H b)(g:∀b∈fp,∃o,s.heap.get? b=b3 o/\∀v,o.data≠ .cell v):bS X (aa++NN fp s.heap) σ H s:=
 I.pins_of λp f=>(Db.mp f).elim (λz=>I.pin p (Be _ z)) λz=>by obtain⟨a,e⟩:=gR z;obtain⟨i,f1,f2,_⟩:=h p.1 a;obtain⟨o,c,d⟩:=g p.1 a;rw[e]at c;cases c;exact⟨e,i,f1,f2,d⟩
def bS.unpinned{aa pl:List (Ur×Ve)}{σ:St}{H:Hp}{s:Ae}(I:bS X (aa++pl) σ H s):bS X aa σ H s:=I.pins_of λp a=>I.pin p (Be _ (Bf _ a))
def cU{iter:Ux}{body:List Vd}{wi:TI}{g:TG}{tb:TS}{pos:Pos}(C:Oz (Ut X.prog X.w) X.A X.env X.xe)(hc:X.calm=ba)(hi:PI X tg iter wi)(hg:PG X tg g)(k:WP X body tb)(hs:∀x,Uz iter X.env x=pure x:=by intro _;rfl):PS X (.For tg iter body [] pos) (tFor wi g tb):=by
 intro aa s σ H D I h;refine wpAny_For (Y3 (hi aa s σ H _ I h) λv s1 h1=>Y3 h1 λitv s2 h2=>?_) hs;obtain⟨it,fp,P,J,H2,e,I2,T,K,f2,W,⟨m0,Z⟩,turn⟩:=h2;subst e;have stat:∀{H':Hp},(∀b∈fp,H' b=b4)->∀b∈fp,J1 X aa H' b:=λhn b k=>⟨hn b k,(f2 b k).2⟩;refine codeAny_forLoop_any (λn s'=>∃i j H',bS X aa j H' s'/\P i s'.heap/\(∀b∈fp,H' b=b4)/\W i n j H') ?_ m0 ⟨0,σ,H2,I2,K,λb k=>(f2 b k).1,Z⟩;rintro n s3 ⟨i,c,F,Q,z,E,Y⟩;rcases turn i n c F Y with⟨y,qn⟩|⟨go,N,hN,step⟩
 ·refine Fw C (Y3 (T.done X rfl rfl rfl hc i aa s3 c F X.xe Q (stat E) z y) λr s4 ⟨L,I4⟩ => ?_)
  subst L;exact Gm ⟨c,F,I4,qn⟩
 ·refine Fw C (Y3 (T.item X rfl rfl rfl hc i aa s3 c F X.xe Q (stat E) z go) λr s4 ⟨u,L,h4⟩ => ?_)
  subst L;refine Fw C (Y3 h4 λ_ s5 ⟨x,R,I5,r5,S,t,M⟩=>?_);have O:=I5.pinned (stat M) (T.obj _ _ t);refine Fw C (Y3 (hg _ s5 c R x u _ O r5 (step x R S)) λ_ s6 ⟨G,H6,I6,q6⟩=>?_);refine Fw C (Y3 (k _ s6 G H6 _ I6 q6) λf s7 q=>?_);have again:∀{a:St}{p:Hp},bS X (aa++NN fp s5.heap) a p s7->N a p->∃m,m<n/\∃i j H',bS X aa j H' s7/\P i s7.heap/\(∀b∈fp,H' b=b4)/\W i m j H':=λ{a p} l B=>by obtain⟨m',hm,V⟩:=hN a p B;refine⟨m',hm,i+1,a,p,l.unpinned,T.keep _ _ _ t λb k o e=>(l.pin (b,o) (Be _ (Be _ (W8 k e)))).1,λb k=>?_,V⟩;obtain⟨o,e,d⟩:=T.obj _ _ t b k;exact(l.pin (b,o) (Be _ (Be _ (W8 k e)))).2.1
  cases f with
  |next=>obtain⟨a,p,l,B⟩:=q;exact again l B
  |cont=>obtain⟨a,p,l,B⟩:=q;exact again l B
  |brk=>obtain⟨a,p,l,q⟩:=q;exact⟨a,p,l.unpinned,q⟩
  |ret v=>obtain⟨U,a,p,l,r7,q⟩:=q;exact⟨U,a,p,l.unpinned,r7,q⟩
end
abbrev R2:=V->V->Hp->VK->Prop
def WM(X:Cx)(f:Uq->Uq->Vk Uq)(r:R2):Prop:=
 ∀(aa:List (Ur×Ve)) (s:Ae) (σ:St) (H:Hp) (x y:V) (v u:Uq) (Q:VK),bS X aa σ H s->aV x v->aV y u->r x y H Q->
  Us (Ut X.prog X.w) X.A (f v u) (EP X aa σ Q) X.xe s
def UnR(X:Cx)(f:Uq->Vk Uq)(r:V->Hp->VK->Prop):Prop:=
 ∀(aa:List (Ur×Ve)) (s:Ae) (σ:St) (H:Hp) (x:V) (v:Uq) (Q:VK),bS X aa σ H s->aV x v->r x H Q->
  Us (Ut X.prog X.w) X.A (f v) (EP X aa σ Q) X.xe s
def Z4(X:Cx)(f:Uq)(r:List V->Hp->VK->Prop):Prop:=
 ∀(aa:List (Ur×Ve)) (s:Ae) (σ:St) (H:Hp) (xs:List V) (a:List Uq) (Q:VK),bS X aa σ H s->aY xs a->r xs H Q->
  Us (Ut X.prog X.w) X.A (call f a) (EP X aa σ Q) X.xe s
def tOp(r:R2)(ta tb:TE):TE:=λσ H Q=>ta σ H λx H1=>tb σ H1 λy H2=>r x y H2 Q
def tUn(r:V->Hp->VK->Prop)(ta:TE):TE:=λσ H Q=>ta σ H λx H1=>r x H1 Q
def rI(C:Int->Int->Prop)(g:Int->Int->V):R2:=λx y H Q=>∃i j,x=.int i/\y=.int j/\C i j/\Q (g i j) H
def CM(g:Int->Int->V):R2:=λx y H Q=>∃i j,x=.int i/\y=.int j/\Q (g i j) H
def rU(g:Int->V):V->Hp->VK->Prop:=λx H Q=>∃i,x=.int i/\Q (g i) H
section
variable{X:Cx}{a b c:Ux}{ta tb tc:TE}{pos:Pos}
def binT(k:PE X a ta)(j:PE X b tb){aa:List (Ur×Ve)}{s:Ae}{σ:St}{H:Hp}{R:V->V->Hp->Prop}(I:bS X aa σ H s)(h:ta σ H λx H1=>tb σ H1 λy H2=>R x y H2){Q:Uq->Ae->Prop}{f:Uq->Uq->Vk Uq}(i:∀v u s2 x y H2,bS X aa σ H2 s2->aV x v->aV y u->R x y H2->Us (Ut X.prog X.w) X.A (f v u) Q X.xe s2):Us (Ut X.prog X.w) X.A (eval a X.env) (λv d=>Us (Ut X.prog X.w) X.A (eval b X.env) (λu c=>Us (Ut X.prog X.w) X.A (f v u) Q X.xe c) X.xe d) X.xe s:=by refine Y3 (k aa s σ H _ I h) λv s1 ⟨x,H1,m,g,q1⟩=>?_;refine Y3 (j aa s1 σ H1 _ m q1) λu s2 ⟨y,H2,l,e,q2⟩=>?_;exact i v u s2 x y H2 l g e q2
def Xi{op:Operator}{r:R2}(e:WM X (Fo op) r)(g:PE X a ta)(f:PE X b tb):PE X (.BinOp a op b pos) (tOp r ta tb):=by intro aa s σ H Q I h;exact wpAny_BinOp (binT g f I h λv u s2 x y H2 i d c q=>e aa s2 σ H2 x y v u Q i d c q)
def mf{op:UnaryOp}{r:V->Hp->VK->Prop}(c:UnR X (unaryOp op) r)(d:PE X a ta):PE X (.UnaryOp op a pos) (tUn r ta):=by intro aa s σ H Q I h;exact UnaryOp_ (Y3 (d aa s σ H _ I h) λv s1 ⟨x,H1,e,b,q1⟩=>c aa s1 σ H1 x v Q e b q1)
def opI{f:Uq->Uq->Vk Uq}{C:Int->Int->Prop}{g:Int->Int->Int}(rule:∀(i j:Int) (t u:Vm) (s:Ae) (Q:Uq->Ae->Prop) (E:Uq->Ae->Prop),C i j->Q (.int (g i j) s.toks) {s with toks:=s.toks+1}->Us (Ut X.prog X.w) X.A (f (.int i t) (.int j u)) Q E s):WM X f (rI C λi j=>.int (g i j)):=by intro aa s σ H x y v u Q I b a h;obtain⟨i,j,rfl,rfl,hc,q⟩:=h;obtain⟨t,rfl⟩:=b;obtain⟨t',rfl⟩:=a;exact rule i j t t' s _ _ hc ⟨.int (g i j),H,I.tok _,⟨_,rfl⟩,q⟩
def opI0{f:Uq->Uq->Vk Uq}{g:Int->Int->Int}(rule:∀(i j:Int) (t u:Vm) (s:Ae) (Q:Uq->Ae->Prop) (E:Uq->Ae->Prop),Q (.int (g i j) s.toks) {s with toks:=s.toks+1}->Us (Ut X.prog X.w) X.A (f (.int i t) (.int j u)) Q E s):WM X f (CM λi j=>.int (g i j)):=by intro aa s σ H x y v u Q I b a h;obtain⟨i,j,rfl,rfl,q⟩:=h;obtain⟨t,rfl⟩:=b;obtain⟨t',rfl⟩:=a;exact rule i j t t' s _ _ ⟨.int (g i j),H,I.tok _,⟨_,rfl⟩,q⟩
def opB0{f:Uq->Uq->Vk Uq}{g:Int->Int->Bool}(rule:∀(i j:Int) (t u:Vm) (s:Ae) (Q:Uq->Ae->Prop) (E:Uq->Ae->Prop),Q (.bool (g i j)) s->Us (Ut X.prog X.w) X.A (f (.int i t) (.int j u)) Q E s):WM X f (CM λi j=>.bl (g i j)):=by intro aa s σ H x y v u Q I b a h;obtain⟨i,j,rfl,rfl,q⟩:=h;obtain⟨t,rfl⟩:=b;obtain⟨t',rfl⟩:=a;exact rule i j t t' s _ _ ⟨.bl (g i j),H,I,rfl,q⟩
def CDiv(i j:Int):Prop:=0<j/\j<1073741824
def CPow(i j:Int):Prop:=0<=j/\j<=1000000/\i.natAbs<2 ^ 64
def CMul(i j:Int):Prop:=(-(2 ^ 64)<i/\i<2 ^ 64)∨(-(2 ^ 64)<j/\j<2 ^ 64)
def CMul.ok{i j:Int}(h:CMul i j):IntMulOk i j:=by
 rcases h with⟨h1,h2⟩|⟨h1,h2⟩
 ·exact .of_left (intBits_le_64 h1 h2)
 ·exact .of_right (intBits_le_64 h1 h2)
def zM3:WM X (Fo .Add) (CM λi j=>.int (i+j)):=opI0 λ_ _ _ _ _ _ _ q=>add_int q
def QF:WM X (Fo .Sub) (CM λi j=>.int (i-j)):=opI0 λ_ _ _ _ _ _ _ q=>sub_int q
def mW:WM X (Fo .Mult) (rI CMul λi j=>.int (i*j)):=opI λ_ _ _ _ _ _ _ hc q=>mul_int q hc.ok
def Zh:WM X (Fo .FloorDiv) (rI CDiv λi j=>.int (i/j)):=opI λi j _ _ _ _ _ hc q=>by have h1:(0:Int)<j:=hc.1;have h2:j<1073741824:=hc.2;exact floordiv_int (by lia) (by rw[Int.fdiv_eq_ediv_of_nonneg i (by lia)];exact q) (.inl (PyProof.noPylong_small (by lia)))
def RY:WM X (Fo .Mod) (rI (λ_ j=>0<j) λi j=>.int (i % j)):=opI λi j _ _ _ _ _ hc q=>by have h1:(0:Int)<j:=hc;exact mod_int' (by lia) (by rw[Int.fmod_eq_emod_of_nonneg i (by lia)];exact q)
def nO:WM X (Fo .Pow) (rI CPow λi j=>.int (i ^ j.toNat)):=opI λ_ _ _ _ _ _ _ hc q=>pow_int_small hc.1 hc.2.1 hc.2.2 q
def unI{f:Uq->Vk Uq}{g:Int->Int}(rule:∀(i:Int) (t:Vm) (s:Ae) (Q:Uq->Ae->Prop) (E:Uq->Ae->Prop),Q (.int (g i) s.toks) {s with toks:=s.toks+1}->Us (Ut X.prog X.w) X.A (f (.int i t)) Q E s):UnR X f (rU λi=>.int (g i)):=by intro aa s σ H x v Q I a h;obtain⟨i,rfl,q⟩:=h;obtain⟨t,rfl⟩:=a;exact rule i t s _ _ ⟨.int (g i),H,I.tok _,⟨_,rfl⟩,q⟩
def rm:UnR X (unaryOp .USub) (rU λi=>.int (-i)):=unI λ_ _ _ _ _ q=>neg_int q
end
section
variable{X:Cx}{a b c:Ux}{ta tb tc:TE}{pos:Pos}
def FP{aa:List (Ur×Ve)}{σ:St}{H:Hp}{s:Ae}{Q:VK}{k k':Bool}(I:bS X aa σ H s)(q:Q (.bl k) H)(e:k=k'):EP X aa σ Q (.bool k') s:=by subst e;exact⟨.bl k,H,I,rfl,q⟩
def D6:WM X (Cr .Lt) (CM λi j=>.bl (decide (i<j))):=opB0 λ_ _ _ _ _ _ _ q=>lt_int q
def Wj:WM X (Cr .LtE) (CM λi j=>.bl (decide (i<=j))):=opB0 λ_ _ _ _ _ _ _ q=>le_int q
def dM:WM X (Cr .Gt) (CM λi j=>.bl (decide (j<i))):=opB0 λ_ _ _ _ _ _ _ q=>gt_int q
def Wu:WM X (Cr .GtE) (CM λi j=>.bl (decide (j<=i))):=opB0 λ_ _ _ _ _ _ _ q=>ge_int q
def T3:WM X (Cr .Is) (λx y H Q=>y=.non/\Q (.bl (decide (x=.non))) H):=by
 intro aa s σ H x y v u Q I a b h;obtain⟨rfl,q⟩:=h;cases b;refine is_none_gen (FP I q ?_);cases x<;>first
  |(cases a;rfl)
  |(obtain⟨t,rfl⟩:=a;rfl)
def eE:WM X (Cr .IsNot) (λx y H Q=>y=.non/\Q (.bl (!decide (x=.non))) H):=by
 intro aa s σ H x y v u Q I a b h;obtain⟨rfl,q⟩:=h;cases b;refine isnot_none_gen (FP I q ?_);cases x<;>first
  |(cases a;rfl)
  |(obtain⟨t,rfl⟩:=a;rfl)
def WM.or{f:Uq->Uq->Vk Uq}{r r':R2}(h:WM X f r)(h':WM X f r'):WM X f (λx y H Q=>r x y H Q∨r' x y H Q):=by
 intro aa s σ H x y v u Q I b a q;rcases q with q|q
 ·exact h aa s σ H x y v u Q I b a q
 ·exact h' aa s σ H x y v u Q I b a q
def T2(b:Ux){op:CmpOp}(h:op≠ .In:=by decide)(h2:op≠ .NotIn:=by decide):Ij op b=bb:=by
 have c:(op==CmpOp.In)=bb:=by cases op<;>first|rfl|exact absurd rfl h
 have a:(op==CmpOp.NotIn)=bb:=by cases op<;>first|rfl|exact absurd rfl h2
 cases b<;>simp[Ij,c,a]
def jv{op:CmpOp}{r:R2}(e:WM X (Cr op) r)(i:PE X a ta)(g:PE X b tb)(f:Ij op b=bb):PE X (.Compare a [op] [b] pos) (tOp r ta tb):=by intro aa s σ H Q I h;exact wpAny_Compare1 (binT i g I h λv u s2 x y H2 j d c q=>e aa s2 σ H2 x y v u Q j d c q) f
def Xs(t:TE):TT:=λσ H Q=>t σ H λx H'=>∃k,x=.bl k/\Q k H'
def lB{op:CmpOp}{r:R2}(i:WM X (Cr op) r)(m:PE X a ta)(l:PE X b tb)(j:Ij op b=bb):PT X (.Compare a [op] [b] pos) (Xs (tOp r ta tb)):=by
 intro aa s σ H Q I h;refine wpAny_isTrue_Compare1 (Y3 (m aa s σ H _ I h) λv s1 ⟨x,H1,p,g,q1⟩=>Y3 (l aa s1 σ H1 _ p q1) λu s2 ⟨y,H2,o,f,q2⟩=>
  Y3 (i aa s2 σ H2 x y v u _ o g f q2) λc s3 ⟨z,q,n,d,k,e,q3⟩=>?_) j
 subst e;cases d;exact Ee ⟨q,n,q3⟩
def C0(r r':R2)(ta tb tc:TE):TE:=λσ H Q=>ta σ H λx H1=>tb σ H1 λy H2=>r x y H2 λz a=>∃k,z=.bl k∧
 (if k=ba then tc σ a λb c=>r' y b c Q else Q (.bl bb) a)
def km{op f:CmpOp}{r r':R2}(t:WM X (Cr op) r)(g:WM X (Cr f) r')(B:PE X a ta)(A:PE X b tb)(hc:PE X c tc)(w:Sa [op,f] [b,c]=bb:=by with_unfolding_all rfl):PE X (.Compare a [op,f] [b,c] pos) (C0 r r' ta tb tc):=by
 intro aa s σ H Q I h;refine Compare_chain (Y3 (B aa s σ H _ I h) λv s1 ⟨x,H1,E,p,q1⟩=>chain_link (Y3 (A aa s1 σ H1 _ E q1) λu s2 ⟨y,H2,D,i,q2⟩=>
  Y3 (t aa s2 σ H2 x y v u _ D p i q2) λd s3 ⟨z,l,j,o,k,e,q3⟩=>?_)) w
 subst e;cases o;refine Ee ?_;cases k with
 |false=>exact ite_ff ⟨.bl bb,l,j,rfl,q3⟩
 |true=>exact ite_tt (chain_last (Y3 (hc aa s3 σ l _ j q3) λm s4 ⟨z',F,C,n,q⟩=>g aa s4 σ F y z' u m Q C i n q))
def mx{op f:CmpOp}{r r':R2}(B:WM X (Cr op) r)(g:WM X (Cr f) r')(E:PE X a ta)(D:PE X b tb)(hc:PE X c tc)(C:Sa [op,f] [b,c]=bb:=by with_unfolding_all rfl):PT X (.Compare a [op,f] [b,c] pos) (Xs (C0 r r' ta tb tc)):=by
 intro aa s σ H Q I h;refine isTrue_chain (Y3 (E aa s σ H _ I h) λv s1 ⟨x,H1,M,q,q1⟩=>test_link (Y3 (D aa s1 σ H1 _ M q1) λu s2 ⟨y,H2,L,i,q2⟩=>
  Y3 (B aa s2 σ H2 x y v u _ L q i q2) λd s3 ⟨z,l,j,p,k,e,q3⟩=>?_)) C
 subst e;cases p;refine Ee ?_;cases k with
 |false=>
  obtain⟨k',G,A⟩:=q3;cases G;exact ite_ff ⟨l,j,A⟩
 |true=>
  refine ite_tt (test_last (Y3 (hc aa s3 σ l _ j q3) λm s4 ⟨z',O,K,o,w⟩=>Y3 (g aa s4 σ O y z' u m _ K i o w) λd' s5 ⟨P,N,J,n,k2,F,t⟩=>?_));subst F;cases n;exact Ee ⟨N,J,t⟩
def KU:(sizeLine:Nat)<2 ^ 63:=by rw[Bv];decide
def CB:WM X (Fo .Add) (λx y H Q=>∃i j,x=.str i/\y=.str j/\i.length+j.length<=sizeLine/\Q (.str (i++j)) H):=by intro aa s σ H x y v u Q I b a h;obtain⟨i,j,rfl,rfl,hz,q⟩:=h;obtain⟨t,rfl⟩:=b;obtain⟨t',rfl⟩:=a;exact add_str (λt' tk=>⟨.str (i++j),H,I.tok _,⟨_,rfl⟩,q⟩) hz
def VR{x:V}{a:List Uq}(r:aY [x] a):∃u,a=[u]/\aV x u:=by
 cases r with
 |cons c b=>cases b;exact⟨_,rfl,c⟩
def ES{x y:V}{b:List Uq}(r:aY [x,y] b):∃u a,b=[u,a]/\aV x u/\aV y a:=by
 cases r with
 |cons f e=>
  cases e with
  |cons d c=>cases c;exact⟨_,_,rfl,f,d⟩
def qf(hc:X.calm=ba):Z4 X (.builtin "max") (λxs H Q=>∃i j,xs=[.int i,.int j]/\Q (.int (if j>i then j else i)) H):=by
 intro aa s σ H xs c Q I r h;obtain⟨i,j,rfl,q⟩:=h;obtain⟨u,b,rfl,⟨t,rfl⟩,⟨t',rfl⟩⟩:=ES r;refine max_two_ints (I.ok.hd hc) λh' tk k=>⟨_,H,I.kept k,?_,q⟩;by_cases a:j>i
 ·rw[if_pos a,if_pos a];exact⟨_,rfl⟩
 ·rw[if_neg a,if_neg a];exact⟨_,rfl⟩
def fH(hc:X.calm=ba):Z4 X (.builtin "min") (λxs H Q=>∃i j,xs=[.int i,.int j]/\Q (.int (if j<i then j else i)) H):=by
 intro aa s σ H xs c Q I r h;obtain⟨i,j,rfl,q⟩:=h;obtain⟨u,b,rfl,⟨t,rfl⟩,⟨t',rfl⟩⟩:=ES r;refine min_two_ints (I.ok.hd hc) λh' tk k=>⟨_,H,I.kept k,?_,q⟩;by_cases a:j<i
 ·rw[if_pos a,if_pos a];exact⟨_,rfl⟩
 ·rw[if_neg a,if_neg a];exact⟨_,rfl⟩
end
structure ObjM(h:Vb)(x dx C:Ur)(mA:Uv->Option Uq):Prop where
 obj:h.get? x=b3 (Tr C dx)
 ns:h.Ns1 dx mA
 ne:dx≠x
def HZ{h:Vb}{dx:Ur}{b:Uv->Option Uq}(n:h.Ns1 dx b):∃od,h.get? dx=b3 od/\∀name,W.lookIn name od=b3 (b name):=by
 obtain⟨o,es,ep,f,j,i,_,g⟩:=n;refine⟨o,f,λname=>?_⟩;have e:=g name;unfold nsFind findBy at e;rw[<-Pa]at e;unfold W.lookIn;rw[j];dsimp only;split
 ·rename_i y q
  rw[q]at e;exact congrArg b3 e
 ·rename_i q
  rw[q]at e;have a:es.toList.any (·.refKey)=bb:=by rw[List.any_eq_false];intro y d;obtain⟨z,t,c⟩:=i y (Array.mem_toList_iff.mp d);simp[DictEntry.refKey,c]
  have k:¬es.toList.any (·.refKey)=ba:=by rw[a];exact Ch
  rw[if_neg k];exact congrArg b3 e
def ObjM.look{h:Vb}{x dx C:Ur}{a:Uv->Option Uq}(I:ObjM h x dx C a):∃od,W.InstAt h x (Tr C dx) C (b3 od)/\∀name,W.lookIn name od=b3 (a name):=
 let ⟨od,b,hl⟩:=HZ I.ns
 ⟨od,⟨I.obj,rfl,rfl,b⟩,hl⟩
def QR.some_of{v:V}{o:Option Uq}(r:QR (b3 v) o):∃u,o=b3 u/\aV v u:=by
 cases o with
 |none=>exact(show False from r).elim
 |some u=>exact⟨u,rfl,r⟩
section
variable{P:Av}{w:Uy}{H H':Hp}{h h':Vb}{a C dx:Ur}{fs fs':List (Uv×V)}
def ki(c:QQ P w H h)(e:H a=b3 (.ins C dx fs)):∃b,ObjM h a dx C b/\(∀f,QR (fs.lookup f) (b f))/\Ts b (fs.map (·.1))/\fs.length<=1000/\H dx=b3 (.own a):=by obtain⟨d,z,g,ob,b,n,r,q⟩:=(show ZV P w H h a (.ins C dx fs) from c a _ e);exact⟨b,⟨ob,n,g⟩,r,q,z,d⟩
end
structure Cls(K:Ai)(C:Ur):Prop where
 pg:W.plainGet K C Str.empty=ba
 hd:W.hasDictIn K C=ba
 po:W.plainOver K C=ba
 sa:Rq K (.ref C) "__setattr__"=b3 (b3 (.builtin "object.__setattr__"))
def Cls.get{K:Ai}{C:Ur}(c:Cls K C)(f:Uv):W.plainGet K C f=ba:=c.pg
section
variable{X:Cx}{aa:List (Ur×Ve)}{σ:St}{H:Hp}{s:Ae}{a C dx:Ur}{fs:List (Uv×V)}{f:Uv}{v:V}{A:Bz}{E:Uq->Ae->Prop}
def oJ{prog:Av}{w:Uy}{env:Env}{e:Ux}{f:Uv}{pos:Pos}{s:Ae}{Q:Uq->Ae->Prop}(b:Ff e f env (eval e env)=eval e env)(h:Us (Ut prog w) A (eval e env) (λo a=>Us (Ut prog w) A (getAttr o f ba) Q E a) E s):Us (Ut prog w) A (eval (.Attribute e f pos) env) Q E s:=
 Attribute_any_ h (by rw[arm_eval_Attribute,b])
end
section
variable{X:Cx}{aa:List (Ur×Ve)}{σ:St}{H:Hp}{s:Ae}{A:Bz}{E:Uq->Ae->Prop}{Q:Uq->Ae->Prop}{c:Uq}{b:Bool}
inductive MB(K:Ai)(H:Hp):V->Uq->Prop where
 |non:MB K H .non (.type "NoneType")
 |bl (x:Bool):MB K H (.bl x) (.type "bool")
 |int (i:Int):MB K H (.int i) (.type "int")
 |str (x:Uv):MB K H (.str x) (.type "str")
 |flt (x:UInt64):MB K H (.flt x) (.type "float")
 |lst {a:Ur}{xs:List V}(e:H a=b3 (.lst xs)):MB K H (.ref a) (.type "list")
 |frz {a:Ur}{o:Ve}{xs:List V}(e:H a=b3 (.frz o (.lst xs))):MB K H (.ref a) (.type "list")
 |tup {a:Ur}{xs:List V}(e:H a=b3 (.tup xs)):MB K H (.ref a) (.type "tuple")
 |dK {a:Ur}{kvs:List (Z5×V)}(e:H a=b3 (.dK kvs)):MB K H (.ref a) (.type "dict")
 |dT {a:Ur}{kvs:List (List Z5×V)}(e:H a=b3 (.dT kvs)):MB K H (.ref a) (.type "dict")
 |ins {a C dx:Ur}{fs:List (Uv×V)}(e:H a=b3 (.ins C dx fs)) (cl:Cls K C) (ha:Rq K (.ref C) "__class__"=b3 (b3 (.builtin "object.__class__")))
   (hn:W.specialIn K (.builtin "object.__class__") "__get__"=b3 (b3 (.builtin "getset_descriptor.__get__"))) (htk:W.takesIn K (.builtin "object.__class__")=b3 ba)
   (hm:W.mroIn K C (.type "object")=b3 ba):MB K H (.ref a) (.ref C)
def UK{x:V}{u t:Uq}(I:bS X aa σ H s)(d:aV x u)(ty:MB X.K H x t)(e:Hn X.K t c=b3 b)(h:∀tk,Q (.bool b) {s with toks:=tk}):Us (Ut X.prog X.w) A (call (.builtin "isinstance") [u,c]) Q E s:=by
 cases ty with
 |non=>cases (show u=Value.none from d);exact Fd W.kitx_none I.kIn True.intro e (λz=>nomatch z) h
 |bl y=>cases (show u=Gw y from d);exact Fd W.kitx_bool I.kIn True.intro e (λz=>nomatch z) h
 |int i=>obtain⟨t,q⟩:=(show∃t,u=Ru i t from d);cases q;exact Fd W.kitx_int I.kIn True.intro e (λz=>nomatch z) h
 |str y=>obtain⟨t,q⟩:=(show∃t,u=Mr y t from d);cases q;exact Fd W.kitx_str I.kIn True.intro e (λz=>nomatch z) h
 |flt y=>obtain⟨t,q⟩:=(show∃t,u=Uh y t from d);cases q;exact Fd W.kitx_float I.kIn True.intro e (λz=>nomatch z) h
 | @lst a xs f=>
  cases (show u=Ay a from d);obtain⟨_,_,n,_,h1⟩:=(show ZV X.prog X.w H s.heap a (.lst xs) from I.hok a _ f);exact Fd Og I.kIn ⟨_,h1,rfl⟩ e (λz=>nomatch z) h
 | @frz a ob xs f=>
  cases (show u=Ay a from d);obtain⟨_,_,_,n,_,h1⟩:=(show ZV X.prog X.w H s.heap a (.frz ob (.lst xs)) from I.hok a _ f);exact Fd Og I.kIn ⟨_,h1,rfl⟩ e (λz=>nomatch z) h
 | @tup a xs f=>
  cases (show u=Ay a from d);obtain⟨_,_,_,p⟩:=(show ZV X.prog X.w H s.heap a (.tup xs) from I.hok a _ f);obtain⟨o,h1,h2,_⟩:=p;exact Fd W.kitx_tuple I.kIn ⟨o,h1,h2⟩ e (λz=>nomatch z) h
 | @dK a kvs f=>
  cases (show u=Ay a from d);obtain⟨_,_,vs,_,p⟩:=(show ZV X.prog X.w H s.heap a (.dK kvs) from I.hok a _ f);obtain⟨o,es,ep,h1,h2,_⟩:=p;exact Fd Sb I.kIn ⟨o,h1,h2.1⟩ e (λz=>nomatch z) h
 | @dT a kvs f=>
  cases (show u=Ay a from d);obtain⟨_,_,xs,_,o,es,ep,h1,h2,_⟩:=(show ZV X.prog X.w H s.heap a (.dT kvs) from I.hok a _ f);exact Fd Sb I.kIn ⟨o,h1,h2.1⟩ e (λz=>nomatch z) h
 | @ins a C dx fs f cl l j g k=>
  cases (show u=Ay a from d);obtain⟨m,O,_⟩:=ki I.hok f;obtain⟨od,J,_⟩:=O.look;exact Fd (W.kitx_own (cl.get _) cl.hd l j g k) I.kIn J e (λz=>nomatch z) h
end
structure YU(k:Nat)(A:Bz):Prop where
 hd:A.handled=b4
 dp:A.depth+3*k+5<Fg
 un:A.units+16*k+200<cLine
def YU.mono{j k:Nat}{A:Bz}(r:YU k A)(h:j<=k):YU j A:=⟨r.hd,by have:=r.dp;lia,by have:=r.un;lia⟩
def YU.deeper{k:Nat}{A:Bz}(r:YU (k+1) A)(env:Env):YU k (A.deeper env):=
 ⟨r.hd,by have:=r.dp;show A.depth+1+3*k+5<_;lia,by have:=r.un;show A.units+3+16*k+200<_;lia⟩
def YU.depth{k:Nat}{A:Bz}(r:YU k A):A.depth<Fg:=by have:=r.dp;lia
def YU.units{k:Nat}{A:Bz}(r:YU k A):A.units+64<cLine:=by have:=r.un;lia
def tNil:TA:=λ_ H Q=>Q [] H
def LK(ta:TE)(a:TA):TA:=λσ H Q=>ta σ H λx H1=>a σ H1 λxs H2=>Q (x::xs) H2
section
variable{X:Cx}{e:Ux}{es:List Ux}{te:TE}{t:TA}{pos:Pos}
def ZP:PA X [] tNil:=λ_ _ _ _ H Q I h=>Gz ⟨[],H,I,.nil,h⟩
def a9(f:PE X e te)(d:PA X es t)(c:Uu (e::es) X.env=(bb,eval e X.env)::Uu es X.env:=by rfl):PA X (e::es) (LK te t):=by intro pos aa s σ H Q I h;rw[c];show Us _ _ (spliced ((bb,eval e X.env)::Dx pos (Uu es X.env))) _ _ s;refine Ex (Y3 (f aa s σ H _ I h) λu s1 ⟨x,H1,i,b,q1⟩=>?_);exact Y3 (d pos aa s1 σ H1 _ i q1) λj s2 ⟨xs,H2,g,a,q2⟩=>⟨x::xs,H2,g,.cons b a,q2⟩
def tTup(t:TA):TE:=λσ H Q=>t σ H λxs H1=>xs.length<=sizeLine/\∀p,H1 p=b4->Q (.ref p) (upd H1 p (.tup xs))
def tLst(t:TA):TE:=λσ H Q=>t σ H λxs H1=>xs.length<=sizeLine/\∀p,H1 p=b4->Q (.ref p) (upd H1 p (.lst xs))
def Yl{x1}(h:PA X es t):PE X (.Tuple es x1 pos) (tTup t):=by intro aa s σ H Q I d;refine wpAny_Tuple_spliced (Y3 (h pos aa s σ H _ I d) λc s1 ⟨xs,H1,a,r,z,q⟩=>⟨by rw[<-r.length];exact z,?_⟩);have f:H1 s1.heap.objs.size=b4:=a.hok.fresh (Ao _);refine⟨.ref s1.heap.objs.size,upd H1 s1.heap.objs.size (.tup xs),a.laid (t':=s1.toks) (λb u e=>Ad _ e) (Ao _) ?_,rfl,q _ f⟩;exact⟨z,c,r,⟨_,An _ rfl,rfl,_,rfl⟩⟩
def CD(h:PA X es t):PE X (.List es pos) (tLst t):=by intro aa s σ H Q I d;refine wpAny_List_spliced (Y3 (h pos aa s σ H _ I d) λc s1 ⟨xs,H1,a,r,z,q⟩=>⟨by rw[<-r.length];exact z,?_⟩);have f:H1 s1.heap.objs.size=b4:=a.hok.fresh (Ao _);refine⟨.ref s1.heap.objs.size,upd H1 s1.heap.objs.size (.lst xs),a.laid (t':=s1.toks) (λb u e=>Ad _ e) (Ao _) ?_,rfl,q _ f⟩;exact⟨z,c,0,r,An _ rfl⟩
end
abbrev Sp:=List V->Hp->VK->XK->Prop
abbrev CXT:=List Env->Hp->Ae->XK->Uq->Ae->Prop
structure Env0(P:Av)(w:Uy)(K:Ai)(mg:Uv->Option Uq)(base:Vb)(A:Bz)(outer:List Env)(s:Ae)(H:Hp):Prop where
 frames:A.frames=b3 outer
 mod:Mod K mg base
 bs:∀b o,base.get? b=b3 o->s.heap.get? b=b3 o/\H b=b4
 bsz:base.objs.size<=s.heap.objs.size
 funs:s.heap.FunFrames base outer
 frf:∀b∈SM outer,H b=b4
 hok:QQ P w H s.heap
 bare:Lw s.gens
def CE(outer:List Env)(P:Av)(w:Uy)(H:Hp)(s:Ae)(Q:VK)(u:Uq)(s':Ae):Prop:=
 ∃v H',s'.os=s.os/\Lw s'.gens/\Un (SM outer) [] H H' s.heap s'.heap/\QQ P w H' s'.heap/\aV v u/\Q v H'
def CR(CX:CXT)(outer:List Env)(P:Av)(w:Uy)(H:Hp)(s:Ae)(Q:VK)(E:XK)(r:Tv)(s':Ae):Prop:=
 match r with
 |.ok (.ret u)=>CE outer P w H s Q u s'
 |.ok _=>False
 |.error e=>CX outer H s E e s'
structure W0(P:Av)(w:Uy)(K:Ai)(mg:Uv->Option Uq)(base:Vb)(CX:CXT)(k:Nat)(f:Ur)(fd:Cj)(ps:List Uv)(sp:Sp):Prop where
 len:∀vs H Q E,sp vs H Q E->vs.length=ps.length
 run:∀(A:Bz) (outer:List Env) (s:Ae) (H:Hp) (args:Args) (us:List Uq) (vs:List V) (Q:VK) (E:XK),YU k A->Env0 P w K mg base A outer s H->Qa s fd args (ps.zip us)->aY vs us->sp vs H Q E->
  Hj (Ut P w) A (.call (.ref f) args) (CR CX outer P w H s Q E) s
section
variable{X:Cx}{aa:List (Ur×Ve)}{σ:St}{H:Hp}{s s':Ae}
def bS.env0(I:bS X aa σ H s):Env0 X.prog X.w X.K X.mg X.base X.A X.stack s H:=
 ⟨I.ok.frames,I.ok.mod,I.bs,Dw I.ok.bsz I.sz,I.stack,I.stkFree,I.hok,I.bare⟩
def bS.after{Q:VK}{u:Uq}(I:bS X aa σ H s)(h:CE X.stack X.prog X.w H s Q u s'):EP X aa σ Q u s':=by obtain⟨v,H',os,a,un,e,r,q⟩:=h;obtain⟨f,g,d,t,c⟩:=s';obtain rfl:c=s.os:=os;exact⟨v,H',I.call (h':=f) (g':=g) (d':=d) (t':=t) (ch:=[]) un e a (λb z=>absurd z (by simp)),r,q⟩
end
def AU(sp:Sp)(dvs:List V)(E:XK)(t:TA):TE:=λσ H Q=>t σ H λvs H1=>sp (vs++dvs) H1 Q E
def SS(K:Ai)(fd:Cj)(ps:List Uv)(ds:List Uq):Prop:=
 ∀(s:Ae) (a:List Uq),K.In s.heap->(a++ds).length=ps.length->Qa s fd ⟨a,[]⟩ (ps.zip (a++ds))
def SS.all{K:Ai}{fd:Cj}{ps:List Uv}(h:∀a:List Uq,a.length=ps.length->Pb fd ⟨a,[]⟩=pure (ps.zip a)):SS K fd ps []:=λs a _ hl=>by rw[Dk]at hl⊢;exact .of_eq (h a hl)
def BC(CX:CXT)(X:Cx)(E:XK):Prop:=∀(aa:List (Ur×Ve)) (σ:St) (H:Hp) (s:Ae) (e:Uq) (s':Ae),bS X aa σ H s->CX X.stack H s E e s'->X.xe e s'
section
variable{X:Cx}{CX:CXT}{k:Nat}{f C:Ur}{fd:Cj}{ps:List Uv}{sp:Sp}{dvs:List V}{ds:List Uq}{E:XK}{x m:Uv}{p pos aj:Pos}{e o:Ux}{es:List Ux}{ta:TE}{t:TA}
def eD{aa:List (Ur×Ve)}{σ:St}{H:Hp}{s:Ae}{Q:VK}{a:List Uq}{vs:List V}(F:W0 X.prog X.w X.K X.mg X.base CX k f fd ps sp)(g:YU k X.A)(j:SS X.K fd ps ds)(i:aY dvs ds)(d:BC CX X E)(I:bS X aa σ H s)(r:aY vs a)(h:sp (vs++dvs) H Q E):Us (Ut X.prog X.w) X.A (call (.ref f) a) (EP X aa σ Q) X.xe s:=by
 have c:aY (vs++dvs) (a++ds):=r.append i;have hl:(a++ds).length=ps.length:=by rw[<-c.length];exact F.len _ _ _ _ h
 refine Hv (Hw (F.run X.A X.stack s H ⟨a,[]⟩ (a++ds) (vs++dvs) Q E g I.env0 (j s a I.kIn hl) c h) λr s' b=>?_);cases r with
 |error e=>exact d aa σ H s e s' I b
 |ok l=>
  cases l with
  |ret u=>exact I.after b
  |next=>exact Gy b
  |brk=>exact Gy b
  |cont=>exact Gy b
def mP(F:W0 X.prog X.w X.K X.mg X.base CX k f fd ps sp)(g:YU k X.A)(l:Gl X x)(i:X.mg x=b3 (.ref f))(j:Jm X.K (.ref f)=ba)(o:SS X.K fd ps ds)(n:aY dvs ds)(d:BC CX X E)(u:PA X (e::es) t)(b:(x==("__debug__":Uv))=bb:=by decide)(m:Uu (e::es) X.env=(bb,eval e X.env)::Uu es X.env:=by rfl)(a:(Dx pos (Uu es X.env)).any (·.1)=bb:=by rfl):PE X (.Call (.Name x p) (e::es) [] pos) (AU sp dvs E t):=by intro aa s σ H Q I h;refine Ey (T1 I l i ?_ b);refine Lb (h₀:=X.base) I.ok.mod.kin j (Y3 (u pos aa s σ H _ I h) λv s1 ⟨vs,H1,c,r,q⟩=>⟨c.kIn,?_⟩) m a;exact eD F g o n d c r q
end
structure Z7(N P:List Uv)(sc:Vf):Prop where
 kind:sc.kind=.function
 co:sc.isCoroutine=bb
 gen:sc.isGenerator=bb
 nd:N.Nodup
 pre:N.take P.length=P
 par:∀x∈P,sc.names.lookup x=b3 .local∨sc.names.lookup x=b3 .cell
 nofree:∀y∈sc.names,y.2≠ .free
theorem HG{kindOf:Uv->Option Vh}{x:Uv}:∀{binds:List (Uv×Uq)}{m:Uv->Option Uq},(∀v,(x,v)∉binds)->bindL kindOf binds m x=m x
 |[],_,_=>rfl
 | (n,v) :: r,m,h => by
  unfold bindL;rw[HG λw hw=>h w (Aq _ hw)];split
  ·have : x ≠ n := by rintro rfl;exact h v At
   simp[this]
  ·rfl
theorem HE{kindOf:Uv->Option Vh}{x:Uv}:∀{binds:List (Uv×Uq)}{m:Uv->Option Uq},(∀v,(x,v)∉binds)->bindC kindOf binds m x=m x
 |[],_,_=>rfl
 | (n,v) :: r,m,h => by
  unfold bindC;rw[HE λw hw=>h w (Aq _ hw)];split
  ·rfl
  ·have : x ≠ n := by rintro rfl;exact h v At
   simp[this]
theorem HF{kindOf:Uv->Option Vh}{x:Uv}{v:Uq}:∀{P:List Uv}{vs:List Uq}{i:Nat}{m:Uv->Option Uq},P.Nodup->P[i]?=b3 x->vs[i]?=b3 v->kindOf x=b3 .local->bindL kindOf (P.zip vs) m x=b3 v
 |[],_,_,_,_,h,_,_=>by simp at h
 |_::_,[],_,_,_,_,h,_=>by simp at h
 |p::P,w::vs,0,m,a,h1,h2,b=>by simp at h1 h2;subst h1;subst h2;show bindL kindOf ((p,w)::P.zip vs) m p=_;unfold bindL;rw[HG λv c=>(De.mp a).1 (Ik c).1,if_pos b];simp
 |p::P,w::vs,i+1,m,a,h1,h2,b=>by show bindL kindOf ((p,w)::P.zip vs) m x=_;unfold bindL;exact HF (i:=i) (De.mp a).2 (by simpa using h1) (by simpa using h2) b
theorem HD{kindOf:Uv->Option Vh}{x:Uv}{v:Uq}:∀{P:List Uv}{vs:List Uq}{i:Nat}{m:Uv->Option Uq},P.Nodup->P[i]?=b3 x->vs[i]?=b3 v->kindOf x≠b3 .local->bindC kindOf (P.zip vs) m x=b3 v
 |[],_,_,_,_,h,_,_=>by simp at h
 |_::_,[],_,_,_,_,h,_=>by simp at h
 |p::P,w::vs,0,m,a,h1,h2,b=>by simp at h1 h2;subst h1;subst h2;show bindC kindOf ((p,w)::P.zip vs) m p=_;unfold bindC;rw[HE λv c=>(De.mp a).1 (Ik c).1,if_neg b];simp
 |p::P,w::vs,i+1,m,a,h1,h2,b=>by show bindC kindOf ((p,w)::P.zip vs) m x=_;unfold bindC;exact HD (i:=i) (De.mp a).2 (by simpa using h1) (by simpa using h2) b
def start(N:List Uv)(vs:List V):St:=vs.map b3++Az (N.length-vs.length) b4
noncomputable def RJ(CX:CXT)(P:Av)(w:Uy)(K:Ai)(mg:Uv->Option Uq)(base:Vb)(N:List Uv)(qual:Uv)(scope:Vf)(f:Ur)(cd:Uq)(A:Bz)(outer:List Env)(s:Ae)(H:Hp)(E:XK):Cx where
 prog:=P
 w:=w
 K:=K
 mg:=mg
 base:=base
 A:=A.deeper (envOfC qual scope s.heap.objs.size f cd)
 N:=N
 s₀:=s
 H₀:=H
 env:=envOfC qual scope s.heap.objs.size f cd
 outer:=outer
 stack:=envOfC qual scope s.heap.objs.size f cd::outer
 ex:=[]
 calm:=ba
 fn:=λ_=>ba
 pn:=[]
 xe:=λe s'=>Us (Ut P w) (A.deeper (envOfC qual scope s.heap.objs.size f cd)) (leaving (envOfC qual scope s.heap.objs.size f cd) e) (λ_ a=>CX outer H s E e a) (λb a=>CX outer H s E b a) s'
def DI{a:Vf}{n:Nat}{x:Uv}(h:a.names.lookup x=b3 .cell):∃c,(Vg n a.names []).lookup x=b3 c:=by have q:=Mj a.names n [] (.inl h);exact Option.isSome_iff_exists.mp q
def HU{CX:CXT}{P:Av}{w:Uy}{K:Ai}{mg:Uv->Option Uq}{base:Vb}{N ps:List Uv}{qual:Uv}{scope:Vf}{f:Ur}{cd:Uq}{A:Bz}{outer:List Env}{s s1:Ae}{H:Hp}{E:XK}{o:List Uq}{vs:List V}(S:Z7 N ps scope)(F:A.handled=b4)(d:Env0 P w K mg base A outer s H)(hl:vs.length=ps.length)(r:aY vs o)(x:InCallC s s.heap.objs.size (bindL (envOfC qual scope s.heap.objs.size f cd).kindOf (ps.zip o) λ_=>b4) (Vg (s.heap.objs.size+1) scope.names []) (bindC (envOfC qual scope s.heap.objs.size f cd).kindOf (ps.zip o) λ_=>b4) s1):bS (RJ CX P w K mg base N qual scope f cd A outer s H E) [] (start N vs) H s1:=by
 have D:ps.length<=N.length:=by have:=congrArg List.length S.pre;rw[Cf]at this;lia
 obtain⟨h1,tk,rfl,B⟩:=x.done;have g:∀b:Ur,b∉(RJ CX P w K mg base N qual scope f cd A outer s H E).ex:=λb z=>absurd (show b∈([]:List Ur) from z) (by simp);refine⟨⟨d.mod,S.kind,rfl,rfl,Ao _,λy z c h1 h2=>?_,λy j=>?_,λy c _ h=>?_,λ_=>F,Around.frames_deeper d.frames,.inr ⟨rfl,rfl⟩,λb z=>absurd z (g b),d.bs,d.bsz,λb _ _=>g b,λb z=>absurd z (g b),d.funs,d.frf⟩,rfl,d.bare,Un.kept B,⟨_,x.toInCall.ns,λi y v h1 h2 I=>?_⟩,λy c h=>⟨_,x.cell y c h⟩,d.hok.fresh (Ao _),λy c h=>?_,λp m=>absurd (show p∈([]:List (Ur×Ve)) from m) (by simp),d.hok.kept B,?_⟩
 ·exact name_of_addr x.apart (Di h1) (Di h2)
 ·have j:scope.names.lookup y=b3 .cell∨scope.names.lookup y=b3 .free:=j
  rcases j with j|j
  ·exact DI j
  ·exact absurd rfl (S.nofree _ (Di j))
 ·exact La (x.above y c (Di h))
 ·have hi:i<vs.length:=by
   unfold start at h2;by_cases hi:i<vs.length
   ·exact hi
   ·rw [Du (by simpa using hi)]at h2
    rw[Dt]at h2;split at h2<;>cases h2
  have G:vs[i]?=b3 v:=by
   unfold start at h2;rw[Ar (by simpa using hi),Bt]at h2;cases e:vs[i]? with
   |none=>rw[e]at h2;cases h2
   |some a=>rw[e]at h2;cases h2;rfl
  obtain⟨u,t,C⟩:=r.get G;have m:ps[i]?=b3 y:=by rw[<-S.pre,Dr (by lia)];exact h1
  have l:ps.Nodup:=by rw[<-S.pre];exact S.nd.sublist (List.take_sublist _ _)
  refine⟨u,C,?_⟩;rcases S.par y (Cw m)with k|k
  ·exact .inl ⟨k,HF l m t k⟩
  ·obtain⟨c,e⟩:=DI (n:=s.heap.objs.size+1) k
   refine .inr ⟨.inl k,c,e,?_⟩;have q:=x.cell y c e;rw[HD l m t (by show scope.names.lookup y≠_;rw[k];decide)]at q;exact q
 ·exact d.hok.fresh (La (x.above y c (Di h)))
 ·unfold start
  show _=N.length;rw[Cc,Bm,Mt];lia
def Xj{CX:CXT}{P:Av}{w:Uy}{K:Ai}{mg:Uv->Option Uq}{base:Vb}{k:Nat}{f:Ur}{name qual:Uv}{c:Arguments}{body:List Vd}{scope:Vf}{D kV doc C a ct M:Uq}{F od:Option Ur}{m:Array (Option Uq)}{N ps:List Uv}{sp:Sp}(O:K.lookup f=b3 ⟨M,od,.func (Mu name qual c body scope D kV doc C F a ct),m⟩)(B:Rr K a qual=ba)(S:Z7 N ps scope)(len:∀vs H Q E,sp vs H Q E->vs.length=ps.length)(ak:∀(A:Bz) (outer:List Env) (s:Ae) (H:Hp) (vs:List V) (Q:VK) (E:XK),YU k (A.deeper (envOfC qual scope s.heap.objs.size f a))->sp vs H Q E->∃t,WP (RJ CX P w K mg base N qual scope f a A outer s H E) body t/\t {nx:=λ_ H'=>Q .non H',rt:=Q} (start N vs) H):W0 P w K mg base CX (k+1) f (Mu name qual c body scope D kV doc C F a ct) ps sp:=by
 refine⟨len,λA outer s H args L vs Q E z j Y r h=>?_⟩;have hl:=len _ _ _ _ h;have G:K.In s.heap:=j.mod.kin.keeps λb o e=>(j.bs b o e).1;have p:s.heap.NoLimit:=j.mod.nolimit.keeps λb o e=>(j.bs b o e).1;have cm:∀y∈ps.zip L,scope.names.lookup y.1=b3 .local∨(scope.names.lookup y.1=b3 .cell/\((Vg (s.heap.objs.size+1) scope.names []).lookup y.1).isSome=ba):=λ⟨n,v⟩ R=>by
  rcases S.par n (Ik R).1 with q|q
  ·exact .inl q
  ·exact .inr ⟨q,Mj _ _ _ (.inl q)⟩
 refine Jo z.depth (G _ _ O) rfl S.co S.gen rfl (W.codeRec_of G B) (Y _ _ _ _ ?_);refine Hg S.kind cm λenv X s1 x=>?_;subst X;refine⟨p.keeps x.toInCall.keep,Qs ?_⟩;obtain⟨t,T,U⟩:=ak A outer s H vs Q E (z.deeper _) h;have I:bS (RJ CX P w K mg base N qual scope f a A outer s H E) [] (start N vs) H s1:=HU S z.hd j hl r x;refine Ax (T [] s1 (start N vs) H _ I U) (λZ s' g=>?_) λe s' g=>g;have i:∀{d:St}{H':Hp}{v:V}{u:Uq},bS (RJ CX P w K mg base N qual scope f a A outer s H E) [] d H' s'->aV v u->Q v H'->CE outer P w H s Q u s':=
  λ{d H' v u} J l q=>⟨v,H',J.os,J.bare,J.base,J.hok,l,q⟩
 cases Z with
 |ret u=>
  obtain⟨v,d,H',J,l,q⟩:=g;exact i J l q
 |next=>
  obtain⟨d,H',J,q⟩:=g;exact i (v:=V.non) (u:=Value.none) J rfl q
 |brk=>
  obtain⟨_,_,_,q⟩:=g;exact Gy q
 |cont=>
  obtain⟨_,_,_,q⟩:=g;exact Gy q
section
variable{X:Cx}{x:Uv}{p pos:Pos}{e:Ux}{es:List Ux}{t:TA}{id T:String}{r:List V->Hp->VK->Prop}
def tCB(r:List V->Hp->VK->Prop)(t:TA):TE:=λσ H Q=>t σ H λvs H1=>r vs H1 Q
def OW(hc:Z4 X (.builtin id) r)(j:Gl X x)(i:X.mg x=b4)(f:Bo x=b3 (.builtin id))(l:PA X (e::es) t)(g:x≠ "__name__":=by decide)(b:(x==("__debug__":Uv))=bb:=by decide)(k:Uu (e::es) X.env=(bb,eval e X.env)::Uu es X.env:=by rfl)(a:(Dx pos (Uu es X.env)).any (·.1)=bb:=by rfl):PE X (.Call (.Name x p) (e::es) [] pos) (tCB r t):=by intro aa s σ H Q I h;refine Ey (P9 I j i f ?_ g b);exact PyProof.Rows.callWith_builtin1 (Y3 (l pos aa s σ H _ I h) λc s1 ⟨vs,H1,m,d,q1⟩=>hc aa s1 σ H1 vs c Q m d q1) k a
def V1(hc:Z4 X (.type T) r)(j:Gl X x)(i:X.mg x=b4)(f:Bo x=b3 (.type T))(l:PA X (e::es) t)(g:x≠ "__name__":=by decide)(b:(x==("__debug__":Uv))=bb:=by decide)(k:Uu (e::es) X.env=(bb,eval e X.env)::Uu es X.env:=by rfl)(a:(Dx pos (Uu es X.env)).any (·.1)=bb:=by rfl):PE X (.Call (.Name x p) (e::es) [] pos) (tCB r t):=by intro aa s σ H Q I h;refine Ey (P9 I j i f ?_ g b);exact Ej (Y3 (l pos aa s σ H _ I h) λc s1 ⟨vs,H1,m,d,q1⟩=>hc aa s1 σ H1 vs c Q m d q1) k a
end
end L2
namespace HT
open PySem PyProof.Rows
section
variable{prog:Av}{w:Uy}{A:Bz}{E:Uq->Ae->Prop}{s:Ae}
def zJ5{t b:Ur}{vs a:List Uq}{Q:Uq->Ae->Prop}(m:IsTup s.heap t vs.toArray)(o:IsTup s.heap b a.toArray)(k:vs≠[])(h1:a=[]->Q (.ref t) s)(h2:a≠[]->Q (.ref s.heap.objs.size) {s with heap:=s.heap.push {cls:=.type "tuple",data:=.seq (vs++a).toArray}})(hsz:vs.length+a.length<=sizeLine):Us (Ut prog w) A (Fo .Add (.ref t) (.ref b)) Q E s:=by
 obtain⟨⟨cls,dd,data,sl⟩,i,hc,n,l⟩:=id m;obtain⟨⟨p,h,data2,d⟩,c,g,j,f⟩:=id o;simp only at hc l g f;subst hc l g f;have e:vs.toArray++a.toArray=(vs++a).toArray:=by simp
 by_cases hw:a=[]
 ·exact Mv ⟨_,i,rfl⟩ ⟨_,c,rfl⟩ Mk Pc Iw Il (Hx _ _)
   (tuple_addW1 t b vs.toArray a.toArray n j dd h sl d (by simpa using k) (by simp[hw])) ⟨i,c,h1 hw⟩
 ·refine Mv ⟨_,i,rfl⟩ ⟨_,c,rfl⟩ Mk Pc Iw Il (Hx _ _)
   (tuple_addW2 t b vs.toArray a.toArray n j dd h sl d (by simpa using k) (by simpa using hw) (by rw[Am,Am];exact hsz)) ⟨i,c,?_⟩
  rw[e];exact h2 hw
noncomputable def sIx(n d:Nat):Option Int->Nat
 |none=>d
 |some v=>if v<0 then(v+(n:Int)).toNat else min v.toNat n
def EG(n d:Nat):sIx n d b4=d:=rfl
def AO(n d k:Nat):sIx n d (b3 (k:Int))=min k n:=by show(if(k:Int)<0 then((k:Int)+(n:Int)).toNat else min (k:Int).toNat n)=min k n;rw[if_neg (by lia),Ha]
def lP(n d:Nat)(b:d<=n)(o:Option Int):sIx n d o<=n:=by
 cases o with
 |none=>exact b
 |some v=>
  show(if v<0 then(v+(n:Int)).toNat else min v.toNat n)<=n;by_cases a:v<0
  ·rw[if_pos a];lia
  ·rw[if_neg a];exact Nat.min_le_right _ _
def Zt(v:Int)(n d:Nat):(if v<0 then max (v+(n:Int)) 0 else min v (n:Int))=((sIx n d (b3 v):Nat):Int):=by
 show(if v<0 then max (v+(n:Int)) 0 else min v (n:Int))=(((if v<0 then(v+(n:Int)).toNat else min v.toNat n):Nat):Int);by_cases a:v<0
 ·simp only[if_pos a];lia
 ·simp only[if_neg a];lia
def BG(lo hi:Option Int)(n:Nat):Hl lo hi 1 (n:Int)=(((sIx n 0 lo:Nat):Int),((sIx n n hi:Nat):Int)):=by
 have h1:¬((1:Int)<0):=by lia
 unfold Hl;simp only[h1,if_false];refine Prod.ext ?_ ?_
 ·cases lo with
  |none=>rfl
  |some v=>exact Zt v n 0
 ·cases hi with
  |none=>rfl
  |some v=>exact Zt v n n
def CH(i j:Nat):Ft (i:Int) (j:Int) 1=j-i:=by
 unfold Ft;have h1:(1:Int)>0:=by lia
 simp only[h1,if_true,Int.ediv_one];split<;>lia
def LJ{v:Uq}{o:Option Int}{Q:Option Int->Ae->Prop}(p:IsPart v o)(h:Q o s):Us (Ut prog w) A (Rs v) Q E s:=by
 cases p with
 |none=>exact slicePart_none h
 |int i t=>exact slicePart_int h
def UT{sl:Ur}{d c:Uq}{lo hi:Option Int}{n:Nat}{Q:Int×Int×Nat->Ae->Prop}(e:s.heap.IsSliceOf sl d c .none)(pl:IsPart d lo)(pu:IsPart c hi)(h:Q (((sIx n 0 lo:Nat):Int),1,sIx n n hi-sIx n 0 lo) s):Us (Ut prog w) A (Kw (.ref sl) (pure (n:Int))) Q E s:=by obtain⟨os,a,f,b⟩:=id e;unfold Kw Sr;refine Aa (Aa (Ek a b (x:=d) rfl (Aa (Ek a b (x:=c) rfl (Aa (Ek a b (x:=.none) rfl (Ag ?_)))))));refine Aa (slicePart_none ?_);show Us _ _ (if((1:Int)==0)=ba then _ else _) _ _ s;rw[if_neg (by decide)];refine Aa (LJ pl (Aa (LJ pu (Aa (Ag ?_)))));show Us _ _ (match Hl lo hi 1 (n:Int)with|(lo,hi)=>pure (lo,(1:Int),Ft lo hi 1)) _ _ s;rw[BG lo hi n];show Us _ _ (pure (((sIx n 0 lo:Nat):Int),(1:Int),Ft ((sIx n 0 lo:Nat):Int) ((sIx n n hi:Nat):Int) 1)) _ _ s;rw[CH];exact Ag h
def fS(xs:Array Uq)(i k:Nat):((As k).filterMap λ(m:Nat)=>xs[((i:Int)+(m:Int)*1).toNat]?).toArray=((xs.toList.drop i).take k).toArray:=by
 have e:(λ(m:Nat)=>xs[((i:Int)+(m:Int)*1).toNat]?)=λm=>xs[i+m]? :=by
  funext m;have:((i:Int)+(m:Int)*1).toNat=i+m:=by lia
  rw[this]
 rw[e];have:=pick_run xs i k
 rw[List.filterMap_map]at this;have a:((λx=>xs[x]?)∘λx=>i+x)=λm=>xs[i+m]? :=rfl;rw[a]at this;rw[this]
def OL{t sl:Ur}{items:Array Uq}{i g:Uq}{lo hi:Option Int}{Q:Uq->Ae->Prop}(a:IsTup s.heap t items)(j:s.heap.IsSliceOf sl i g .none)(pl:IsPart i lo)(pu:IsPart g hi)(hw:¬(sIx items.size 0 lo=0/\sIx items.size items.size hi=items.size))(h:Q (.ref s.heap.objs.size) {s with heap:=s.heap.push {cls:=.type "tuple",data:=.seq ((items.toList.drop (sIx items.size 0 lo)).take (sIx items.size items.size hi-sIx items.size 0 lo)).toArray}})(hsz:items.size<=sizeLine):Us (Ut prog w) A (Lz (.ref t) (.ref sl)) Q E s:=by
 have b:sizeOk (.seq ((items.toList.drop (sIx items.size 0 lo)).take (sIx items.size items.size hi-sIx items.size 0 lo)).toArray):=by show((items.toList.drop (sIx items.size 0 lo)).take (sIx items.size items.size hi-sIx items.size 0 lo)).toArray.size<=sizeLine;rw[Am,Cf,Qy,Eb];lia
 have l:sIx items.size items.size hi<=items.size:=lP _ _ (Ao _) hi;obtain⟨os,c,e,k⟩:=id j;have f:s.TypeIs (.ref sl) "slice":=⟨os,c,e⟩;unfold Lz;try with_reducible refine Bp ?_
 first|refine Aa (Ag ?_)|skip
 refine Aa (Lm a.typeIs (by decide) ?_);refine Aa (Cs (name:=Bj "__getitem__") a.typeIs Eo
  (Dm Eo a.typeIs entry_tuple_getitem ?_ (args_tuple_getitem _ _)))
 show Us _ _ (Kx (.ref t)>>=_) _ _ s;refine Aa (tupleItemsOf_ a ?_);refine Aa (Jp f ?_);rw[if_pos (by decide)];refine Aa (UT j pl pu ?_);have d:¬((((sIx items.size 0 lo:Nat):Int)==0&&(1:Int)==1&&(sIx items.size items.size hi-sIx items.size 0 lo)==items.size)=ba):=by intro q;rw[Af,Af]at q;have q1:((sIx items.size 0 lo:Nat):Int)=0:=eq_of_beq q.1.1;have q2:sIx items.size items.size hi-sIx items.size 0 lo=items.size:=eq_of_beq q.2;exact hw ⟨by lia,by lia⟩
 show Us _ _ (if(((sIx items.size 0 lo:Nat):Int)==0&&(1:Int)==1&&(sIx items.size items.size hi-sIx items.size 0 lo)==items.size)=ba then _ else _) _ _ s;rw[if_neg d,fS]
 first
  |exact Aa (m:=Fy _) (Cb (Ag ⟨_,rfl,Ag h⟩) b)
  |exact Aa (m:=Fy _) (Cb (Aa (Ag (Ag ⟨_,rfl,Ag h⟩))) b)
  |exact Aa (Aa (m:=Fy _) (Cb (Ag (Ag ⟨_,rfl,Ag h⟩)) b))
  |exact Aa (Aa (m:=Fy _) (Cb (Ag ⟨_,rfl,Ag h⟩) b))
end
end HT
namespace L2
open PySem PySem.Spec PyProof.Rows
abbrev TO:=St->Hp->(Option Int->Hp->Prop)->Prop
def PO(X:Cx)(e:Option Ux)(t:TO):Prop:=
 ∀(aa:List (Ur×Ve)) (s:Ae) (σ:St) (H:Hp) (Q:Option Int->Hp->Prop),bS X aa σ H s->t σ H Q->
  Us (Ut X.prog X.w) X.A (evalPart e X.env) (λu s'=>∃o H',bS X aa σ H' s'/\IsPart u o/\Q o H') X.xe s
def oE:TO:=λ_ H Q=>Q b4 H
def pT(t:TE):TO:=λσ H Q=>t σ H λx H1=>∃i,x=.int i/\Q (b3 i) H1
def KR{ns:List Int}:∀{a:List Uq},aY (ns.map V.int) a->Kk a ns:=by
 induction ns with
 |nil=>intro a r;rw[Ef]at r;cases r;exact .nil
 |cons n ns d=>
  intro a r;rw[Bg]at r;cases r with
  |cons c b=>
   obtain⟨t,e⟩:=c;subst e;exact .cons n t (d b)
section
variable{X:Cx}{e:Ux}{te:TE}{lo hi:Option Ux}{tl th:TO}{pos p2:Pos}
def zHO:PO X b4 oE:=by intro aa s σ H Q I h;rw[evalPart_none];exact Ag ⟨b4,H,I,.none,h⟩
def qX(h:PE X e te):PO X (b3 e) (pT te):=by intro aa s σ H Q I hw;rw[evalPart_some];refine Y3 (h aa s σ H _ I hw) λu s1 ⟨x,H1,b,a,q1⟩=>?_;obtain⟨i,rfl,q⟩:=q1;obtain⟨t,rfl⟩:=a;exact⟨b3 i,H1,b,.int i t,q⟩
def SlR(X:Cx)(r:V->Option Int->Option Int->Hp->VK->Prop):Prop:=
 ∀(aa:List (Ur×Ve)) (s:Ae) (σ:St) (H:Hp) (x:V) (v b a:Uq) (lo hi:Option Int) (sl:Ur) (Q:VK),bS X aa σ H s->aV x v->s.heap.IsSliceOf sl b a .none->IsPart b lo->IsPart a hi->r x lo hi H Q->
  ∃T id,typeLookup (.type T) "__getitem__"=pure (b3 (.builtin id))/\s.TypeIs v T/\Us (Ut X.prog X.w) X.A (Lz v (.ref sl)) (EP X aa σ Q) X.xe s
def SlR.or{r r':V->Option Int->Option Int->Hp->VK->Prop}(h:SlR X r)(h':SlR X r'):SlR X (λx lo hi H Q=>r x lo hi H Q∨r' x lo hi H Q):=by
 intro aa s σ H x v b a lo hi sl Q I c d pl pu q;rcases q with q|q
 ·exact h aa s σ H x v b a lo hi sl Q I c d pl pu q
 ·exact h' aa s σ H x v b a lo hi sl Q I c d pl pu q
def tSl(r:V->Option Int->Option Int->Hp->VK->Prop)(te:TE)(tl th:TO):TE:=λσ H Q=>te σ H λx H1=>tl σ H1 λl H2=>th σ H2 λu a=>r x l u a Q
def lU{r:V->Option Int->Option Int->Hp->VK->Prop}(j:SlR X r)(m:PE X e te)(hl:PO X lo tl)(g:PO X hi th):PE X (.Subscript e (.Slice lo hi b4 p2) pos) (tSl r te tl th):=by intro aa s σ H Q I h;refine Subscript_ (Y3 (m aa s σ H _ I h) λv s1 ⟨x,H1,y,f,q1⟩=>?_);refine wpAny_Slice (Y3 (hl aa s1 σ H1 _ y q1) λc s2 ⟨l,H2,t,pl,q2⟩=>Y3 (g aa s2 σ H2 _ t q2) λa s3 ⟨u,d,p,pu,q3⟩=>?_);rw[evalPart_none];refine Ag ?_;have o:bS X aa σ d {s3 with heap:=s3.heap.push {cls:=.type "slice",data:=.fields #[c,a,.none]}}:=p.kept (t':=s3.toks) λb ob q=>Ad _ q;obtain⟨T,id,n,i,k⟩:=j aa {s3 with heap:=s3.heap.push {cls:=.type "slice",data:=.fields #[c,a,.none]}} σ d x v c a l u s3.heap.objs.size Q o f (Um ..) pl pu q3;show Us (Ut X.prog X.w) X.A (subscriptTail e (.Slice lo hi b4 p2) v (.ref s3.heap.objs.size)) (EP X aa σ Q) X.xe {s3 with heap:=s3.heap.push {cls:=.type "slice",data:=.fields #[c,a,.none]}};exact Td (ops:=[.ref s3.heap.objs.size,v]) i n k (by with_unfolding_all rfl)
def DK(xs:List V)(lo hi:Option Int):List V:=(xs.drop (HT.sIx xs.length 0 lo)).take (HT.sIx xs.length xs.length hi-HT.sIx xs.length 0 lo)
def MP(xs:List V)(lo hi:Option Int):(DK xs lo hi).length<=xs.length:=by unfold DK;rw[Cf,Qy];lia
def rSlT(K:Ai):V->Option Int->Option Int->Hp->VK->Prop:=λx lo hi H Q=>∃a xs,x=.ref a/\VE K H a xs∧
 ¬(HT.sIx xs.length 0 lo=0/\HT.sIx xs.length xs.length hi=xs.length)/\∀p,H p=b4->Q (.ref p) (upd H p (.tup (DK xs lo hi)))
def zLC:SlR X (rSlT X.K):=by
 intro aa s σ H x v k j lo hi sl Q I f i pl pu h;obtain⟨a,xs,rfl,g,hw,q⟩:=h;cases f;obtain⟨c,r,e,hz⟩:=I.tuple g;have d:c.toArray.size=xs.length:=by rw[Am];exact r.length.symm
 refine⟨"tuple",_,PyProof.Rows.slot_tuple_getitem.lookup,e.typeIs,?_⟩;refine HT.OL e i pl pu (by rw[d];exact hw) ?_ (by rw[d];exact hz);rw[d];refine⟨.ref s.heap.objs.size,_,I.laid (t':=s.toks) (o:=.tup (DK xs lo hi)) (λb ob q=>Ad _ q) (Ao _) ?_,rfl,q _ (I.hok.fresh (Ao _))⟩;exact⟨Dw (MP xs lo hi) hz,_,(r.drop (HT.sIx xs.length 0 lo)).take (HT.sIx xs.length xs.length hi-HT.sIx xs.length 0 lo),Kj _ _⟩
def aY.nil_iff{xs:List V}{a:List Uq}(r:aY xs a):a=[]↔xs=[]:=by
 cases r with
 |nil=>simp
 |cons _ _=>simp
end
noncomputable def ixN(n:Nat)(i:Int):Option Nat:=if 0<=i then(if i<n then b3 i.toNat else b4)else if -(n:Int)<=i then b3 (i+n).toNat else b4
def SJ{α:Type}(xs:List α)(i:Int):Option α:=(ixN xs.length i).bind λj=>xs[j]?
def rh{n:Nat}{i:Int}{j:Nat}(h:ixN n i=b3 j):seqIndex? i n=b3 j/\j<n/\ -(n:Int)<=i/\i<n:=by
 unfold ixN at h;by_cases a:0<=i
 ·rw[if_pos a]at h
  by_cases h1:i<n
  ·rw[if_pos h1]at h
   have e:i.toNat=j:=Cq h;exact⟨by rw[seqIndex_of a h1,e],by lia,by lia,h1⟩
  ·rw[if_neg h1]at h;cases h
 ·rw[if_neg a]at h
  by_cases h1: -(n:Int)<=i
  ·rw[if_pos h1]at h
   have e:(i+n).toNat=j:=Cq h;exact⟨by rw[seqIndex_neg (by lia) h1,e],by lia,h1,by lia⟩
  ·rw[if_neg h1]at h;cases h
def FA{α:Type}{xs:List α}{i:Int}{v:α}(h:SJ xs i=b3 v):∃j,seqIndex? i xs.length=b3 j/\xs[j]?=b3 v/\j<xs.length/\ -(xs.length:Int)<=i/\i<xs.length:=by
 unfold SJ at h;cases e:ixN xs.length i with
 |none=>rw[e]at h;cases h
 |some j=>
  rw[e]at h;obtain⟨h1,h2,b,a⟩:=rh e;exact⟨j,h1,h,h2,b,a⟩
def OB{α:Type}(xs:List α)(v:α):SJ (xs++[v]) (-1)=b3 v:=by
 have hl:(xs++[v]).length=xs.length+1:=by simp
 have e:ixN (xs++[v]).length (-1)=b3 xs.length:=by unfold ixN;rw[hl,if_neg (by decide),if_pos (by lia)];congr 1;lia
 unfold SJ;rw[e];show(xs++[v])[xs.length]?=b3 v;simp
def N6(b:Ux):Prop:=∀o i,subscripted b bb o i=operate [o,i] (Lz o i)
def IxR(X:Cx)(r:R2):Prop:=
 ∀(value a:Ux) (aa:List (Ur×Ve)) (s:Ae) (σ:St) (H:Hp) (x y:V) (v u:Uq) (Q:VK),bS X aa σ H s->aV x v->aV y u->r x y H Q->
  subscripted a bb v u=operate [v,u] (Lz v u)->Us (Ut X.prog X.w) X.A (subscriptTail value a v u) (EP X aa σ Q) X.xe s
def MtR(X:Cx)(id:String)(r:V->List V->Hp->VK->Prop):Prop:=
 ∀(aa:List (Ur×Ve)) (s:Ae) (σ:St) (H:Hp) (x:V) (xs:List V) (v:Uq) (a:List Uq) (Q:VK),bS X aa σ H s->aV x v->aY xs a->r x xs H Q->
  Us (Ut X.prog X.w) X.A (call (.builtin id) (v::a)) (EP X aa σ Q) X.xe s
section
variable{X:Cx}{a b:Ux}{ta tb:TE}{pos:Pos}
def IxR.or{r r':R2}(h:IxR X r)(h':IxR X r'):IxR X (λx y H Q=>r x y H Q∨r' x y H Q):=by
 intro value a aa s σ H x y v u Q I c b q d;rcases q with q|q
 ·exact h value a aa s σ H x y v u Q I c b q d
 ·exact h' value a aa s σ H x y v u Q I c b q d
def Zi{r:R2}(f:IxR X r)(i:PE X a ta)(g:PE X b tb)(e:N6 b):PE X (.Subscript a b pos) (tOp r ta tb):=by intro aa s σ H Q I h;exact Subscript_ (binT i g I h λv u s2 x y H2 j d c q=>f a b aa s2 σ H2 x y v u Q j d c q (e _ _))
def rIxL(K:Ai):R2:=λx y H Q=>∃p xs i v,x=.ref p/\y=.int i/\XR K H p xs/\SJ xs i=b3 v/\Q v H
def rIxT(K:Ai):R2:=λx y H Q=>∃p xs i v,x=.ref p/\y=.int i/\VE K H p xs/\SJ xs i=b3 v/\Q v H
def rIxS:R2:=λx y H Q=>∃z i c,x=.str z/\y=.int i/\z.length<=sizeLine/\SJ z.cps.toList i=b3 c/\Q (.str ⟨#[c]⟩) H
def zIP:IxR X (rIxL X.K):=by
 intro value b aa s σ H x y v u Q I m l h f;obtain⟨p,xs,i,z,rfl,rfl,n,o,q⟩:=h;cases m;obtain⟨t,rfl⟩:=l;obtain⟨d,r,pl,hz⟩:=I.list n;obtain⟨j,h1,h2,D,B,A⟩:=FA o;obtain⟨w,k,c⟩:=r.get h2;have hl:=r.length;have C:=KU;have a:EP X aa σ Q w s:=⟨z,H,I,c,q⟩;by_cases g:0<=i
 ·have e:i.toNat=j:=by rw[seqIndex_of g A]at h1;exact Cq h1
  exact item_listR pl.isList g (by lia) (by rw[e];simpa using k) a f
 ·have e:(i+(d.toArray.size:Int)).toNat=j:=by rw[seqIndex_neg (by lia) B]at h1;rw[Am,<- hl];exact Cq h1
  exact Mo (x:=w) pl.isList.typeIs slot_list_getitem.lookup
   (wpAny_getItem_list_neg (Q:=λr s'=>r=w/\EP X aa σ Q r s') pl.isList (by lia) (by rw[Am]<;>lia) (by lia) (by rw[e];simpa using k) ⟨rfl,a⟩) f
def zMM:IxR X (rIxT X.K):=by
 intro value a aa s σ H x y v u Q I e d h g;obtain⟨p,xs,i,z,rfl,rfl,k,l,q⟩:=h;cases e;obtain⟨t,rfl⟩:=d;obtain⟨f,r,pl,hz⟩:=I.tuple k;obtain⟨j,h1,h2,B,A,o⟩:=FA l;obtain⟨w,m,b⟩:=r.get h2;have hl:=r.length;have n:=KU;have c:EP X aa σ Q w s:=⟨z,H,I,b,q⟩;exact Mo (x:=w) pl.typeIs slot_tuple_getitem.lookup
  (getItem_tuple (j:=j) (Q:=λr s'=>r=w/\EP X aa σ Q r s') pl (by lia) (by lia) (by rw[Am,<-hl];exact h1) (by simpa using m) ⟨rfl,c⟩) g
def lV:IxR X rIxS:=by
 intro value a aa s σ H x y v u Q I d b h e;obtain⟨z,i,c,rfl,rfl,hz,f,q⟩:=h;obtain⟨t,rfl⟩:=d;obtain⟨t',rfl⟩:=b;obtain⟨j,h1,h2,o,k,g⟩:=FA f;have hl:z.cps.toList.length=z.length:=by simp[Str.length]
 rw[hl]at h1 k g;have n:=KU;exact Td (typeIs_str s z t) slot_str_getitem.lookup (getItem_str (c:=c) (by have m:decide (i< -(2 ^ 63:Int))=bb:=decide_eq_false (by lia);have l:decide (i≥2 ^ 63)=bb:=decide_eq_false (by lia);rw[m,l,Te]) (by rw[h1];simpa using h2) ⟨.str ⟨#[c]⟩,H,I.tok _,⟨_,rfl⟩,q⟩) e
def rIx(K:Ai):R2:=λx y H Q=>rIxL K x y H Q∨rIxT K x y H Q∨rIxS x y H Q
def zMO:IxR X (rIx X.K):=zIP.or (zMM.or lV)
def GV(lo hi:Option Int)(n:Nat):(Jd lo hi b4 n).1=((HT.sIx n 0 lo:Nat):Int)/\(Jd lo hi b4 n).2.1=((HT.sIx n n hi:Nat):Int)/\(Jd lo hi b4 n).2.2=1:=by
 refine⟨?_,?_,rfl⟩
 ·cases lo with
  |none=>simp[Jd,HT.sIx]
  |some i=>
   simp only[Jd,HT.sIx,Qz,show(1:Int)>0 by decide,if_true];by_cases h:i<0
   ·simp only[h,if_true]<;>lia
   ·simp only[h,if_false]<;>lia
 ·cases hi with
  |none=>simp[Jd,HT.sIx]
  |some i=>
   simp only[Jd,HT.sIx,Qz,show(1:Int)>0 by decide,if_true];by_cases h:i<0
   ·simp only[h,if_true]<;>lia
   ·simp only[h,if_false]<;>lia
def JT(a:List Uq)(lo hi:Option Int):slicePick a.toArray lo hi b4=((a.drop (HT.sIx a.length 0 lo)).take (HT.sIx a.length a.length hi-HT.sIx a.length 0 lo)).toArray:=by obtain⟨h1,h2,b⟩:=GV lo hi a.toArray.size;unfold slicePick;rw[h1,h2,b];simp only[sliceRange_one,pick_run,Am]<;>rfl
def rSlL(K:Ai):V->Option Int->Option Int->Hp->VK->Prop:=λx lo hi H Q=>∃a xs,x=.ref a/\XR K H a xs/\∀p,H p=b4->Q (.ref p) (upd H p (.lst (DK xs lo hi)))
def pX:SlR X (rSlL X.K):=by intro aa s σ H x v k j lo hi sl Q I d g pl pu h;obtain⟨a,xs,rfl,f,q⟩:=h;cases d;obtain⟨e,r,c,hz⟩:=I.list f;have i:=r.length;refine⟨"list",_,slot_list_getitem.lookup,c.isList.typeIs,?_⟩;refine wpAny_getItem_list_slice c.isList g pl pu .none (by simp) ?_ (by rw[Am]<;>lia);rw[JT,<-i];refine⟨.ref s.heap.objs.size,_,I.laid (t':=s.toks) (o:=.lst (DK xs lo hi)) (λb ob q=>Ad _ q) (Ao _) ?_,rfl,q _ (I.hok.fresh (Ao _))⟩;exact⟨Dw (MP xs lo hi) hz,_,0,(r.drop (HT.sIx xs.length 0 lo)).take (HT.sIx xs.length xs.length hi-HT.sIx xs.length 0 lo),An _ rfl⟩
def FG:Z4 X (.builtin "len") (λxs H Q=>∃p ys,xs=[.ref p]/\(XR X.K H p ys∨VE X.K H p ys)/\Q (.int ys.length) H):=by
 intro aa s σ H xs e Q I r h;obtain⟨p,ys,rfl,a,q⟩:=h;obtain⟨u,rfl,d⟩:=VR r;cases d;have f:=KU;rcases a with a|a
 ·obtain⟨b,r',pl,hz⟩:=I.list a
  have c:=r'.length;exact Calls.call_len_list pl.isList (by simp only[Am]<;>lia) ⟨.int ys.length,H,I.tok _,⟨s.toks+1,by rw[Am,c]⟩,q⟩
 ·obtain⟨b,r',pl,hz⟩:=I.tuple a
  have c:=r'.length;exact len_tuple pl (by simp only[Am]<;>lia) ⟨.int ys.length,H,I.tok _,⟨s.toks+1,by rw[Am,c]⟩,q⟩
def FH:Z4 X (.builtin "len") (λxs H Q=>∃z,xs=[.str z]/\z.length<=sizeLine/\Q (.int z.length) H):=by intro aa s σ H xs a Q I r h;obtain⟨z,rfl,hz,q⟩:=h;obtain⟨u,rfl,t,rfl⟩:=VR r;have b:=KU;exact len_str (by lia) ⟨.int z.length,H,I.tok _,⟨_,rfl⟩,q⟩
def Z4.or{f:Uq}{r r':List V->Hp->VK->Prop}(h:Z4 X f r)(h':Z4 X f r'):Z4 X f (λxs H Q=>r xs H Q∨r' xs H Q):=by
 intro aa s σ H xs a Q I b q;rcases q with q|q
 ·exact h aa s σ H xs a Q I b q
 ·exact h' aa s σ H xs a Q I b q
def FI:Z4 X (.type "list") (λxs H Q=>∃p ys,xs=[.ref p]/\(XR X.K H p ys∨VE X.K H p ys)/\∀l,H l=b4->Q (.ref l) (upd H l (.lst ys))):=by
 intro aa s σ H xs m Q I r h;obtain⟨p,ys,rfl,d,q⟩:=h;obtain⟨u,rfl,j⟩:=VR r;cases j;have f:∀(a:List Uq),aY ys a->ys.length<=sizeLine->∀(h':Vb) (c:Nat),(∀b o',s.heap.get? b=b3 o'->h'.get? b=b3 o')->
   h'.get? s.heap.objs.size=b3 {cls:=.type "list",dict:=b4,data:=.seq a.toArray c,slots:= #[]}->EP X aa σ Q (.ref s.heap.objs.size) {s with heap:=h'}:=λa r' hz h' c kp e=>
  ⟨.ref s.heap.objs.size,_,I.laid (t':=s.toks) kp (Ao _) (show ZV X.prog X.w _ h' _ (.lst ys) from⟨hz,a,c,r',e⟩),rfl,q _ (I.hok.fresh (Ao _))⟩
 rcases d with d|d
 ·obtain⟨a,r',pl,hz⟩:=I.list d
  have k:=r'.length;obtain⟨o,g,hc,n,i⟩:=pl.isList;exact call_list_seq p (.inl rfl) g hc i (λh' c kp e=>f a r' hz h' c kp e) (by simp only[Am]<;>lia)
 ·obtain⟨a,r',pl,hz⟩:=I.tuple d
  have k:=r'.length;obtain⟨o,g,hc,n,i⟩:=pl;exact call_list_seq p (.inr rfl) g hc i (λh' c kp e=>f a r' hz h' c kp e) (by simp only[Am]<;>lia)
def JQ:Z4 X (.type "tuple") (λxs H Q=>∃p ys,xs=[.ref p]/\((XR X.K H p ys/\∀l,H l=b4->Q (.ref l) (upd H l (.tup ys)))∨(VE X.K H p ys/\Q (.ref p) H))):=by
 intro aa s σ H xs i Q I r h;obtain⟨p,ys,rfl,h⟩:=h;obtain⟨u,rfl,f⟩:=VR r;cases f;rcases h with⟨c,q⟩|⟨c,q⟩
 ·obtain⟨a,r',pl,hz⟩:=I.list c
  have j:=r'.length;refine call_tuple_list pl.isList (λh' kp=>?_) (by simp only[Am]<;>lia);have d:bS X aa σ H {s with heap:=h'}:=I.kept (t':=s.toks) kp;have g:bS X aa σ (upd H h'.objs.size (.tup ys)) {s with heap:=h'.push {cls:=.type "tuple",data:=.seq a.toArray}}:=
   d.laid (t':=s.toks) (λb o e=>Ad _ e) (Ao _) (show ZV X.prog X.w _ _ _ (.tup ys) from⟨hz,a,r',Kj _ _⟩)
  exact⟨.ref h'.objs.size,_,g,rfl,q _ (d.hok.fresh (Ao _))⟩
 ·obtain⟨a,r',pl,hz⟩:=I.tuple c
  exact call_tuple_same pl ⟨.ref p,H,I,rfl,q⟩
def tyV(K:Ai)(T:String)(x:V)(H:Hp):Prop:=match x with
 |.str _=>T= "str"
 |.int _=>T= "int"
 | .ref p => (T = "list" /\ ∃ xs,XR K H p xs) ∨ (T = "tuple" /\ ∃ o,K.lookup p = b3 o /\ o.cls = .type "tuple" /\ o.dict = b4) ∨
   (T= "dict" /\((∃kvs,H p=b3 (.dK kvs))∨∃kvs,H p=b3 (.dT kvs)))∨(T= "set" /\∃S n,H p=b3 (.set S n))
 |_=>False
def qy{aa:List (Ur×Ve)}{σ:St}{H:Hp}{s:Ae}{T:String}{x:V}{v:Uq}(I:bS X aa σ H s)(r:aV x v)(ty:tyV X.K T x H):s.TypeIs v T/\∀a,v=.ref a->∃ob,s.heap.get? a=b3 ob/\ob.dict=b4:=by
 cases x with
 |str z=>
  obtain⟨t,rfl⟩:=r;cases (show T= "str" from ty);exact⟨typeIs_str s z t,λ_ e=>nomatch e⟩
 |int i=>
  obtain⟨t,rfl⟩:=r;cases (show T= "int" from ty);exact⟨Nl s i t,λ_ e=>nomatch e⟩
 |ref p=>
  cases r;rcases ty with⟨rfl,xs,h⟩|⟨rfl,o,b,hc,d⟩|⟨rfl,b⟩|⟨rfl,S,n,b⟩
  ·obtain⟨g,_,pl,_⟩:=I.list h
   refine⟨pl.isList.typeIs,λa e=>?_⟩;cases e;obtain⟨o,n,e,c,d,_⟩:=pl;exact⟨o,e,d⟩
  ·refine ⟨⟨o,I.kIn p o b,hc⟩,λa e => ?_⟩
   cases e;exact⟨o,I.kIn _ o b,d⟩
  ·have z: ∃o,s.heap.get? p=b3 o/\o.ExactDict:=by
    rcases b with⟨kvs,b⟩|⟨kvs,b⟩
    ·obtain⟨_,_,_,_,o,_,_,e,ex,_⟩:=I.hok p _ b
     exact⟨o,e,ex⟩
    ·obtain⟨_,_,_,_,o,_,_,e,ex,_⟩:=I.hok p _ b
     exact⟨o,e,ex⟩
   obtain⟨o,e,ex⟩:=z;refine⟨⟨o,e,ex.1⟩,λa f=>?_⟩;cases f;exact⟨o,e,ex.2.1⟩
  ·obtain⟨o,_,_,_,e,ex,_⟩:=I.hok p _ b
   refine⟨⟨o,e,ex.1⟩,λa f=>?_⟩;cases f;exact⟨o,e,ex.2.1⟩
 |_=>exact Gy ty
def tBM(K:Ai)(T:String)(r:V->List V->Hp->VK->Prop)(to:TE)(t:TA):TE:=λσ H Q=>to σ H λx H1=>tyV K T x H1/\t σ H1 λxs H2=>r x xs H2 Q
variable{o e:Ux}{es:List Ux}{to:TE}{t:TA}{name:Uv}{aj af:Pos}{T id:String}{r:V->List V->Hp->VK->Prop}
def Ze(pa:PlainAttrs T)(slot:Slot T name id)(a:Nw (.builtin id)=pure (.type "method_descriptor"))(k:MtR X id r)(j:PE X o to)(l:PA X (e::es) t)(n:Ff o name X.env (eval o X.env)=eval o X.env:=by rfl)(m:((Dx af (Uu (e::es) X.env)).all (λx=> !x.1)&&(Ho af (Fb [] X.env)).all (λx=>x.1.isSome)&&decide ((e::es).length+([]:List Hr).length+(if([]:List Hr).isEmpty then 0 else 1)<30))=ba:=by rfl)(p:(aj.endLine==af.line)=ba:=by rfl)(i:Uu (e::es) X.env=(bb,eval e X.env)::Uu es X.env:=by rfl)(q:(Dx af (Uu es X.env)).any (·.1)=bb:=by rfl):PE X (.Call (.Attribute o name aj) (e::es) [] af) (tBM X.K T r to t):=by intro aa s σ H Q I h;refine wpAny_Call_method_late n m p rfl (Y3 (j aa s σ H _ I h) λv s1 ⟨x,H1,d,b,ty,q1⟩=>?_);obtain⟨h1,h2⟩:=qy d b ty;refine⟨T,id,pa,slot,a,h1,h2,?_⟩;have c:=l af aa s1 σ H1 _ d q1;rw[i]at c⊢;refine Fl (by show(bb || (Dx af (Uu es X.env)).any (·.1))=bb;rw[q]<;>rfl) (Em ?_);exact Y3 c λf s2 ⟨vs,H2,u,g,q2⟩=>k aa s2 σ H2 x vs v f Q u b g q2
end
def MtM(X:Cx)(id:String)(r:V->List V->Hp->VK->Prop):Prop:=
 ∀(aa:List (Ur×Ve)) (s:Ae) (σ:St) (H:Hp) (x:V) (xs:List V) (v:Uq) (a:List Uq) (Q:VK),bS X aa σ H s->aV x v->aY xs a->r x xs H Q->
  Us (Ut X.prog X.w) X.A (call (.builtin id) (v::a)) (EP X aa σ Q) X.xe s
theorem aY.one:∀{x:V}{a:List Uq},aY [x] a->∃u,a=[u]/\aV x u
 |_,_,.cons r .nil=>⟨_,rfl,r⟩
theorem aY.eraseIdx:∀{xs:List V}{a:List Uq}(i:Nat),aY xs a->aY (xs.eraseIdx i) (a.eraseIdx i)
 |_,_,_,.nil=>.nil
 |_,_,0,.cons _ t=>t
 |_,_,i+1,.cons r t=>.cons r (aY.eraseIdx i t)
section
variable{X:Cx}{aa:List (Ur×Ve)}{σ:St}{H:Hp}{s:Ae}{l b:Ur}{xs ys zs:List V}
def bS.lset{a its':List Uq}{n:Nat}{f:Array Uq->Array Uq}{t':Nat}(I:bS X aa σ H s)(h:H l=b3 (.lst xs))(e:s.heap.get? l=b3 {cls:=.type "list",data:=.seq a.toArray n})(d:f a.toArray=its'.toArray)(b:aY ys its')(hz:ys.length<=sizeLine):bS X aa σ (upd H l (.lst ys)) {s with heap:=s.heap.update l (Hb f),toks:=t'}:=by have q:=PySem.IsL.update e f;rw[d]at q;refine I.write (x:=l) (e:=l) (by rw[h];exact trivial) (.inl rfl) (λi u g c=>(Gk s.heap (Hb f) (Dj g)).trans c) ⟨_,q⟩ ?_;exact⟨hz,its',_,b,q⟩
def bS.lnew{a:List Uq}{t':Nat}(I:bS X aa σ H s)(b:aY ys a)(hz:ys.length<=sizeLine):bS X aa σ (upd H s.heap.objs.size (.lst ys)) {s with heap:=s.heap.push {cls:=.type "list",data:=.seq a.toArray},toks:=t'}:=
 I.laid (λ_ _ q=>Ad _ q) (Ao _) ⟨hz,a,0,b,An _ rfl⟩
def bS.fresh(I:bS X aa σ H s):H s.heap.objs.size=b4:=I.hok.fresh (Ao _)
def bS.lstM(I:bS X aa σ H s)(b:H l=b3 (.lst xs)):xs.length<=sizeLine/\∃(a:List Uq) (n:Nat),aY xs a/\xs.length=a.length/\s.heap.get? l=b3 {cls:=.type "list",data:=.seq a.toArray n}:=by obtain⟨z,a,n,r,e⟩:=I.hok l _ b;exact⟨z,a,n,r,r.length,e⟩
def qv{n:Nat}(h:n<=sizeLine):Fz n=bb:=by unfold Fz;exact decide_eq_false (by lia)
end
section
variable{X:Cx}
def GK:V->List V->Hp->VK->Prop:=λx vs H Q=>∃l xs y,x=.ref l/\vs=[y]/\H l=b3 (.lst xs)/\xs.length<sizeLine/\Q .non (upd H l (.lst (xs++[y])))
def ZW:MtM X "list.append" GK:=by intro aa s σ H x vs v g Q I c d h;obtain⟨l,xs,y,rfl,rfl,b,hz,q⟩:=h;cases c;obtain⟨u,rfl,f⟩:=d.one;obtain⟨z,a,n,r,hl,e⟩:=I.lstM b;refine Ga F.slot_list_append ⟨_,e,rfl⟩ F.entry_list_append (F.args_list_append_2 _ _) (PySem.list_append l a.toArray n u (by rw[Am];lia)) ⟨e,?_⟩;refine⟨.non,_,I.lset (its':=a++[u]) b e (by simp) (r.append (.cons f .nil)) ?_,rfl,q⟩;rw[Cc,Jq];lia
end
section
variable{prog:Av}{w:Uy}{A:Bz}{E:Uq->Ae->Prop}{s:Ae}
set_option maxRecDepth 100000 in
end
section
variable{κ:Type}[DecidableEq κ]
noncomputable def UV(kvs:List (κ×V))(k:κ):Option V:=(kvs.find? λa=>decide (a.1=k)).map (·.2)
noncomputable def X8(kvs:List (κ×V))(k:κ)(v:V):List (κ×V):=
 if(kvs.any λa=>decide (a.1=k))=ba then kvs.map (λa=>if a.1=k then(a.1,v)else a)else kvs++[(k,v)]
def UW{p:κ×V}{r:List (κ×V)}{k:κ}(e:p.1=k):UV (p::r) k=b3 p.2:=by simp[UV,Gp,e]
def VQ{p:κ×V}{r:List (κ×V)}{k:κ}(e:¬p.1=k):UV (p::r) k=UV r k:=by simp[UV,Gp,e]
theorem PC(k:κ):∀kvs:List (κ×V),(kvs.any λa=>decide (a.1=k))=(UV kvs k).isSome
 |[]=>rfl
 |p::r=>by
  rw[Hc];by_cases e:p.1=k
  ·simp only[UW e,decide_eq_true e,Bool.true_or,Pd]
  ·rw[VQ e,decide_eq_false e,Tf];exact PC k r
def U5(kvs:List (κ×V))(k:κ)(v:V):(X8 kvs k v).length<=kvs.length+1:=by
 unfold X8;split
 ·rw[Bm];lia
 ·rw[Cc,Cg,Mw];lia
def gU{kvs:List (κ×V)}{k:κ}(v:V)(h:UV kvs k=b4):X8 kvs k v=kvs++[(k,v)]:=by unfold X8;rw[PC,h];exact if_neg (by decide)
def QR.isSome_eq{o:Option V}{u:Option Uq}(r:QR o u):o.isSome=u.isSome:=by
 cases o with
 |none=>cases u with
  |none=>rfl
  |some _=>exact(show False from r).elim
 |some _=>cases u with
  |none=>exact(show False from r).elim
  |some _=>rfl
def QR.getD{o:Option V}{u:Option Uq}{d:V}{d':Uq}(r:QR o u)(a:aV d d'):aV (o.getD d) (u.getD d'):=by
 cases o with
 |none=>cases u with
  |none=>exact a
  |some _=>exact(show False from r).elim
 |some _=>cases u with
  |none=>exact(show False from r).elim
  |some _=>exact r
def KV.val{kvs:List (κ×V)}{vs:List (κ×Uq)}(r:KV kvs vs)(k:κ):QR (UV kvs k) (Qb vs k):=by
 unfold KV at r;induction r with
 |nil=>exact True.intro
 | @cons p q ps qs h t c=>
  obtain⟨h1,h2⟩:=h;by_cases e:p.1=k
  ·have a:q.1=k:=h1.symm.trans e
   have b:Qb (q::qs) k=b3 q.2:=by simp[Qb,Gp,a]
   rw[UW e,b];exact h2
  ·have a : ¬ q.1 = k := λz => e (h1.trans z)
   have b:Qb (q::qs) k=Qb qs k:=by simp[Qb,Gp,a]
   rw[VQ e,b];exact c
def KV.any{kvs:List (κ×V)}{vs:List (κ×Uq)}(r:KV kvs vs)(k:κ):(kvs.any λa=>decide (a.1=k))=vs.any λa=>decide (a.1=k):=by
 unfold KV at r;induction r with
 |nil=>rfl
 |cons h t b=>rw[Hc,Hc,b,h.1]
def KV.repl{kvs:List (κ×V)}{vs:List (κ×Uq)}(r:KV kvs vs)(k:κ){y:V}{u:Uq}(b:aV y u):KV (kvs.map λa=>if a.1=k then(a.1,y)else a) (vs.map λa=>if a.1=k then(a.1,u)else a):=by
 unfold KV at r⊢;induction r with
 |nil=>exact .nil
 | @cons p q ps qs h t c=>
  rw[Bg,Bg];refine .cons ?_ c;obtain⟨h1,h2⟩:=h;by_cases e:p.1=k
  ·rw[if_pos e,if_pos (h1.symm.trans e)];exact⟨h1,b⟩
  ·rw[if_neg e,if_neg (λz=>e (h1.trans z))];exact⟨h1,h2⟩
def KV.put{kvs:List (κ×V)}{vs:List (κ×Uq)}(r:KV kvs vs)(k:κ){y:V}{u:Uq}(a:aV y u):KV (X8 kvs k y) (Tw vs k u):=by
 unfold X8 Tw;rw[r.any k];by_cases e:(vs.any λb=>decide (b.1=k))=ba
 ·rw[if_pos e,if_pos e];exact r.repl k a
 ·rw[if_neg e,if_neg e];exact Uj r ⟨rfl,a⟩
def KV.length{kvs:List (κ×V)}{vs:List (κ×Uq)}(r:KV kvs vs):kvs.length=vs.length:=Ic r
end
def OP{P:Av}{w:Uy}{k:Z5}{u:Uq}(r:aV (kV k) u):(Z9 P w).is k u=ba:=by
 cases k with
 |inl i=>obtain⟨t,e⟩:=(show∃t,u=Ru i t from r);subst e;exact D1 P w i t
 |inr x=>obtain⟨t,e⟩:=(show∃t,u=Mr x t from r);subst e;exact D2 P w x t
theorem HW{P:Av}{w:Uy}:∀{ks:List Z5}{a:List Uq},aY (ks.map kV) a->ItemsAre (Z9 P w) ks a
 |[],_,r=>by rw[Ef]at r;cases r;exact .nil
 |k::ks,_,r=>by
  rw[Bg]at r;cases r with
  |cons h t=>exact .cons (OP h) (HW t)
abbrev KT(H:Hp):List (List Z5×V)->List (List Z5×Ur×Uq)->Prop:=Paired λp q=>p.1=q.1/\H q.2.1=b3 (.tup (p.1.map kV))/\aV p.2 q.2.2
def KT.val{H:Hp}{kvs:List (List Z5×V)}{xs:List (List Z5×Ur×Uq)}(r:KT H kvs xs)(k:List Z5):QR (UV kvs k) ((atKey xs k).map (·.2)):=by
 induction r with
 |nil=>exact True.intro
 | @cons p q ps qs h t c=>
  obtain⟨h1,_,h2⟩:=h;by_cases e:p.1=k
  ·have a:q.1=k:=h1.symm.trans e
   have b:atKey (q::qs) k=b3 q.2:=by simp[atKey,Gp,a]
   rw[UW e,b];exact h2
  ·have a : ¬ q.1 = k := λz => e (h1.trans z)
   have b:atKey (q::qs) k=atKey qs k:=by simp[atKey,Gp,a]
   rw[VQ e,b];exact c
def KT.repl{H:Hp}{kvs:List (List Z5×V)}{xs:List (List Z5×Ur×Uq)}(r:KT H kvs xs)(k:List Z5){y:V}{u:Uq}(b:aV y u):KT H (kvs.map λa=>if a.1=k then(a.1,y)else a) (xs.map (putAt k u)):=by
 induction r with
 |nil=>exact .nil
 | @cons p q ps qs h t c=>
  rw[Bg,Bg];refine .cons ?_ c;obtain⟨h1,h2,d⟩:=h;unfold putAt;by_cases e:p.1=k
  ·rw[if_pos e,if_pos (h1.symm.trans e)];exact⟨h1,h2,b⟩
  ·rw[if_neg e,if_neg (λz=>e (h1.trans z))];exact⟨h1,h2,d⟩
def KT.put{H:Hp}{kvs:List (List Z5×V)}{xs:List (List Z5×Ur×Uq)}(r:KT H kvs xs)(k:List Z5){b:Ur}{y:V}{u:Uq}(d:H b=b3 (.tup (k.map kV)))(a:aV y u):KT H (X8 kvs k y) (storedH xs k b u):=by
 have e:(kvs.any λc=>decide (c.1=k))=(atKey xs k).isSome:=by rw[PC,(r.val k).isSome_eq,Ln]
 unfold X8 storedH;rw[e];by_cases q:(atKey xs k).isSome=ba
 ·rw[if_pos q,if_pos q];exact r.repl k a
 ·rw[if_neg q,if_neg q];exact Uj r ⟨rfl,d,a⟩
def KT.keeps{H H':Hp}{kvs:List (List Z5×V)}{xs:List (List Z5×Ur×Uq)}(r:KT H kvs xs)(a:∀b ys,H b=b3 (.tup ys)->H' b=b3 (.tup ys)):KT H' kvs xs:=
 Paired.mapP r λ_ _ z=>⟨z.1,a _ _ z.2.1,z.2.2⟩
section
variable{P:Av}{w:Uy}{H:Hp}{h:Vb}{a:Ur}
def Yc{u:HO}(ok:QQ P w H h)(e:Rd H a u):ZV P w H h a u:=e.ok ok
def MQ{kvs:List (Z5×V)}(ok:QQ P w H h)(e:Rd H a (.dK kvs)):kvs.length<=sizeLine/\(a==Ew)=bb/\∃vs,KV kvs vs/\h.DictOf (Z9 P w) a vs:=
 show ZV P w H h a (.dK kvs) from Yc ok e
def Xy{kvs:List (Z5×V)}(ok:QQ P w H h)(e:H a=b3 (.dK kvs)):kvs.length<=sizeLine/\(a==Ew)=bb/\∃vs,KV kvs vs/\h.DictOf (Z9 P w) a vs:=MQ ok (.inl e)
def RS{ks:List Z5}(ok:QQ P w H h)(e:H a=b3 (.tup (ks.map kV))):(tupleKind (Z9 P w)).is h ks a:=by obtain⟨_,b,r,o,h1,h2,n,c⟩:=(show ZV P w H h a (.tup (ks.map kV)) from ok a _ e);exact⟨o,b.toArray,n,h1,h2,c,by simpa using HW r⟩
def MR{kvs:List (List Z5×V)}(ok:QQ P w H h)(e:Rd H a (.dT kvs)):kvs.length<=sizeLine/\(a==Ew)=bb∧ ∃xs,KT H kvs xs/\h.DictOfH (tupleKind (Z9 P w)) a xs:=by
 obtain⟨z,y,xs,r,o,es,ep,h1,h2,i,g,f⟩:=(show ZV P w H h a (.dT kvs) from Yc ok e);refine⟨z,y,xs,r,o,es,ep,h1,h2,i,g,λx b=>?_,f⟩;have all:∀{l:List (List Z5×V)}{m:List (List Z5×Ur×Uq)},KT H l m->∀x∈m,(tupleKind (Z9 P w)).is h x.1 x.2.1:=by
  intro l m q;induction q with
  |nil=>intro x b;exact nomatch b
  | @cons p q ps qs c t d=>
   intro x b;rcases Al.mp b with e|b
   ·subst e
    exact RS ok (by rw[<-c.1];exact c.2.1)
   ·exact d x b
 exact all r x b
def Ym{kvs:List (List Z5×V)}(ok:QQ P w H h)(e:H a=b3 (.dT kvs)):kvs.length<=sizeLine/\(a==Ew)=bb∧ ∃xs,KT H kvs xs/\h.DictOfH (tupleKind (Z9 P w)) a xs:=MR ok (.inl e)
end
def U9(H:Hp)(a:Ur)(y:V)(r:Option V):Prop:=
 (∃kvs k,Rd H a (.dK kvs)/\y=kV k/\r=UV kvs k)∨∃kvs k b,Rd H a (.dT kvs)/\y=.ref b/\H b=b3 (.tup (k.map kV))/\r=UV kvs k
def JG(H:Hp)(a:Ur)(y v:V)(H':Hp):Prop:=
 (∃kvs k,H a=b3 (.dK kvs)/\y=kV k/\kvs.length<sizeLine/\H'=upd H a (.dK (X8 kvs k v)))∨
 ∃kvs k b,H a=b3 (.dT kvs)/\y=.ref b/\H b=b3 (.tup (k.map kV))/\kvs.length<sizeLine/\H'=upd H a (.dT (X8 kvs k v))
def U9.k{H:Hp}{a:Ur}{kvs:List (Z5×V)}{k:Z5}(e:H a=b3 (.dK kvs)):U9 H a (kV k) (UV kvs k):=.inl ⟨kvs,k,.inl e,rfl,rfl⟩
def U9.t{H:Hp}{a b:Ur}{kvs:List (List Z5×V)}{k:List Z5}(e:H a=b3 (.dT kvs))(c:H b=b3 (.tup (k.map kV))):U9 H a (.ref b) (UV kvs k):=.inr ⟨kvs,k,b,.inl e,rfl,c,rfl⟩
def JG.k{H:Hp}{a:Ur}{kvs:List (Z5×V)}{k:Z5}{v:V}(e:H a=b3 (.dK kvs))(hl:kvs.length<sizeLine):JG H a (kV k) v (upd H a (.dK (X8 kvs k v))):=.inl ⟨kvs,k,e,rfl,hl,rfl⟩
def JG.t{H:Hp}{a b:Ur}{kvs:List (List Z5×V)}{k:List Z5}{v:V}(e:H a=b3 (.dT kvs))(c:H b=b3 (.tup (k.map kV)))(hl:kvs.length<sizeLine):JG H a (.ref b) v (upd H a (.dT (X8 kvs k v))):=.inr ⟨kvs,k,b,e,rfl,c,hl,rfl⟩
section
variable{X:Cx}{aa:List (Ur×Ve)}{σ:St}{H:Hp}{s:Ae}{a:Ur}{y v:V}{u r:Uq}{o:Option V}{A:Bz}{E:Uq->Ae->Prop}
def bS.big(I:bS X aa σ H s):Ew<s.heap.objs.size:=by have h:Uw<s.heap.objs.size:=(I.mod.glob.keeps I.bk).lt;exact Qt (by decide) h
def iQ{Q:Uq->Ae->Prop}(n:A.units+1<cLine)(I:bS X aa σ H s)(g:U9 H a y (b3 v))(m:aV y u)(h:∀f s',bS X aa σ H s'->aV v f->Q f s'):Us (Ut X.prog X.w) A (Lz (.ref a) u) Q E s:=by
 rcases g with⟨kvs,k,e,j,l⟩|⟨kvs,k,b,e,j,t,l⟩
 ·subst j
  obtain⟨z,r,vs,d,dd⟩:=MQ I.hok e;obtain⟨f,hw,c⟩:=QR.some_of (v:=v) (o:=Qb vs k) (by rw[l];exact d.val k);exact wpAny_getItem_of (OP m) dd.mapOf hw (h f _ (I.tok _) c)
 ·subst j
  cases (show u=Ay b from m);obtain⟨z,r,xs,d,dd⟩:=MR I.hok e;obtain⟨f,hw,c⟩:=QR.some_of (v:=v) (o:=(atKey xs k).map (·.2)) (by rw[l];exact d.val k);obtain⟨p,q,i⟩:=Aj.mp hw;refine wpAny_getItem_heap (Fp n) (RS I.hok t) dd q ?_;rw[i];exact h f _ (I.tok _) c
def d_in{Q:Uq->Ae->Prop}(j:A.units+1<cLine)(I:bS X aa σ H s)(g:U9 H a y o)(i:aV y u)(h:∀s',bS X aa σ H s'->Q (.bool o.isSome) s'):Us (Ut X.prog X.w) A (Cr .In u (.ref a)) Q E s:=by
 rcases g with⟨kvs,k,e,f,l⟩|⟨kvs,k,b,e,f,m,l⟩
 ·subst f
  obtain⟨z,d,vs,c,dd⟩:=MQ I.hok e;refine wpAny_in_of (OP i) d dd.mapOf ?_;rw[<-(c.val k).isSome_eq,<-l];exact h _ (I.tok _)
 ·subst f
  cases (show u=Ay b from i);obtain⟨z,d,xs,c,dd⟩:=MR I.hok e;refine wpAny_in_heap (Fp j) (RS I.hok m) d dd ?_;have q:=(c.val k).isSome_eq;rw[Ln]at q;rw[<-q,<-l];exact h _ (I.tok _)
def om{Q:Uq->Ae->Prop}(j:A.units+1<cLine)(I:bS X aa σ H s)(g:U9 H a y o)(i:aV y u)(h:∀s',bS X aa σ H s'->Q (.bool (!o.isSome)) s'):Us (Ut X.prog X.w) A (Cr .NotIn u (.ref a)) Q E s:=by
 rcases g with⟨kvs,k,e,f,l⟩|⟨kvs,k,b,e,f,m,l⟩
 ·subst f
  obtain⟨z,d,vs,c,dd⟩:=MQ I.hok e;refine wpAny_notIn_of (OP i) d dd.mapOf ?_;rw[<-(c.val k).isSome_eq,<-l];exact h _ (I.tok _)
 ·subst f
  cases (show u=Ay b from i);obtain⟨z,d,xs,c,dd⟩:=MR I.hok e;refine wpAny_notIn_heap (Fp j) (RS I.hok m) d dd ?_;have q:=(c.val k).isSome_eq;rw[Ln]at q;rw[<-q,<-l];exact h _ (I.tok _)
def LW{h':Vb}{t':Nat}{ob:HO}(I:bS X aa σ H s)(c:Mut (H a))(d:Es a s.heap h')(f:∃q,h'.get? a=b3 q)(new:ZV X.prog X.w (upd H a ob) h' a ob):bS X aa σ (upd H a ob) {s with heap:=h',toks:=t'}:=
 I.write (x:=a) (e:=a) c (.inl rfl) (λb q g z=>(d.2 b g).trans z) f new
def BR{P:Av}{w:Uy}{H':Hp}{h':Vb}{kvs:List (Z5×V)}{vs:List (Z5×Uq)}(z:kvs.length<=sizeLine)(c:(a==Ew)=bb)(b:KV kvs vs)(dd:h'.DictOf (Z9 P w) a vs):ZV P w H' h' a (.dK kvs):=⟨z,c,vs,b,dd⟩
def qP{H':Hp}{Q:Unit->Ae->Prop}(C:A.units+1<cLine)(I:bS X aa σ H s)(g:JG H a y v H')(p:aV y u)(t:aV v r)(h:∀s',bS X aa σ H' s'->Q () s'):Us (Ut X.prog X.w) A (setItem (.ref a) u r) Q E s:=by
 rcases g with⟨kvs,k,e,n,l,o⟩|⟨kvs,k,b,e,n,B,l,o⟩
 ·subst n o
  obtain⟨z,m,vs,d,dd⟩:=Xy I.hok e;have hz:vs.length<=sizeLine:=by rw[<-d.length];exact z
  have hl:(X8 kvs k v).length<=sizeLine:=by have:=U5 kvs k v;lia
  refine wpAny_setItem_pairs (hsz:=hz) (OP p) dd λh' f j=>h _ ?_;have D:∃q,h'.get? a=b3 q:=let ⟨q,_,_,i,_⟩:=f;⟨q,i⟩
  exact LW I (by rw[e];exact True.intro) j D (BR hl m (d.put k t) f)
 ·subst n o
  cases (show u=Ay b from p);obtain⟨z,m,xs,d,dd⟩:=Ym I.hok e;have hz:xs.length<=sizeLine:=by rw[<-Ic d];exact z
  have hl:(X8 kvs k v).length<=sizeLine:=by have:=U5 kvs k v;lia
  refine wpAny_setItem_heap (hsz:=hz) (Fp C) (RS I.hok B) dd λh' f j=>h _ ?_;obtain⟨q,es,ep,i,h2,J,G,_,F⟩:=f;refine LW I (by rw[e];exact True.intro) j ⟨q,i⟩ ⟨hl,m,_,(d.put k B t).keeps λc ys x=>?_,q,es,ep,i,h2,J,G,F⟩;rw[bL (Ye x e (λz=>nomatch z))];exact x
end
def DL{X:Cx}{aa:List (Ur×Ve)}{σ:St}{H:Hp}{s:Ae}{a:Ur}{y:V}{o:Option V}(I:bS X aa σ H s)(g:U9 H a y o):s.TypeIs (.ref a) "dict":=by
 rcases g with⟨kvs,k,e,_,_⟩|⟨kvs,k,b,e,_,_,_⟩
 ·obtain⟨_,_,vs,_,dd⟩:=MQ I.hok e
  exact dd.typeIs
 ·obtain⟨_,_,xs,_,dd⟩:=MR I.hok e
  exact dd.typeIs
def lY(td ty tv:TE):TS:=λD σ H=>tv σ H λv H1=>td σ H1 λx H2=>ty σ H2 λy c=>∃a b,x=.ref a/\JG c a y v b/\D.nx σ b
section
variable{X:Cx}{o i e value:Ux}{pos bh cg:Pos}{td ty tv:TE}
def AB(f:X.A.units+1<cLine)(k:PE X o td)(hi:PE X i ty)(e:PE X value tv)(j:Vc value (b3 (.Subscript o i bh)) pos.line X.env=pure bb):PS X (.Assign [.Subscript o i bh] value pos) (lY td ty tv):=by intro aa s σ H D I h;refine wpAny_Assign_Subscript (Y3 (e aa s σ H _ I h) λr s1 ⟨v,H1,p,d,q1⟩=>Y3 (k aa s1 σ H1 _ p q1) λu s2 ⟨x,H2,n,c,q2⟩=>Y3 (hi aa s2 σ H2 _ n q2) λt s3 ⟨y,w,m,b,a,q,ex,g,q3⟩=>?_) j;subst ex;obtain rfl:u=Ay a:=c;exact qP f m g b d λs4 l=>⟨σ,q,l,q3⟩
end
def DM{P:Av}{w:Uy}{H:Hp}(h:Vb)(a:Ew<h.objs.size):ZV P w H (h.push {cls:=.type "dict",data:=.dict #[]}) h.objs.size (.dK []):=
 ⟨Cn _,beq_eq_false_iff_ne.mpr (Dj (Au a)),[],.nil,Sc h⟩
def DN{P:Av}{w:Uy}{H:Hp}(h:Vb)(a:Ew<h.objs.size):ZV P w H (h.push {cls:=.type "dict",data:=.dict #[]}) h.objs.size (.dT []):=
 ⟨Cn _,beq_eq_false_iff_ne.mpr (Dj (Au a)),[],.nil,_,#[],0,An _ rfl,⟨rfl,rfl,rfl⟩,rfl,rfl,Nx⟩
def jK:TE:=λ_ H Q=>∀p,H p=b4->Q (.ref p) (upd H p (.dK []))
def iS:TE:=λ_ H Q=>∀p,H p=b4->Q (.ref p) (upd H p (.dT []))
section
variable{X:Cx}{pos:Pos}
def zEX:PE X (.Dict [] [] pos) jK:=λaa s σ H Q I h=>
 wpAny_Dict_empty ⟨.ref s.heap.objs.size,_,I.laid (a:=s.heap.objs.size) (o:=.dK []) (t':=s.toks) (λ_ _ q=>Ad _ q) (Ao _) (DM s.heap I.big),rfl,h _ (I.hok.fresh (Ao _))⟩
def zEW:PE X (.Dict [] [] pos) iS:=λaa s σ H Q I h=>
 wpAny_Dict_empty ⟨.ref s.heap.objs.size,_,I.laid (a:=s.heap.objs.size) (o:=.dT []) (t':=s.toks) (λ_ _ q=>Ad _ q) (Ao _) (DN s.heap I.big),rfl,h _ (I.hok.fresh (Ao _))⟩
end
def KY(kvs more:List (Z5×V)):List (Z5×V):=more.foldl (λacc a=>X8 acc a.1 a.2) kvs
def KV.merge:∀{more:List (Z5×V)}{a:List (Z5×Uq)}{kvs:List (Z5×V)}{vs:List (Z5×Uq)},KV more a->KV kvs vs->KV (KY kvs more) (merged vs a):=by
 intro more a kvs vs r;unfold KV at r;induction r generalizing kvs vs with
 |nil=>intro q;exact q
 | @cons p q ps qs h t c=>
  intro b;have e:KV (X8 kvs p.1 p.2) (Tw vs q.1 q.2):=by
   have:=b.put p.1 h.2
   rw[<-h.1];exact this
  exact c e
structure M1(X:Cx)(o:Ux)(m:Uv)(aj:Pos)(e:Ux)(af:Pos):Prop where
 base:Ff o m X.env (eval o X.env)=eval o X.env
 few:((Dx af (Uu [e] X.env)).all (λx=> !x.1)&&(Ho af (Fb [] X.env)).all (λx=>x.1.isSome)
  && decide (([e]:List Ux).length+([]:List Hr).length+(if([]:List Hr).isEmpty then 0 else 1)<30))=ba
 line:(aj.endLine==af.line)=ba
 trees:Dx af (Uu [e] X.env)=[(bb,eval e X.env)]
structure M2(X:Cx)(o:Ux)(m:Uv)(aj:Pos)(e f:Ux)(af:Pos):Prop where
 base:Ff o m X.env (eval o X.env)=eval o X.env
 few:((Dx af (Uu [e,f] X.env)).all (λx=> !x.1)&&(Ho af (Fb [] X.env)).all (λx=>x.1.isSome)
  && decide (([e,f]:List Ux).length+([]:List Hr).length+(if([]:List Hr).isEmpty then 0 else 1)<30))=ba
 line:(aj.endLine==af.line)=ba
 trees:Dx af (Uu [e,f] X.env)=[(bb,eval e X.env),(bb,eval f X.env)]
def IsD(H:Hp)(a:Ur):Prop:=(∃kvs,Rd H a (.dK kvs))∨∃kvs,Rd H a (.dT kvs)
def cX{X:Cx}{aa:List (Ur×Ve)}{σ:St}{H:Hp}{s:Ae}{a:Ur}(I:bS X aa σ H s)(d:IsD H a):s.TypeIs (.ref a) "dict" /\(∀b,Ay a=.ref b->∃ob,s.heap.get? b=b3 ob/\ob.dict=b4)/\(a==Ew)=bb:=by
 rcases d with⟨kvs,e⟩|⟨kvs,e⟩
 ·obtain⟨_,c,vs,_,dd⟩:=MQ I.hok e
  refine⟨dd.typeIs,λb q=>?_,c⟩;cases q;obtain⟨ob,_,_,h1,h2,_⟩:=dd;exact⟨ob,h1,h2.2.1⟩
 ·obtain⟨_,c,xs,_,dd⟩:=MR I.hok e
  refine⟨dd.typeIs,λb q=>?_,c⟩;cases q;obtain⟨ob,_,_,h1,h2,_⟩:=dd;exact⟨ob,h1,h2.2.1⟩
section
variable{X:Cx}{aa:List (Ur×Ve)}{σ:St}{H:Hp}{s:Ae}{a:Ur}{y d:V}{u r:Uq}{o:Option V}{A:Bz}{E:Uq->Ae->Prop}
def jN{Q:Uq->Ae->Prop}(m:A.units+1<cLine)(I:bS X aa σ H s)(g:U9 H a y o)(j:aV y u)(h:∀i s',bS X aa σ H s'->aV (o.getD .non) i->Q i s'):Us (Ut X.prog X.w) A (call (.builtin "dict.get") [.ref a,u]) Q E s:=by
 rcases g with⟨kvs,k,e,f,l⟩|⟨kvs,k,b,e,f,n,l⟩
 ·subst f
  obtain⟨z,d,vs,c,dd⟩:=MQ I.hok e;refine Mx Eg dd.typeIs Fm (Im _ _) (meets_dict_get (Z9 X.prog X.w) a (OP j) d) ⟨_,dd.mapOf,h _ _ (I.tok _) ?_⟩;rw[l];exact(c.val k).getD rfl
 ·subst f
  cases (show u=Ay b from j);obtain⟨z,d,xs,c,dd⟩:=MR I.hok e;refine Mx Eg dd.typeIs Fm (Im _ _) (meetsH_dict_get (tupleKind (Z9 X.prog X.w)) a b d) ⟨Fp m,k,xs,RS I.hok n,dd,h _ _ (I.tok _) ?_⟩;rw[l];exact(c.val k).getD rfl
def jG{Q:Uq->Ae->Prop}(p:A.units+1<cLine)(I:bS X aa σ H s)(g:U9 H a y o)(m:aV y u)(n:aV d r)(h:∀j s',bS X aa σ H s'->aV (o.getD d) j->Q j s'):Us (Ut X.prog X.w) A (call (.builtin "dict.get") [.ref a,u,r]) Q E s:=by
 rcases g with⟨kvs,k,e,i,l⟩|⟨kvs,k,b,e,i,q,l⟩
 ·subst i
  obtain⟨z,f,vs,c,dd⟩:=MQ I.hok e;refine Mx Eg dd.typeIs Fm (Ma _ _ _) (meets_dict_get_default (Z9 X.prog X.w) a (OP m) f r) ⟨_,dd.mapOf,h _ _ (I.tok _) ?_⟩;rw[l];exact(c.val k).getD n
 ·subst i
  cases (show u=Ay b from m);obtain⟨z,f,xs,c,dd⟩:=MR I.hok e;refine Mx Eg dd.typeIs Fm (Ma _ _ _) (meetsH_dict_get_default (tupleKind (Z9 X.prog X.w)) a b f r) ⟨Fp p,k,xs,RS I.hok q,dd,h _ _ (I.tok _) ?_⟩;rw[l];exact(c.val k).getD n
end
def pE(td ty tx:TE):TE:=λσ H Q=>td σ H λx H1=>∃a,x=.ref a/\IsD H1 a/\ty σ H1 λy H2=>tx σ H2 λz b=>∃o,U9 b a y o/\Q (o.getD z) b
section
variable{X:Cx}{o e f:Ux}{aj af:Pos}{td ty tx:TE}
def gQ(n:X.A.units+1<cLine)(p:PE X o td)(r:PE X e ty)(q:PE X f tx)(m:M2 X o "get" aj e f af):PE X (.Call (.Attribute o "get" aj) [e,f] [] af) (pE td ty tx):=by
 intro aa s σ H Q I h;refine Qc m.base m.few m.line Mb Eg My (Y3 (p aa s σ H _ I h) λu s1 ⟨x,H1,c,l,a,ex,d,q1⟩=>?_);subst ex;obtain rfl:u=Ay a:=l;obtain⟨j,i,_⟩:=cX c d;refine⟨j,i,?_⟩;rw[m.trees];refine Fl rfl (Em (Ex (Y3 (r aa s1 σ H1 _ c q1) λE s2 ⟨y,H2,w,k,q2⟩=>
  Ex (Y3 (q aa s2 σ H2 _ w q2) λfv s3 ⟨z,B,v,rz,D,g,q3⟩=>Gz ?_))))
 exact jG n v g k rz λC s4 t b=>⟨_,B,t,b,q3⟩
end
end L2
namespace Att
open PySem PySem.W PySem.Calls PyProof.Rows
def ME{P:Qq}{h:Vb}:∀(ns:List Int) (vs:List Uq),WellAll P h vs (ns.map WData.int)->Kk vs ns:=by
 intro ns;induction ns with
 |nil=>
  intro vs w;rw[Ef]at w;cases w;exact .nil
 |cons n ns c=>
  intro vs w;rw[Bg]at w;cases w with
  |cons a b=>
   cases a;exact .cons _ _ (c _ b)
def mG{l:OpenLaw}{n:Nat}(p:l.most=b3 n){P:Qq}{h:Vb}{args:List WData}{b:List Uq}(c:l.row.toRowW.claim.pre args=ba)(g:WellAll P h b args):∃a vs ns,b=[Ay a]/\args=[WData.list (ns.map WData.int)]/\h.get? a=b3 {cls:=.type "list",data:=.seq vs.toArray}/\Kk vs ns/\ns.length<=n:=by
 have i:WShape.hasAll [] args [.list .int]=ba:=(pre_splitW c).1;have hc:l.pre.holds [] {args:=args}=ba:=(pre_splitW c).2;obtain⟨d,r,rfl,h1,h2⟩:=hasAllW_cons i;obtain rfl:=hasAllW_nil h2;obtain⟨xs,rfl,s⟩:=hasW_list h1;obtain⟨ns,rfl⟩:=items_int s;have u:ns.length<=n:=by
  unfold OpenLaw.pre at hc;have f:(WTm.not (.lt (.lit (.int (n:Int))) (.len (.arg 0)))).holds [] {args:=[.list (ns.map .int)]}=ba:=by have f:=(holds_andW hc).1;rw[p]at f;exact f
  have e:=condW_of f (w_not (w_lt w_lit (w_len_list (w_arg rfl))));rw[Bm]at e;refine Nat.le_of_not_lt λq=>?_;have m:(n:Int)<((ns.length:Nat):Int):=by lia
  first
   |(rw[decide_eq_true m]at e;exact absurd e (by decide))
   |(simp at e;lia)
 cases g with
 |cons k j=>
  cases j;cases k with
  |list o t=>exact⟨_,_,ns,rfl,rfl,o,ME ns _ t,u⟩
def ou(l:OpenLaw)(args:List WData):l.row.toRowW.claim.post args (.bool ba) args=ba:=
 postW_of (r:=l.row.toRowW) (X:=(ba==ba))
  (show Uo [] (.bool ba) .bool=ba by first|rfl|decide|simp[Uo,WShape.arms,WShape.armsAll])
  (show(WTm.eq .res (.lit (.bool ba))).value [] {args:=args,res:=b3 (.bool ba),after:=args}=b3 (.bool (ba==ba)) from w_eq_bool (w_res rfl) w_lit) rfl
def DD{l:OpenLaw}{n:Nat}{q:Av}{loose:List Uv}{XP:(Uv->Option Uq)->Vb->Prop}{YP:Uy->Vb->Prop}{d:DefRec}(z:l.most=b3 n)(m:d.params.defaults=[])(call:∀(w:Uy) (s₀ b:Ae) (mg i:Uv->Option Uq) (fa:Ur) (o:Ve) (h cd doc:Uq) (a:Ur) (vs:List Uq) (ns:List Int),Ground q loose [] XP w s₀ mg i b.heap->YP w b.heap->b.heap.get? fa=b3 o->o.data=.func (docDef d.name d.params d.body d.scope h cd doc)->b.heap.CodeRec cd d.name->mg d.name=b3 (.ref fa)->b.heap.get? a=b3 {cls:=.type "list",data:=.seq vs.toArray}->Kk vs ns->ns.length<=n->b.gens= #[]->Hj (Ut l.prog w) Oh (.call (.ref fa) ⟨[.ref a],[]⟩) (λr s'=>r=.ok (.ret (.bool ba))/\OldK b.heap s'.heap/\s'.os=b.os/\Lw s'.gens) b):WalkO q loose XP YP l.row.toRowW d [] (λf vs=>Sx f vs):=by intro w s₀ b mg i G Y fa o h cd doc H kV y D p u k C args s as e t v j B;obtain rfl:H=.none:=Dflts.none u m;obtain rfl:kV=.none:=Dflts.noKw u;obtain⟨a,vs,ns,rfl,rfl,g,c,I⟩:=mG z e j;refine enter_call (Hw (call w s₀ b mg i fa o h cd doc a vs ns G Y y (fd_plain D) p k g c I C) λr s' x=>?_);obtain⟨rfl,h2,F,E⟩:=x;exact⟨.inl ⟨.bool ba,.bool ba,[],rfl,λ_=>rfl,.bool ba,ou l _,λ_=>⟨Qd,λ_ A=>(nomatch A)⟩⟩,h2,F,E⟩
end Att
namespace L2
open PySem PySem.Spec PyProof.Rows
theorem JA:∀{vs:List Uq}{ns:List Int},Kk vs ns->aY (ns.map V.int) vs
 |_,_,.nil=>.nil
 |_,_,.cons n t h=>.cons ⟨t,rfl⟩ (JA h)
def Only(H:Hp):Prop:=∀b,H b=b4∨∃o xs,H b=b3 (.frz o (.lst xs))
def mB{P:Av}{w:Uy}{K:Ai}{mg A:Uv->Option Uq}{CX:CXT}{k:Nat}{fa a:Ur}{fd:Cj}{x:Uv}{sp:Sp}{c:Ae}{vs:List Uq}{ns:List Int}(Q:K.In c.heap)(j:c.heap.Ns Uw mg)(f:c.heap.Ns builtinsNs A)(D:∀x:Uv,x≠ "__name__" ->A x=Bo x)(U:c.heap.NoLimit)(Z:c.gens= #[])(t:c.heap.get? a=b3 {cls:=.type "list",data:=.seq vs.toArray})(hi:Kk vs ns)(hl:ns.length<=sizeLine)(Y:YU k Oh)(F:∀base:Vb,K.In base->base.Ns Uw mg->W0 P w K mg base CX k fa fd [x] sp)(gq:∀(s:Ae) (u:Uq),Qa s fd ⟨[u],[]⟩ [(x,u)])(B:∀H:Hp,Only H->XR K H a (ns.map V.int)->sp [.ref a] H (λv _=>v=.bl ba) λ_ _ _=>False)(E:∀H e s',CX [] H c (λ_ _ _=>False) e s'->False):Hj (Ut P w) Oh (.call (.ref fa) ⟨[.ref a],[]⟩) (λr s'=>r=.ok (.ret (.bool ba))/\OldK c.heap s'.heap/\s'.os=c.os/\Lw s'.gens) c:=by
 have I:=JA hi;have X:=hi.length;have M: ∀H:Hp,Only H->XR K H a (ns.map V.int)->QQ P w H c.heap->(∀b,H b≠b4->b=a)->(H a≠b4->K.lookup a=b4)->
   Hj (Ut P w) Oh (.call (.ref fa) ⟨[.ref a],[]⟩) (λr s'=>r=.ok (.ret (.bool ba))/\OldK c.heap s'.heap/\s'.os=c.os/\Lw s'.gens) c:=by
  intro H J hS i L hK;have O:∀{b:Ur}{o:Ve},c.heap.get? b=b3 o->H b=b4->(FV c.heap H).get? b=b3 o:=λe n=>iA e n;have y:∀{b:Ur}{o:Ve}{es:Array Kg}{ep:Nat},c.heap.get? b=b3 o->o.data=.dict es ep->H b=b4:=λ{b o es ep} e d=>by
   cases q:H b with
   |none=>rfl
   |some u=>
    have G:b=a:=L b (by rw[q];simp);subst G;rw[t]at e;cases e;have d':Data.seq vs.toArray _=Data.dict es ep:=d;cases d'
  have g:∀{b:Ur}{m:Uv->Option Uq},c.heap.Ns b m->(FV c.heap H).Ns b m:=λ{b m} ⟨o,es,ep,e,d,r⟩=>⟨o,es,ep,O e (y e d),d,r⟩;have l:K.In (FV c.heap H):=λb o e=>O (Q b o e) (by
   cases q:H b with
   |none=>rfl
   |some u=>
    have G:b=a:=L b (by rw[q];simp);subst G;rw[hK (by rw[q];simp)]at e;cases e)
  have hM:Mod K mg (FV c.heap H):=⟨l,g j,⟨A,g f,D⟩,let ⟨T,h1,h2⟩:=U;⟨T,g h1,h2⟩⟩;have e0:Env0 P w K mg (FV c.heap H) Oh [] c H:=⟨rfl,hM,λb o e=>qH e,Nat.le_of_eq (nw _ _),trivial,λb f=>absurd (show b∈([]:List Ur) from f) (by simp),i,.of_eq Z⟩;refine Hw ((F _ l (g j)).run Oh [] c H ⟨[.ref a],[]⟩ [.ref a] [.ref a] _ _ Y e0 (gq c (.ref a)) (.cons rfl .nil) (B H J hS)) λr s' h=>?_;cases r with
  |error e=>exact(E H e s' h).elim
  |ok fl=>
   cases fl with
   |next=>exact Gy h
   |brk=>exact Gy h
   |cont=>exact Gy h
   |ret u=>
    obtain⟨v,H',os,p,un,W,r',q⟩:=h;have S:v=.bl ba:=q;subst S;obtain rfl:u=Gw ba:=r';refine⟨rfl,OldK.of_keep λb o e=>?_,os,p⟩;cases q:H b with
    |none=>exact un.keep b o e q (by intro z;exact absurd (show b∈([]:List Ur) from z) (by simp)) (by simp)
    |some u=>
     rcases J b with z|⟨ob,xs,z⟩
     ·rw[q]at z;cases z
     ·have R:=un.frzs b ob _ z
      obtain⟨N,_⟩:=i b _ z;obtain⟨e2,_⟩:=W b _ R;rw[e]at N;cases N;exact e2
 cases C:K.lookup a with
 |some o=>
  have e:=Q a o C;rw[t]at e;cases e;refine M (λ_=>b4) (λ_=>.inl rfl) (.inr ⟨_,vs.toArray,_,C,rfl,rfl,rfl,by rw[Am,X];exact hl,by simpa using I⟩) (λb u z=>by have z':(b4:Option HO)=b3 u:=z;cases z') (λb z=>absurd rfl z) λz=>absurd rfl z
 |none=>
  refine M (λb=>if b=a then b3 (.frz {cls:=.type "list",data:=.seq vs.toArray} (.lst (ns.map V.int)))else b4) (λb=>?_) (.inl (.inr ⟨{cls:=.type "list",data:=.seq vs.toArray},if_pos rfl⟩)) (λb u z=>?_) (λb z=>?_) λ_=>C
  ·by_cases f:b=a
   ·exact .inr ⟨_,_,if_pos f⟩
   ·exact .inl (if_neg f)
  ·by_cases f:b=a
   ·have z':=(if_pos f).symm.trans z
    cases z';subst f;exact⟨t,by rw[Bm];exact hl,vs,_,I,t⟩
   ·have z':=(if_neg f).symm.trans z
    cases z'
  ·by_cases f:b=a
   ·exact f
   ·exact absurd (if_neg f) z
def rj{l:Tx}{n k:Nat}{q:Av}{loose:List Uv}{XP:(Uv->Option Uq)->Vb->Prop}{YP:Uy->Vb->Prop}{d:DefRec}{K:Qq->Ai}{CX:Uy->CXT}{sp:Uy->Sp}{x:Uv}(C:l.most=b3 n)(p:n<=sizeLine)(t:d.params.defaults=[])(B:YU k Oh)(J:∀(w:Uy) (h:Vb),YP w h->(K w.params).In h)(F:∀(w:Uy) (mg:Uv->Option Uq) (fa:Ur) (h:Vb),(K w.params).In h->h.Ns Uw mg->mg d.name=b3 (.ref fa)->∃fd:Cj,(∀(s:Ae) (u:Uq),Qa s fd ⟨[u],[]⟩ [(x,u)])∧ ∀base:Vb,(K w.params).In base->base.Ns Uw mg->W0 l.prog w (K w.params) mg base (CX w) k fa fd [x] (sp w))(m:∀(w:Uy) (H:Hp) (a:Ur) (ns:List Int),ns.length<=n->Only H->XR (K w.params) H a (ns.map V.int)->sp w [.ref a] H (λv _=>v=.bl ba) λ_ _ _=>False)(y:∀(w:Uy) (H:Hp) (s:Ae) (e:Uq) (s':Ae),CX w [] H s (λ_ _ _=>False) e s'->False):W.WalkO q loose XP YP l.row.toRowW d [] (λf vs=>Sx f vs):=by refine Att.DD C t λw s₀ i mg P fa o O cd doc a vs ns G Y Q R E r j c z D=>?_;have A:=J w _ Y;obtain⟨fd,I,N⟩:=F w mg fa _ A G.T.g r;exact mB A G.T.g G.T.b G.T.builtins G.T.nolimit D j c (Dw z p) B N I (λH M L=>m w H a ns z M L) λH e s'=>y w H i e s'
def zCO{l:Tx}{n k:Nat}{q:Av}{loose:List Uv}{XP:(Uv->Option Uq)->Vb->Prop}{YP:Uy->Vb->Prop}{d:DefRec}{K:Qq->Ai}{CX:CXT}{sp:Ai->Sp}{x:Uv}(m:l.most=b3 n)(c:n<=sizeLine)(g:d.params.defaults=[])(j:YU k Oh)(o:∀(w:Uy) (h:Vb),YP w h->(K w.params).In h)(F:∀(w:Uy) (mg:Uv->Option Uq) (fa:Ur) (h:Vb),(K w.params).In h->h.Ns Uw mg->mg d.name=b3 (.ref fa)->∃fd:Cj,(∀(s:Ae) (u:Uq),Qa s fd ⟨[u],[]⟩ [(x,u)])∧ ∀base:Vb,(K w.params).In base->base.Ns Uw mg->W0 l.prog w (K w.params) mg base CX k fa fd [x] (sp (K w.params)))(b:∀(K:Ai) (H:Hp) (a:Ur) (ns:List Int),ns.length<=n->Only H->XR K H a (ns.map V.int)->sp K [.ref a] H (λv _=>v=.bl ba) λ_ _ _=>False)(i:∀(H:Hp) (s:Ae) (e:Uq) (s':Ae),CX [] H s (λ_ _ _=>False) e s'->False):W.WalkO q loose XP YP l.row.toRowW d [] (λf vs=>Sx f vs):=
 rj (K:=K) (CX:=λ_=>CX) (sp:=λw=>sp (K w.params)) m c g j o F (λw H a ns h1 h2 p=>b (K w.params) H a ns h1 h2 p) λ_ H s e s'=>i H s e s'
def XV(s:Vd):Arguments:=match s with
 |.FunctionDef _ a _ _ _ _ _ _ _ _=>a
 |_=>{posonlyargs:=[],args:=[],vararg:=b4,kwonlyargs:=[],kw_defaults:=[],kwarg:=b4,defaults:=[]}
def Z1(s:Vd):List Vd:=match s with
 |.FunctionDef _ _ b _ _ _ _ _ _ _=>b
 |_=>[]
def b5(s:Vd):Vf:=match s with
 |.FunctionDef _ _ _ _ _ _ a _ _ _=>a
 |_=>{kind:=.function,names:=[],isGenerator:=bb,isCoroutine:=bb}
abbrev CX0:CXT:=λ_ _ _ _ _ _=>False
abbrev E0:XK:=λ_ _ _=>False
def Xp{X:Cx}:BC CX0 X E0:=λ_ _ _ _ _ _ _ h=>h.elim
structure QP(K:Ai)(x qual:Uv)(st:Vd)(f:Ur)(fd:Cj):Prop where
 ex:∃(oc:Uq) (od:Option Ur) (kV doc pm:Uq) (an:Option Ur) (cdv ct:Uq) (osl:Array (Option Uq)),
  fd=Mu x qual (XV st) (Z1 st) (b5 st) .none kV doc pm an cdv ct/\K.lookup f=b3 ⟨oc,od,.func fd,osl⟩/\Rr K cdv qual=ba
 kp:Jm K (.ref f)=ba
section
variable{P:Av}{w:Uy}{K:Ai}{mg:Uv->Option Uq}{base:Vb}
def QP.ok{x qual:Uv}{st:Vd}{f:Ur}{fd:Cj}{N ps:List Uv}{k:Nat}{sp:Sp}(F:QP K x qual st f fd)(S:Z7 N ps (b5 st))(len:∀vs H Q E,sp vs H Q E->vs.length=ps.length)(i:∀(a:Uq) (A:Bz) (outer:List Env) (s:Ae) (H:Hp) (vs:List V) (Q:VK) (E:XK),YU k (A.deeper (envOfC qual (b5 st) s.heap.objs.size f a))->sp vs H Q E->∃t,WP (RJ CX0 P w K mg base N qual (b5 st) f a A outer s H E).nox (Z1 st) t/\t {nx:=λ_ H'=>Q .non H',rt:=Q} (start N vs) H):W0 P w K mg base CX0 (k+1) f fd ps sp:=by obtain⟨l,od,kV,doc,j,m,a,ct,d,rfl,e,c⟩:=F.ex;refine Xj e c S len λA outer s H vs Q E g b=>?_;obtain⟨t,h,q⟩:=i a A outer s H vs Q E g b;exact⟨t,h.nox,q⟩
def QP.binds{x qual:Uv}{st:Vd}{f:Ur}{fd:Cj}{ps:List Uv}(F:QP K x qual st f fd)(h:∀(kV doc c:Uq) (d:Option Ur) (a ct:Uq) (b:List Uq),b.length=ps.length->Pb (Mu x qual (XV st) (Z1 st) (b5 st) .none kV doc c d a ct) ⟨b,[]⟩=pure (ps.zip b)):SS K fd ps []:=by obtain⟨i,od,kV,doc,c,d,a,ct,e,rfl,j,g⟩:=F.ex;exact .all (h kV doc c d a ct)
def FT{x qual:Uv}{st:Vd}{f:Ur}{g:Uq}{od e:Option Ur}{b:Array (Option Uq)}{kV doc d a ct:Uq}(l:K.lookup f=b3 ⟨g,od,.func (Mu x qual (XV st) (Z1 st) (b5 st) .none kV doc d e a ct),b⟩)(c:Rr K a qual=ba)(k:Jm K (.ref f)=ba):QP K x qual st f (Mu x qual (XV st) (Z1 st) (b5 st) .none kV doc d e a ct):=⟨⟨g,od,kV,doc,d,e,a,ct,b,rfl,l,c⟩,k⟩
end
def Zz{A:Bz}{k:Nat}(a:YU k A):A.units+1<cLine:=Pe (Nat.add_le_add_left (by decide:1<=64) _) a.units
section
variable{X:Cx}
def pv(i:Nat){x:Uv}{pos:Pos}(d:X.N[i]?=b3 x:=by rfl)(b:Vis X.env.scope x:=by first|exact Dy rfl|exact Cm (Dy rfl)|exact Cm (Cm rfl))(c:(x==("__debug__":Uv))=bb:=by decide)(a:(x==("__classdict__":Uv))=bb:=by decide):PE X (.Name x pos) (VC i):=CF d b c a
end
def NG{A B:Prop}(h:B):if bb=ba then A else B:=by rw[if_neg Ch];exact h
def NH{A B:Prop}(h:A):if ba=ba then A else B:=by rw[if_pos rfl];exact h
def aN(H H':Hp):Prop:=∀b o,H b=b3 o->H' b=b3 o
def aN.refl(H:Hp):aN H H:=λ_ _ h=>h
def aN.trans{H H1 H2:Hp}(a:aN H H1)(b:aN H1 H2):aN H H2:=λc o h=>b c o (a c o h)
def aN.seq{K:Ai}{H H':Hp}{a:Ur}{xs:List V}(e:aN H H')(h:XR K H a xs):XR K H' a xs:=by
 rcases h with(h|⟨o,h⟩)|h
 ·exact .inl (.inl (e _ _ h))
 ·exact .inl (.inr ⟨o,e _ _ h⟩)
 ·exact .inr h
theorem FK{env:Env}{f:Uv×Vh->List (Uv×Ur)->Vk (ForInStep (List (Uv×Ur)))}(g:∀n k r,f (n,k) r=if(k==Bu)=ba then(cellOf env n>>=λc=>pure (Fi ((n,c)::r)))else pure (Fi r)):∀(names:List (Uv×Vh)) (cs:List (Uv×Ur)),(∀y∈names,y.2=.free->∃c,env.cells.lookup y.1=b3 c)->∃cl,forIn names cs f=(pure cl:Vk (List (Uv×Ur)))/\(∀x c,cl.lookup x=b3 c->cs.lookup x=b3 c∨env.cells.lookup x=b3 c)∧(∀x c,cs.lookup x=b3 c->∃d,cl.lookup x=b3 d)/\∀x,(x,Bu)∈names->∃c,cl.lookup x=b3 c
 |[],cs,_=>⟨cs,rfl,λ_ _ e=>.inl e,λ_ c e=>⟨c,e⟩,λ_ h=>nomatch h⟩
 | (n,k) :: r,cs,h => by
  have o:∀y∈r,y.2=.free->∃c,env.cells.lookup y.1=b3 c:=λy p=>h y (Aq _ p);by_cases i:k=.free
  ·subst i
   obtain⟨c,hc⟩:=h (n,.free) At rfl;have hc:env.cells.lookup n=b3 c:=hc;obtain⟨cl,m,l,b,j⟩:=FK g r ((n,c)::cs) o;refine⟨cl,?_,λx d e=>?_,λx d e=>?_,λx a=>?_⟩
   ·rw [Kl,g,if_pos (show (Bu == Bu) = ba by decide)]
    have t:cellOf env n=pure c:=by unfold cellOf;rw[hc]
    rw[t,pure_bind,pure_bind];exact m
   ·rcases l x d e with q|q
    ·by_cases a:x=n
     ·subst a
      rw[Eh]at q;cases q;exact .inr hc
     ·rw[Co,beq_eq_false_iff_ne.mpr a]at q
      exact .inl q
    ·exact .inr q
   ·by_cases a:x=n
    ·subst a
     exact b x c (Eh ..)
    ·refine b x d ?_
     rw[Co,beq_eq_false_iff_ne.mpr a];exact e
   ·rcases Al.mp a with q|q
    ·cases q
     exact b n c (Eh ..)
    ·exact j x q
  ·obtain⟨cl,m,l,b,j⟩:=FK g r cs o
   refine⟨cl,?_,l,b,λx a=>?_⟩
   ·have s : ¬ (k == Bu) = ba := by simpa using i
    rw[Kl,g,if_neg s,pure_bind];exact m
   ·rcases Al.mp a with q|q
    ·cases q
     exact absurd rfl i
    ·exact j x q
def FL{env:Env}{scope:Vf}(h:∀y∈scope.names,y.2=.free->∃c,env.cells.lookup y.1=b3 c):∃cl,closureFor scope env=pure cl/\(∀x c,cl.lookup x=b3 c->env.cells.lookup x=b3 c)/\∀x,(x,Bu)∈scope.names->∃c,cl.lookup x=b3 c:=by
 simp only[closureFor];obtain⟨cl,a,d,_,b⟩:=FK (env:=env) (f:=λx r=>match x with
  |(name,kind)=>if(kind==Bu)=ba then(cellOf env name>>=λc=>pure (Fi ((name,c)::r)))else pure (Fi r)) (λ_ _ _=>rfl) scope.names [] h
 refine⟨cl,?_,λx c e=>?_,b⟩
 ·first
   |exact a
   |(refine Eq.trans (congrArg (λm=>m>>=pure) a) ?_;exact pure_bind _ _)
 ·rcases d x c e with q|q
  ·cases q
  ·exact q
def YV(ix:List Nat)(σ:St):St:=ix.map λi=>(σ[i]?).join
def PTs(Y:Cx)(ifs:List Ux)(tt:TT):Prop:=
 ∀(aa:List (Ur×Ve)) (s:Ae) (σ:St) (H:Hp) (Q:Bool->Hp->Prop),bS Y aa σ H s->tt σ H Q->
  Us (Ut Y.prog Y.w) Y.A (forIn ifs ba λc r=>if r=ba then do let ok<-isTrue c Y.env (eval c Y.env);pure (Fi ok)else pure (Fi r)) (TP Y aa σ Q) Y.xe s
def GX:TT:=λ_ H Q=>Q ba H
def L9{Y:Cx}:PTs Y [] GX:=λ_ _ _ H _ I h=>wpAny_tests_nil ⟨H,I,h⟩
def fK{Y:Cx}{c:Ux}{tt:TT}(h:PT Y c tt):PTs Y [c] tt:=λaa s σ H Q I hw=>wpAny_tests_one (h aa s σ H Q I hw)
structure Blk(Y:Cx)(tg:Ux)(ifs:List Ux)(elt:Ux)(g:TG)(tt:TT)(te:TE):Prop where
 tg:PG Y tg g
 ts:PTs Y ifs tt
 el:PE Y elt te
section
variable{X:Cx}{aa:List (Ur×Ve)}{σ:St}{H H':Hp}{s s1 s':Ae}{h'':Vb}
def bS.offNew{a:St}{H1:Hp}(d:bS X aa σ H1 s1)(i:bS X aa a H' s')(h:H' s1.heap.objs.size=b4)(f:∀b o,b≠s1.heap.objs.size->s'.heap.get? b=b3 o->h''.get? b=b3 o):bS X aa a H' {s' with heap:=h''}:=
 i.turned (t':=s'.toks) (it:=s1.heap.objs.size) f h (Hu d.lt) (.inr d.sz)
  (λx c e z => by
   obtain⟨v,q⟩:=d.cell x c e;have:=q.lt
   rw[z]at this;exact Ci _ this)
  λp g z=>by
   have:=Ak (d.pin p g).1
   rw[z]at this;exact Ci _ this
end
abbrev TM:=St->Hp->(St->Hp->Prop)->Prop
inductive G7(D:Ur)(o0:HO)(ix:List Nat)(nl:Nat)(J:It)(g:TG)(tt:TT)(tm:Ur->TM)(σ:St)(H0:Hp)(Q:Hp->Prop):Prop
 |mk (W:Nat->Nat->Hp->Prop) (m:Nat) (h0:W 0 m (upd H0 D o0)) (h1:∀i m H1,W i m H1->(J.stop i H1/\Q H1)∨
  (J.go i H1/\ ∃N:Hp->Prop,(∀H',N H'-> ∃m',m'<m/\W (i+1) m' H')∧
   ∀x H2,J.yld i H1 x H2->g x (YV ix σ++Az nl b4) H2 λσ2 H3=>σ2.take ix.length=YV ix σ∧
    tt σ2 H3 λb H4=>if b=ba then tm D σ2 H4 (λσ' H'=>σ'.take ix.length=YV ix σ/\N H')else N H4)):G7 D o0 ix nl J g tt tm σ H0 Q
def tmL(te:TE)(D:Ur):TM:=λσ H N=>te σ H λv a=>∃acc,a D=b3 (.lst acc)/\acc.length<sizeLine/\N σ (upd a D (.lst (acc++[v])))
theorem O0{env:Env}{x:Uv}:∀{l:List (Uv×Vh)},l.lookup x=b3 .free->(l.map λ(n,k)=>if(k==Bu&&env.scope.kind== .function&&env.kindOf n==b3 .cell)then(n,Ck)else(n,k)).lookup x=b3 .cell∨(l.map λ(n,k)=>if(k==Bu&&env.scope.kind== .function&&env.kindOf n==b3 .cell)then(n,Ck)else(n,k)).lookup x=b3 .free
 |[],h=>by cases h
 | (n,k) :: r,h => by
  show Hs x ((if(k==Bu&&env.scope.kind== .function&&env.kindOf n==b3 .cell)=ba then(n,Ck)else(n,k))::_)=b3 .cell∨Hs x ((if(k==Bu&&env.scope.kind== .function&&env.kindOf n==b3 .cell)=ba then(n,Ck)else(n,k))::_)=b3 .free;by_cases c:x=n
  ·subst c
   rw[Eh]at h;cases h;by_cases hc:(Bu==Bu&&env.scope.kind== .function&&env.kindOf x==b3 .cell)=ba
   ·left
    rw[if_pos hc,Eh]
   ·right
    rw[if_neg hc,Eh]
  ·have a:(x==n)=bb:=beq_eq_false_iff_ne.mpr c
   simp only[Co,a]at h;have b:=O0 (env:=env) h;by_cases hc:(k==Bu&&env.scope.kind== .function&&env.kindOf n==b3 .cell)=ba
   ·rw[if_pos hc]
    simp only[Co,a];exact b
   ·rw[if_neg hc]
    simp only[Co,a];exact b
def GW(ix:List Nat)(nl:Nat)(wi:TI)(g:TG)(tt:TT)(tm:Ur->TM):TE:=λσ H Q=>wi σ H λJ H0=>∀D,H0 D=b4->G7 D (.lst []) ix nl J g tt tm σ H0 λH'=>Q (.ref D) H'
abbrev Wk(ix:List Nat)(nl:Nat)(wi:TI)(g:TG)(tt:TT)(te:TE):TE:=GW ix nl wi g tt (tmL te)
mutual
inductive Dp(K:Ai)(H:Hp):V->Ny->Prop
 |non:Dp K H .non .none
 |bl (b:Bool):Dp K H (.bl b) (.bool b)
 |int (i:Int):Dp K H (.int i) (.int i)
 |str (x:Uv):Dp K H (.str x) (.str x)
 |lst {a:Ur}{xs:List V}{ds:List Ny}:XR K H a xs->J0 K H xs ds->Dp K H (.ref a) (.list ds)
 |tup {a:Ur}{xs:List V}{ds:List Ny}:VE K H a xs->J0 K H xs ds->Dp K H (.ref a) (.tuple ds)
inductive J0(K:Ai)(H:Hp):List V->List Ny->Prop
 |nil:J0 K H [] []
 |cons {v:V}{vs:List V}{d:Ny}{ds:List Ny}:Dp K H v d->J0 K H vs ds->J0 K H (v::vs) (d::ds)
end
section
variable{X:Cx}{aa:List (Ur×Ve)}{σ:St}{H:Hp}{s:Ae}
mutual
theorem bS.reads(I:bS X aa σ H s):∀{v:V}{d:Ny}{u:Uq},Dp X.K H v d->aV v u->∃as,Reads s.heap u d as
 |_,_,_,.non,r=>by cases r;exact⟨_,.none⟩
 |_,_,_,.bl b,r=>by cases r;exact⟨_,.bool b⟩
 |_,_,_,.int i,r=>by obtain⟨t,rfl⟩:=r;exact⟨_,.int i t⟩
 |_,_,_,.str x,r=>by obtain⟨t,rfl⟩:=r;exact⟨_,.str x t⟩
 |_,_,_,.lst q all,r=>by
  cases r;obtain⟨f,a,⟨o,n,e,c,_,d⟩,_⟩:=I.list q;obtain⟨as,h⟩:=bS.readsAll I all a;exact⟨_,.list e c d (by simpa using h)⟩
 |_,_,_,.tup q all,r=>by
  cases r;obtain⟨f,a,⟨o,e,c,n,d⟩,_⟩:=I.tuple q;obtain⟨as,h⟩:=bS.readsAll I all a;exact⟨_,.tuple e c d (by simpa using h)⟩
theorem bS.readsAll(I:bS X aa σ H s):∀{vs:List V}{ds:List Ny}{a:List Uq},J0 X.K H vs ds->aY vs a->∃as,ReadsAll s.heap a ds as
 |_,_,_,.nil,r=>by cases r;exact⟨_,.nil⟩
 | _,_,_,.cons h t,r => by
  cases r with
  |cons c b=>
   obtain⟨as,h1⟩:=bS.reads I h c;obtain⟨bs,h2⟩:=bS.readsAll I t b;exact⟨_,.cons h1 h2⟩
end
end
def rEqD(K:Ai):R2:=λx y H Q=>∃d e,Dp K H x d/\Dp K H y e/\Et d=ba/\Et e=ba/\Q (.bl (Ka d e)) H
def rNeD(K:Ai):R2:=λx y H Q=>∃d e,Dp K H x d/\Dp K H y e/\Et d=ba/\Et e=ba/\Q (.bl (!PyData.eqv d e)) H
section
variable{X:Cx}
def hU(g:X.A.units+64<cLine):WM X (Cr .Eq) (rEqD X.K):=by intro aa s σ H x y v u Q I f c h;obtain⟨d,e,j,i,b,a,q⟩:=h;obtain⟨as,h1⟩:=I.reads j f;obtain⟨bs,h2⟩:=I.reads i c;exact eq_dataH h1 h2 b a g (FP I q rfl)
def pU(g:X.A.units+64<cLine):WM X (Cr .NotEq) (rNeD X.K):=by intro aa s σ H x y v u Q I f c h;obtain⟨d,e,j,i,b,a,q⟩:=h;obtain⟨as,h1⟩:=I.reads j f;obtain⟨bs,h2⟩:=I.reads i c;exact ne_dataH h1 h2 b a g (FP I q rfl)
def rngP(p:Ur)(a b c:Int):Vb->Prop:=λh=>∃t u v,IsRange h p a b c t u v
inductive HA:List Kg->List (Uv×V)->Prop
 |nil:HA [] []
 |cons {e:Kg}{es:List Kg}{x:Uv}{t:Vm}{v:V}{D:List (Uv×V)}:e.key=.str x t->aV v e.val->HA es D->HA (e::es) ((x,v)::D)
def KTab(K:Ai)(a:Ur)(D:List (Uv×V)):Prop:=
 (a==Ew)=bb/\∃o es ep,K.lookup a=b3 o/\o.ExactDict/\o.data=.dict es ep/\HA es.toList D
def HA.rows{es:List Kg}{D:List (Uv×V)}(h:HA es D):KTD.Rows aV es D:=by
 induction h with
 |nil=>exact .nil
 |cons h1 h2 _ a=>exact .cons h1 h2 a
def DU{A:Bz}{E:Uq->Ae->Prop}{s:Ae}{K:Ai}{prog:Av}{w:Uy}{a:Ur}{D:List (Uv×V)}{k:Uv}{tk:Vm}{Q:Option Uq->Ae->Prop}(p:K.In s.heap)(T:KTab K a D)(h1:∀d v,Fu k D=b3 d->aV d v->Q (b3 v) {s with toks:=s.toks+1})(h2:Fu k D=b4->Q b4 {s with toks:=s.toks+1}):Us (Ut prog w) A (dictGet a (.str k tk)) Q E s:=by
 obtain⟨_,o,es,ep,g,hc,j,c⟩:=T;have g:=p _ _ g;have c:=c.rows;unfold dictGet;try with_reducible refine Bp ?_
 refine Aa (wpAny_pyHash_str (Aa (KTD.kt_dictFind_strs (s:={s with toks:=s.toks+1}) g j (by obtain⟨l⟩:=es;simpa using c.exact) ?_)));have f:Q (findBy (λk v=>v.isStr k) es k) {s with toks:=s.toks+1}:=by
  have n:findBy (λk v=>v.isStr k) es k=(es.toList.find? λe=>e.key.isStr k).map (·.val):=by obtain⟨l⟩:=es;simp[findBy]
  rw[n];cases b:Fu k D with
  |some d=>obtain⟨v,m,h⟩:=c.find_some b;rw[m];exact h1 d v b h
  |none=>rw[c.find_none b];exact h2 b
 rw[findBy_of_findIdx?]at f;cases hi:es.findIdx? λe=>e.key.isStr k with
 |none=>rw[hi]at f;exact Ag f
 |some i=>rw[hi]at f;exact Aa (Je (s:={s with toks:=s.toks+1}) g j (Ag f))
def nE:IxR X (λx y H Q=>∃a k D v,x=.ref a/\y=.str k/\KTab X.K a D/\Fu k D=b3 v/\Q v H):=by
 intro value c aa s σ H x y v u Q I l j h n;obtain⟨a,k,D,d,rfl,rfl,T,f,q⟩:=h;cases l;obtain⟨t,rfl⟩:=j;have b:s.TypeIs (.ref a) "dict":=by obtain⟨_,o,es,ep,p,hc,_⟩:=T;exact⟨o,I.kIn _ _ p,hc.1⟩
 have main:Us (Ut X.prog X.w) X.A (Lz (.ref a) (.str k t)) (EP X aa σ Q) X.xe s:=by
  unfold Lz;try with_reducible refine Bp ?_
  refine Aa (Lm b (by decide) ?_);refine Aa (Cs (name:=Bj "__getitem__") b Le
   (Dm Le b PySem.F.entry_dict_getitem ?_ (PySem.F.args_dict_getitem_2 _ _)))
  show Us _ _ (dictGet a (.str k t)>>=_) _ _ s;exact Aa (DU I.kIn T (λd' i g m=>Ag ⟨i,rfl,Ag (by rw[f]at g;cases g;exact⟨d,H,I.tok _,m,q⟩)⟩) λe=>by rw[f]at e;cases e)
 exact Td b PySem.F.slot_dict_getitem.lookup main n
end
section
variable{prog:Av}{w:Uy}{A:Bz}{E:Uq->Ae->Prop}{s:Ae}
theorem HM{it t:Ur}{items:Array Uq}(g:t≠it):∀(n i:Nat) (s:Ae) (Q:List Uq->Ae->Prop),s.heap.IsListIter it t i->s.heap.IsList t items->i+n<=items.size->(∀h',h'.IsListIter it t (i+n)->Es it s.heap h'->Q ((items.toList.drop i).take n) {s with heap:=h'})->Us (Ut prog w) A (draw (.ref it) n) Q E s
 |0,i,s,Q,e,_,_,j=>by show Us _ _ (pure []) Q E s;exact Ag (by simpa using j s.heap e (Heap.SameBut.refl ..))
 |n+1,i,s,Q,e,l,m,j=>by
  have h:i<items.size:=by lia
  show Us _ _ (pyNext (.ref it)>>=_) Q E s;refine Aa (Mn e l (x:=items[i]) (by simp[h]) λk c a=>?_);refine Aa (Bp (HM g n (i+1) _ _ c (l.extBut a.extBut g) (by lia) λf b d=>Ag ?_));have o:items.toList.drop i=items[i]::items.toList.drop (i+1):=by simp[Dn,h]
  have:=j f (by rw[show i+(n+1)=i+1+n by lia];exact b) (a.trans d)
  rw[o,List.take_succ_cons]at this;exact this
def NP{t:Ur}{items:Array Uq}{Q:List Uq->Ae->Prop}(n:A.handled=b4)(k:s.heap.IsList t items)(p:∀h',Jf s.heap.objs.size s.heap h'->Q items.toList {s with heap:=h'}):Us (Ut prog w) A (Ki (.ref t) items.size b4) Q E s:=by
 have j:t≠s.heap.objs.size:=by obtain⟨o,l,_⟩:=k;exact Au (Ak l)
 unfold Ki;refine Aa ?_
 ·unfold notIterableAtAll
  refine Aa (wpAny_specialOf k.typeIs PySem.F.slot_list_iter.lookup ?_);refine Ag ?_;simp only[El,if_false];refine Aa (Bp (Fx k ?_));have i:(s.heap.push {cls:=.type "list_iterator",data:=.fields #[.ref t,.int 0 0]}).IsList t items:=by obtain⟨o,l,r⟩:=k;exact⟨o,Ad _ l,r⟩
  refine Aa (Bp (HM j items.size 0 _ _ ⟨_,An _ rfl,rfl,rfl⟩ i (by lia) λh c a=>?_));have q:List.take items.size (List.drop 0 items.toList)=items.toList:=by rw[Nz];exact Ce (by simp)
  rw[q];rw[if_neg (by simp)];have d:h.IsList t items:=i.extBut a.extBut j;refine Aa (Bp (Ms n c d (by simp) λg f=>?_));simp only[Option.isSome_none,El,if_false];refine Ag (p g λb o m e=>f b o m (a.extBut b o m (Ad _ e)))
def N9{env:Env}{a:List Ux}{x1}{pos:Pos}{t:Ur}{items:Array Uq}{Q:Unit->Ae->Prop}(d:A.handled=b4)(b:s.heap.IsList t items)(c:(Va a env).length=items.size)(e:(Va a env).findIdx? (·.1)=b4)(h:∀h',Jf s.heap.objs.size s.heap h'->Us (Ut prog w) A (Vi ((Va a env).map (·.2)) items.toList) Q E {s with heap:=h'}):Us (Ut prog w) A (Gg (.Tuple a x1 pos) env (.ref t)) Q E s:=by rw[assign_Tuple];refine Aa (Dz ?_);unfold unpack;rw[c,e];exact Aa (Bp (NP d b h))
end
section
variable{X:Cx}{pos:Pos}
def gLst(K:Ai)(n:Nat)(t:TGs):TG:=λv σ H Q=>∃a xs,v=.ref a/\XR K H a xs/\xs.length=n/\t xs σ H Q
def mH{es:List Ux}{k:Nat}{t:TGs}{n:Nat}(hc:X.calm=ba)(h:PGs X es t)(l:(Va es X.env).length=n:=by rfl)(c:(Va es X.env).findIdx? (·.1)=b4:=by rfl):PG X (.Tuple es k pos) (gLst X.K n t):=by intro aa s σ H v u Q I r hw;obtain⟨a,xs,m,j,hl,hw⟩:=hw;subst m;cases r;obtain⟨f,d,i,hz⟩:=I.list j;refine N9 (I.ok.hd hc) i.isList (by simp[l,<-hl,d.length]) c λh' g=>?_;have p:bS X aa σ H {s with heap:=h'}:=I.kept (t':=s.toks) λb o e=>g b o (Au (Ak e)) e;exact h aa _ σ H xs _ Q p (by simpa using d) hw
def FnAt(X:Cx)(f:Ur)(sp:Sp):Prop:=∃(k:Nat) (fd:Cj) (ps:List Uv),W0 X.prog X.w X.K X.mg X.base CX0 k f fd ps sp/\YU k X.A/\Jm X.K (.ref f)=ba/\SS X.K fd ps []
def mI(X:Cx)(a:TE)(t:TA):TE:=λσ H Q=>a σ H λx H1=>∃f sp,x=.ref f/\FnAt X f sp/\t σ H1 λvs H2=>sp vs H2 Q E0
end
section
variable{X:Cx}{K:Ai}
def fJ(h:X.K=K:=by rfl):Z4 X (.type "list") (λxs H Q=>∃p ys,xs=[.ref p]/\(XR K H p ys∨VE K H p ys)/\∀l,H l=b4->Q (.ref l) (upd H l (.lst ys))):=by subst h;exact FI
def gJ(h:X.K=K:=by rfl):Z4 X (.type "tuple") (λxs H Q=>∃p ys,xs=[.ref p]/\((XR K H p ys/\∀l,H l=b4->Q (.ref l) (upd H l (.tup ys)))∨(VE K H p ys/\Q (.ref p) H))):=by subst h;exact JQ
def kEqD(a:X.A.units+64<cLine)(h:X.K=K:=by rfl):WM X (Cr .Eq) (rEqD K):=by subst h;exact hU a
def OM(a:X.A.units+64<cLine)(h:X.K=K:=by rfl):WM X (Cr .NotEq) (rNeD K):=by subst h;exact pU a
def Zl(h:X.K=K){es:List Ux}{k:Nat}{t:TGs}{n:Nat}{pos:Pos}(hc:X.calm=ba)(c:PGs X es t)(b:(Va es X.env).length=n:=by rfl)(a:(Va es X.env).findIdx? (·.1)=b4:=by rfl):PG X (.Tuple es k pos) (gTup K n t):=by subst h;exact cO hc c b a
def ln(h:X.K=K){es:List Ux}{k:Nat}{t:TGs}{n:Nat}{pos:Pos}(hc:X.calm=ba)(c:PGs X es t)(b:(Va es X.env).length=n:=by rfl)(a:(Va es X.env).findIdx? (·.1)=b4:=by rfl):PG X (.Tuple es k pos) (gLst K n t):=by subst h;exact mH hc c b a
def Xl(h:X.K=K){tg l:Ux}{tl:TE}(hl:PE X l tl):PI X tg l (Xo K tl):=by subst h;exact pQ hl
def cL(h:X.K=K){tg l:Ux}{tl:TE}(hl:PE X l tl):PI X tg l (iTup K tl):=by subst h;exact Xq hl
def kBm(h:X.K=K:=by rfl){o e:Ux}{es:List Ux}{to:TE}{t:TA}{name:Uv}{aj af:Pos}{T id:String}{r:V->List V->Hp->VK->Prop}(pa:PlainAttrs T)(slot:Slot T name id)(a:Nw (.builtin id)=pure (.type "method_descriptor"))(d:MtR X id r)(c:PE X o to)(f:PA X (e::es) t)(i:Ff o name X.env (eval o X.env)=eval o X.env:=by rfl)(g:((Dx af (Uu (e::es) X.env)).all (λx=> !x.1)&&(Ho af (Fb [] X.env)).all (λx=>x.1.isSome)&&decide ((e::es).length+([]:List Hr).length+(if([]:List Hr).isEmpty then 0 else 1)<30))=ba:=by rfl)(j:(aj.endLine==af.line)=ba:=by rfl)(b:Uu (e::es) X.env=(bb,eval e X.env)::Uu es X.env:=by rfl)(k:(Dx af (Uu es X.env)).any (·.1)=bb:=by rfl):PE X (.Call (.Attribute o name aj) (e::es) [] af) (tBM K T r to t):=by subst h;exact Ze pa slot a d c f i g j b k
end
def BI:Bo "len"=b3 (.builtin "len"):=by decide+kernel
def jQ:Bo "min"=b3 (.builtin "min"):=by decide+kernel
def iF:Bo "max"=b3 (.builtin "max"):=by decide+kernel
def M8:Bo "sorted"=b3 (.builtin "sorted"):=by decide+kernel
def bA:Bo "isinstance"=b3 (.builtin "isinstance"):=by decide+kernel
def QZ:Bo "list"=b3 (.type "list"):=by decide+kernel
def YE:Bo "tuple"=b3 (.type "tuple"):=by decide+kernel
def pq:Bo "range"=b3 (.type "range"):=by decide+kernel
def ku:Bo "bool"=b3 (.type "bool"):=by decide+kernel
def oj:Bo "int"=b3 (.type "int"):=by decide+kernel
def rB:Bo "str"=b3 (.type "str"):=by decide+kernel
structure Def(P:Av)(w:Uy)(K:Ai)(mg:Uv->Option Uq)(base:Vb)(x:Uv)(k:Nat)(ps:List Uv)(sp:Sp)(f:Ur):Prop where
 at_:mg x=b3 (.ref f)
 ok:∃fd,W0 P w K mg base CX0 k f fd ps sp/\SS K fd ps []
 kp:Jm K (.ref f)=ba
section
variable{X:Cx}{x:Uv}{k j:Nat}{ps:List Uv}{sp:Sp}{f:Ur}{p pos:Pos}{e:Ux}{es:List Ux}{t:TA}
def jZ(D:Def X.prog X.w X.K X.mg X.base x k ps sp f)(c:YU j X.A)(d:k<=j)(g:Gl X x)(i:PA X (e::es) t)(b:(x==("__debug__":Uv))=bb:=by decide)(h:Uu (e::es) X.env=(bb,eval e X.env)::Uu es X.env:=by rfl)(a:(Dx pos (Uu es X.env)).any (·.1)=bb:=by rfl):PE X (.Call (.Name x p) (e::es) [] pos) (AU sp [] E0 t):=by obtain⟨fd,F,B⟩:=D.ok;exact mP F (c.mono d) g D.at_ D.kp B .nil Xp i b h a
def Def.fnAt(D:Def X.prog X.w X.K X.mg X.base x k ps sp f)(a:YU j X.A)(b:k<=j):FnAt X f sp:=by obtain⟨fd,F,B⟩:=D.ok;exact⟨k,fd,ps,F,a.mono b,D.kp,B⟩
end
def b7{H:Hp}{p:Ur}{o:HO}(a:H p=b4):aN H (upd H p o):=λb o' e=>by rw[bL (W9 e a)];exact e
def EK(ns:List Int):Et (.list (ns.map Qe))=ba:=by
 have h1:Gj (.list (ns.map Qe))=ba:=by simp only[Gj,canLayAll_ints]
 have h2:Jr (.list (ns.map Qe))<=64:=by simp only[Jr,depthAll_ints];decide
 unfold Et;rw[h1,decide_eq_true h2];rfl
abbrev SE(X:Cx)(a:Ux)(es:List Ux):Prop:=Uu (a::es) X.env=(bb,eval a X.env)::Uu es X.env
abbrev ND(x:Uv):Prop:=(x==("__debug__":Uv))=bb
abbrev LO(X:Cx)(x:Uv):Prop:=X.fn x=ba∨X.env.scope.names.lookup x=b3 .local
abbrev Ky:=Z5
inductive cH where
 |non|bl (b:Bool)|int (i:Int)|str (x:Uv)|ty (n:String)|fn (x:Uv)|tup (ds:List cH)|lst (ds:List cH)|dct (ks:List Z5) (ds:List cH)|exn (x:Uv)|exr (x n:Uv) (d:cH)|dcn (ks:List (List Ky)) (ds:List cH)
def FzL(K:Ai)(H:Hp)(a:Ur)(xs:List V):Prop:=
 (∃o,H a=b3 (.frz o (.lst xs)))∨
  ∃(o:Ve) (b:Array Uq) (n:Nat),K.lookup a=b3 o/\o.cls=.type "list" /\o.dict=b4/\o.data=.seq b n/\b.size<=sizeLine/\aY xs b.toList
def FzL.sq{K:Ai}{H:Hp}{a:Ur}{xs:List V}(h:FzL K H a xs):XR K H a xs:=by
 rcases h with⟨o,h⟩|h
 ·exact .inl (.inr ⟨o,h⟩)
 ·exact .inr h
def Vz(h:Vb)(a C:Ur):Prop:=∃o vs,h.get? a=b3 o/\o.cls=.ref C/\o.data=.fields vs
def Yw(h:Vb)(a C D:Ur):Prop:=∃o vs,h.get? a=b3 o/\o.cls=.ref C/\o.data=.fields vs/\o.dict=b3 D
mutual
inductive aT(K:Ai)(N:Ur->Prop)(H:Hp):(Ur->Prop)->V->cH->Prop
 |non {M:Ur->Prop}:aT K N H M .non .non
 |bl {M:Ur->Prop}(b:Bool):aT K N H M (.bl b) (.bl b)
 |int {M:Ur->Prop}(i:Int):aT K N H M (.int i) (.int i)
 |str {M:Ur->Prop}(x:Uv):aT K N H M (.str x) (.str x)
 |ty {M:Ur->Prop}(n:String):aT K N H M (.ty n) (.ty n)
 |fn {M:Ur->Prop}{a:Ur}{x:Uv}:Ep K Uw x=b3 (b3 (.ref a))->aT K N H M (.ref a) (.fn x)
 |tup {M:Ur->Prop}{a:Ur}{xs:List V}{ds:List cH}:VE K H a xs->bQ K N H xs ds->aT K N H M (.ref a) (.tup ds)
 |lst {M:Ur->Prop}{a:Ur}{xs:List V}{ds:List cH}:H a=b3 (.lst xs)->¬M a->bQ K N H xs ds->aT K N H M (.ref a) (.lst ds)
 |fzl {M:Ur->Prop}{a:Ur}{xs:List V}{ds:List cH}:FzL K H a xs->bQ K N H xs ds->aT K N H M (.ref a) (.lst ds)
 |dct {M:Ur->Prop}{a:Ur}{kvs:List (Z5×V)}{ds:List cH}:H a=b3 (.dK kvs)->¬M a->bQ K N H (kvs.map Cz) ds->aT K N H M (.ref a) (.dct (kvs.map Bw) ds)
 |ktb {M:Ur->Prop}{a:Ur}{D:List (Uv×V)}{ds:List cH}:KTab K a D->bQ K N H (D.map Cz) ds->aT K N H M (.ref a) (.dct (D.map λp=>.inr p.1) ds)
 |exn {M:Ur->Prop}{a C:Ur}{x:Uv}{φ:Vb->Prop}:Ep K Uw x=b3 (b3 (.ref C))->H a=b3 (.ext φ)->(∀h,φ h->Vz h a C)->aT K N H M (.ref a) (.exn x)
 |exr {M:Ur->Prop}{a C D:Ur}{x n:Uv}{φ:Vb->Prop}{v:V}{d:cH}:Ep K Uw x=b3 (b3 (.ref C))->H a=b3 (.ext φ)->(∀h,φ h->Yw h a C D)->H D=b3 (.xd [(n,v)])->aT K N H N v d->aT K N H M (.ref a) (.exr x n d)
 |dcn {M:Ur->Prop}{a:Ur}{kvs:List (List Ky×V)}{ds:List cH}:H a=b3 (.dT kvs)->¬M a->bQ K N H (kvs.map Cz) ds->aT K N H M (.ref a) (.dcn (kvs.map Bw) ds)
inductive bQ(K:Ai)(N:Ur->Prop)(H:Hp):List V->List cH->Prop
 |nil:bQ K N H [] []
 |cons {v:V}{vs:List V}{d:cH}{ds:List cH}:aT K N H N v d->bQ K N H vs ds->bQ K N H (v::vs) (d::ds)
end
inductive RepL(K:Ai)(N:Ur->Prop)(H:Hp)(M:Ur->Prop)(ds:List cH):V->Prop
 |lst {a:Ur}{xs:List V}:H a=b3 (.lst xs)->¬M a->bQ K N H xs ds->RepL K N H M ds (.ref a)
 |fzl {a:Ur}{xs:List V}:FzL K H a xs->bQ K N H xs ds->RepL K N H M ds (.ref a)
inductive RepT(K:Ai)(N:Ur->Prop)(H:Hp)(ds:List cH):V->Prop
 |tup {a:Ur}{xs:List V}:VE K H a xs->bQ K N H xs ds->RepT K N H ds (.ref a)
inductive RepD(K:Ai)(N:Ur->Prop)(H:Hp)(M:Ur->Prop)(ks:List Z5)(ds:List cH):V->Prop
 |dct {a:Ur}{kvs:List (Z5×V)}:H a=b3 (.dK kvs)->¬M a->bQ K N H (kvs.map Cz) ds->ks=kvs.map Bw->RepD K N H M ks ds (.ref a)
 |ktb {a:Ur}{D:List (Uv×V)}:KTab K a D->bQ K N H (D.map Cz) ds->ks=D.map (λp=>.inr p.1)->RepD K N H M ks ds (.ref a)
def RepI(K:Ai)(N:Ur->Prop)(H:Hp)(M:Ur->Prop)(v:V):cH->Prop
 |.non=>v=.non
 |.bl b=>v=.bl b
 |.int i=>v=.int i
 |.str x=>v=.str x
 |.ty n=>v=.ty n
 |.fn x=>∃a,v=.ref a/\Ep K Uw x=b3 (b3 (.ref a))
 |.tup ds=>RepT K N H ds v
 |.lst ds=>RepL K N H M ds v
 |.dct ks ds=>RepD K N H M ks ds v
 |_=>True
section
variable{K:Ai}{N:Ur->Prop}{H:Hp}{M:Ur->Prop}{v:V}{d:cH}{ds:List cH}
def aT.inv(h:aT K N H M v d):RepI K N H M v d:=by
 cases h with
 |fn q=>exact⟨_,rfl,q⟩
 |tup q r=>exact .tup q r
 |lst q n r=>exact .lst q n r
 |fzl q r=>exact .fzl q r
 |dct q n r=>exact .dct q n r rfl
 |ktb q r=>exact .ktb q r rfl
 |dcn _ _ _=>trivial
 |exn _ _ _=>trivial
 |exr _ _ _ _ _=>trivial
 |_=>rfl
def aT.onI{i:Int}(h:aT K N H M v (.int i)):v=.int i:=h.inv
def aT.onB{i:Bool}(h:aT K N H M v (.bl i)):v=.bl i:=h.inv
def aT.onS{i:Uv}(h:aT K N H M v (.str i)):v=.str i:=h.inv
def aT.onL(h:aT K N H M v (.lst ds)):RepL K N H M ds v:=h.inv
def aT.onT(h:aT K N H M v (.tup ds)):RepT K N H ds v:=h.inv
def aT.onD{ks:List Z5}(h:aT K N H M v (.dct ks ds)):RepD K N H M ks ds v:=h.inv
end
def Hard:HO->Prop
 |.tup _=>True
 |.frz _ _=>True
 |.ext _=>True
 |.xd _=>True
 |_=>False
def Fr(P:Ur->Prop)(H H':Hp):Prop:=∀b o,H b=b3 o->(P b->Hard o)->H' b=b3 o
def Fr.refl(P:Ur->Prop)(H:Hp):Fr P H H:=λ_ _ h _=>h
def Fr.trans{P:Ur->Prop}{H H1 H2:Hp}(a:Fr P H H1)(b:Fr P H1 H2):Fr P H H2:=λc o h n=>b c o (a c o h n) n
def Fr.mono{P d:Ur->Prop}{H H':Hp}(a:Fr P H H')(h:∀b,P b->d b):Fr d H H':=λc o e n=>a c o e λz=>n (h c z)
def aN.fr{P:Ur->Prop}{H H':Hp}(a:aN H H'):Fr P H H':=λc o h _=>a c o h
section
variable{K:Ai}{N N' M M' P:Ur->Prop}{H H':Hp}
def Fr.tup(f:Fr P H H'){a:Ur}{xs:List V}(h:VE K H a xs):VE K H' a xs:=by
 rcases h with h|h
 ·exact .inl (f _ _ h λ_=>trivial)
 ·exact .inr h
def Fr.fzl(f:Fr P H H'){a:Ur}{xs:List V}(h:FzL K H a xs):FzL K H' a xs:=by
 rcases h with⟨o,h⟩|h
 ·exact .inl ⟨o,f _ _ h λ_=>trivial⟩
 ·exact .inr h
def aT.fr(f:Fr P H H')(e:∀a,P a->N a){M:Ur->Prop}{v:V}{d:cH}(c:∀a,P a->M a)(h:aT K N H M v d):aT K N H' M v d:=
 aT.rec (motive_1:=λM v d _=>(∀a,P a->M a)->aT K N H' M v d) (motive_2:=λvs ds _=>bQ K N H' vs ds) (λ_=>.non) (λb _=>.bl b) (λi _=>.int i) (λx _=>.str x) (λn _=>.ty n) (λq _=>.fn q) (λq _ r _=>.tup (f.tup q) r)
  (λq n _ r c=>.lst (f _ _ q λz=>absurd (c _ z) n) n r) (λq _ r _=>.fzl (f.fzl q) r) (λq n _ r c=>.dct (f _ _ q λz=>absurd (c _ z) n) n r) (λq _ r _=>.ktb q r) (λp q r _=>.exn p (f _ _ q λ_=>trivial) r)
  (λp q r s _ t _=>.exr p (f _ _ q λ_=>trivial) r (f _ _ s λ_=>trivial) (t e)) (λq n _ r c=>.dcn (f _ _ q λz=>absurd (c _ z) n) n r) .nil (λ_ _ a b=>.cons (a e) b) h c
def bQ.map{c:Ai}{N':Ur->Prop}{H':Hp}(g:∀{v d},aT K N H N v d->aT c N' H' N' v d):∀{vs:List V}{ds:List cH},bQ K N H vs ds->bQ c N' H' vs ds:=by
 intro vs;induction vs with
 |nil=>intro ds h;cases h;exact .nil
 |cons v vs e=>intro ds h;cases h with|cons a b=>exact .cons (g a) (e b)
def bQ.fr(f:Fr P H H')(b:∀a,P a->N a){vs:List V}{ds:List cH}(h:bQ K N H vs ds):bQ K N H' vs ds:=h.map λr=>r.fr f b b
def aT.mono(e:∀a,N' a->N a){M M':Ur->Prop}{v:V}{d:cH}(c:∀a,M' a->M a)(h:aT K N H M v d):aT K N' H M' v d:=
 aT.rec (motive_1:=λM v d _=>∀M',(∀a,M' a->M a)->aT K N' H M' v d) (motive_2:=λvs ds _=>bQ K N' H vs ds) (λ_ _=>.non) (λb _ _=>.bl b) (λi _ _=>.int i) (λx _ _=>.str x) (λn _ _=>.ty n) (λq _ _=>.fn q) (λq _ r _ _=>.tup q r)
  (λq n _ r _ c=>.lst q (λz=>n (c _ z)) r) (λq _ r _ _=>.fzl q r) (λq n _ r _ c=>.dct q (λz=>n (c _ z)) r) (λq _ r _ _=>.ktb q r) (λp q r _ _=>.exn p q r) (λp q r s _ t _ _=>.exr p q r s (t _ e)) (λq n _ r _ c=>.dcn q (λz=>n (c _ z)) r) .nil (λ_ _ a b=>.cons (a _ e) b) h M' c
def bQ.mono(b:∀a,N' a->N a){vs:List V}{ds:List cH}(h:bQ K N H vs ds):bQ K N' H vs ds:=h.map λr=>r.mono b b
def aT.same(f:aN H H'){v:V}{d:cH}(h:aT K N H M v d):aT K N H' M v d:=h.fr f.fr (λ_ z=>z.elim) (P:=λ_=>False) λ_ z=>z.elim
def bQ.same(f:aN H H'){vs:List V}{ds:List cH}(h:bQ K N H vs ds):bQ K N H' vs ds:=h.fr f.fr (P:=λ_=>False) λ_ z=>z.elim
theorem bQ.length:∀{vs:List V}{ds:List cH},bQ K N H vs ds->vs.length=ds.length
 |_,_,.nil=>rfl
 |_,_,.cons _ t=>congrArg (· +1) (bQ.length t)
theorem bQ.append:∀{vs a:List V}{ds es:List cH},bQ K N H vs ds->bQ K N H a es->bQ K N H (vs++a) (ds++es)
 |_,_,_,_,.nil,s=>s
 |_,_,_,_,.cons h t,s=>.cons h (bQ.append t s)
theorem bQ.get:∀{vs:List V}{ds:List cH}{i:Nat}{d:cH},bQ K N H vs ds->ds[i]?=b3 d->∃v,vs[i]?=b3 v/\aT K N H N v d
 |_,_,_,_,.nil,e=>by simp at e
 |_,_,0,_,.cons r _,e=>by simp at e;subst e;exact⟨_,rfl,r⟩
 |_,_,i+1,x,.cons _ t,e=>by obtain⟨u,h1,h2⟩:=bQ.get (i:=i) (d:=x) t (by simpa using e);exact⟨u,by simpa using h1,h2⟩
theorem bQ.take:∀{vs:List V}{ds:List cH}(n:Nat),bQ K N H vs ds->bQ K N H (vs.take n) (ds.take n)
 |_,_,0,_=>.nil
 |_,_,_+1,.nil=>.nil
 |_,_,n+1,.cons r t=>.cons r (bQ.take n t)
theorem bQ.drop:∀{vs:List V}{ds:List cH}(n:Nat),bQ K N H vs ds->bQ K N H (vs.drop n) (ds.drop n)
 |_,_,0,r=>r
 |_,_,_+1,.nil=>.nil
 |_,_,n+1,.cons _ t=>bQ.drop n t
def bQ.snoc{vs:List V}{ds:List cH}{v:V}{d:cH}(r:bQ K N H vs ds)(h:aT K N H N v d):bQ K N H (vs++[v]) (ds++[d]):=r.append (.cons h .nil)
def bQ.of{vs:List V}{ds:List cH}(hl:vs.length=ds.length)(h:∀(i:Nat) v d,vs[i]?=b3 v->ds[i]?=b3 d->aT K N H N v d):bQ K N H vs ds:=by
 induction vs generalizing ds with
 |nil=>cases ds with
  |nil=>exact .nil
  |cons=>cases hl
 |cons v vs a=>cases ds with
  |nil=>cases hl
  |cons d ds=>exact .cons (h 0 v d rfl rfl) (a (by simpa using hl) λi v d c b=>h (i+1) v d (by simpa using c) (by simpa using b))
end
mutual
def cH.isD:cH->Bool
 |.non=>ba
 |.bl _=>ba
 |.int _=>ba
 |.str _=>ba
 |.ty _=>bb
 |.fn _=>bb
 |.tup ds=>DQ ds
 |.lst ds=>DQ ds
 |.dct _ _=>bb
 |.exn _=>bb
 |.exr _ _ _=>bb
 |.dcn _ _=>bb
def DQ:List cH->Bool
 |[]=>ba
 |d::ds=>d.isD&&DQ ds
end
mutual
def cH.pd:cH->Ny
 |.non=>.none
 |.bl b=>.bool b
 |.int i=>.int i
 |.str x=>.str x
 |.ty _=>.none
 |.fn _=>.none
 |.tup ds=>.tuple (pds ds)
 |.lst ds=>.list (pds ds)
 |.dct _ _=>.none
 |.exn _=>.none
 |.exr _ _ _=>.none
 |.dcn _ _=>.none
def pds:List cH->List Ny
 |[]=>[]
 |d::ds=>d.pd::pds ds
end
mutual
def cH.hard:cH->Bool
 |.tup ds=>SV ds
 |.lst _=>bb
 |.dct _ _=>bb
 |.exr _ _ _=>bb
 |.dcn _ _=>bb
 |_=>ba
def SV:List cH->Bool
 |[]=>ba
 |d::ds=>d.hard&&SV ds
end
section
variable{K:Ai}{N:Ur->Prop}{H:Hp}
def aT.dp{M:Ur->Prop}{v:V}{d:cH}(h:aT K N H M v d)(e:d.isD=ba):Dp K H v d.pd:=
 aT.rec (motive_1:=λM v d _=>d.isD=ba->Dp K H v d.pd) (motive_2:=λvs ds _=>DQ ds=ba->J0 K H vs (pds ds)) (λ_=>.non) (λb _=>.bl b) (λi _=>.int i) (λx _=>.str x) (λ_ h=>nomatch h) (λ_ h=>nomatch h) (λq _ r h=>.tup q (r h))
  (λq _ _ r h=>.lst (XR.of q) (r h)) (λq _ r h=>.lst q.sq (r h)) (λ_ _ _ _ h=>nomatch h) (λ_ _ _ h=>nomatch h) (λ_ _ _ h=>nomatch h) (λ_ _ _ _ _ _ h=>nomatch h) (λ_ _ _ _ h=>nomatch h) (λ_=>.nil) (λ_ _ a b e=>.cons (a (Dv.mp e).1) (b (Dv.mp e).2)) h e
def aT.hard{N':Ur->Prop}{M M':Ur->Prop}{v:V}{d:cH}(h:aT K N H M v d)(e:d.hard=ba):aT K N' H M' v d:=
 aT.rec (motive_1:=λM v d _=>∀M',d.hard=ba->aT K N' H M' v d) (motive_2:=λvs ds _=>SV ds=ba->bQ K N' H vs ds) (λ_ _=>.non) (λb _ _=>.bl b) (λi _ _=>.int i) (λx _ _=>.str x) (λn _ _=>.ty n) (λq _ _=>.fn q) (λq _ r _ h=>.tup q (r h))
  (λ_ _ _ _ _ h=>nomatch h) (λ_ _ _ _ h=>nomatch h) (λ_ _ _ _ _ h=>nomatch h) (λ_ _ _ _ h=>nomatch h) (λp q r _ _=>.exn p q r) (λ_ _ _ _ _ _ _ h=>nomatch h) (λ_ _ _ _ _ h=>nomatch h) (λ_=>.nil) (λ_ _ a b e=>.cons (a _ (Dv.mp e).1) (b (Dv.mp e).2)) h M' e
def bQ.hard{N':Ur->Prop}:∀{vs:List V}{ds:List cH},bQ K N H vs ds->SV ds=ba->bQ K N' H vs ds:=by
 intro vs;induction vs with
 |nil=>intro ds h _;cases h;exact .nil
 |cons v vs c=>intro ds h e;cases h with|cons a b=>exact .cons (a.hard (Dv.mp e).1) (c b (Dv.mp e).2)
end
inductive Sl where
 |no|va (d:cH)|ow (d:cH)
abbrev Ev:=List Sl
structure Bs where
 Z:Ur->Prop
 P:Ur->Prop
 H0:Hp
 mu:Nat->Option Ur
 kp:List (V×cH)
def Nn(B:Bs)(O:Nat->Option Ur):Ur->Prop:=λa=>B.Z a∨∃i,O i=b3 a
def OA(O:Nat->Option Ur):Ur->Prop:=λa=>∃i,O i=b3 a
inductive NY(K:Ai)(N:Ur->Prop)(H:Hp)(a:Ur):cH->Prop
 |lst {xs:List V}{ds:List cH}:H a=b3 (.lst xs)->bQ K N H xs ds->NY K N H a (.lst ds)
 |dct {kvs:List (Z5×V)}{ds:List cH}:H a=b3 (.dK kvs)->bQ K N H (kvs.map Cz) ds->NY K N H a (.dct (kvs.map Bw) ds)
 |dcn {kvs:List (List Ky×V)}{ds:List cH}:H a=b3 (.dT kvs)->bQ K N H (kvs.map Cz) ds->NY K N H a (.dcn (kvs.map Bw) ds)
theorem NY.fr{K:Ai}{N P:Ur->Prop}{H H':Hp}{a:Ur}{d:cH}(f:Fr P H H')(c:∀a,P a->N a)(b:¬P a):NY K N H a d->NY K N H' a d
 |.lst q r=>.lst (f _ _ q λz=>absurd z b) (r.fr f c)
 |.dct q r=>.dct (f _ _ q λz=>absurd z b) (r.fr f c)
 |.dcn q r=>.dcn (f _ _ q λz=>absurd z b) (r.fr f c)
theorem NY.mono{K:Ai}{N N':Ur->Prop}{H:Hp}{a:Ur}{d:cH}(h:∀b,N' b->N b):NY K N H a d->NY K N' H a d
 |.lst q r=>.lst q (r.mono h)
 |.dct q r=>.dct q (r.mono h)
 |.dcn q r=>.dcn q (r.mono h)
def NY.soft{K:Ai}{N:Ur->Prop}{H:Hp}{a:Ur}{d:cH}(h:NY K N H a d):∃o,H a=b3 o/\¬Hard o:=by
 cases h with
 |lst q _=>exact⟨_,q,λz=>z⟩
 |dct q _=>exact⟨_,q,λz=>z⟩
 |dcn q _=>exact⟨_,q,λz=>z⟩
def NY.rep{K:Ai}{N M:Ur->Prop}{H:Hp}{a:Ur}{d:cH}(h:NY K N H a d)(b:¬M a):aT K N H M (.ref a) d:=by
 cases h with
 |lst q r=>exact .lst q b r
 |dct q r=>exact .dct q b r
 |dcn q r=>exact .dcn q b r
structure aP(K:Ai)(ml:List Nat)(B:Bs)(O:Nat->Option Ur)(H:Hp)(σ:St)(δ:Ev):Prop where
 len:σ.length=δ.length
 va:∀(i:Nat) (d:cH),δ[i]?=b3 (Sl.va d)->∃v,σ[i]?=b3 (b3 v)/\aT K (Nn B O) H (Nn B O) v d
 ow:∀(i:Nat) (d:cH),δ[i]?=b3 (Sl.ow d)->∃a,O i=b3 a/\σ[i]?=b3 (b3 (.ref a))/\NY K (Nn B O) H a d
 dom:∀(i:Nat) a,O i=b3 a->∃d,δ[i]?=b3 (Sl.ow d)
 inj:∀i j a,O i=b3 a->O j=b3 a->i=j
 old:∀i a,O i=b3 a->¬B.Z a/\(B.P a∨B.H0 a=b4)
 zin:∀a,B.Z a->∃o,H a=b3 o
 frm:Fr B.P B.H0 H
 par:(∀i a,B.mu i=b3 a->i∈ml)/\∀i∈ml,O i=B.mu i
 pin:∀a,B.P a->∃o,H a=b3 o
 kep:∀p∈B.kp,aT K (Nn B O) H (Nn B O) p.1 p.2
section
variable{K:Ai}{ml:List Nat}{B:Bs}{O:Nat->Option Ur}{H H':Hp}{σ:St}{δ δ':Ev}
def aP.nin(S:aP K ml B O H σ δ){a:Ur}(h:Nn B O a):∃o,H a=b3 o:=by
 rcases h with h|⟨i,h⟩
 ·exact S.zin a h
 ·obtain⟨d,e⟩:=S.dom i a h
  obtain⟨c,b,_,w⟩:=S.ow i d e;rw[h]at b;cases b;obtain⟨o,q,_⟩:=w.soft;exact⟨o,q⟩
def aP.new(S:aP K ml B O H σ δ){a:Ur}(h:H a=b4):¬Nn B O a:=λz=>by obtain⟨o,q⟩:=S.nin z;rw[h]at q;cases q
def aP.same(S:aP K ml B O H σ δ)(f:aN H H'):aP K ml B O H' σ δ where
 len:=S.len
 va:=λi d e=>let ⟨v,a,b⟩:=S.va i d e;⟨v,a,b.same f⟩
 ow:=λi d e=>let ⟨a,b,c,w⟩:=S.ow i d e;⟨a,b,c,w.fr (P:=λ_=>False) f.fr (λ_ z=>z.elim) λz=>z⟩
 dom:=S.dom
 inj:=S.inj
 old:=S.old
 zin:=λa h=>let ⟨o,q⟩:=S.zin a h;⟨o,f _ _ q⟩
 frm:=S.frm.trans f.fr
 par:=S.par
 pin:=λa h=>let ⟨o,q⟩:=S.pin a h;⟨o,f _ _ q⟩
 kep:=λp h=>(S.kep p h).same f
def aP.fresh(S:aP K ml B O H σ δ){a:Ur}(h:H a=b4):B.H0 a=b4:=by
 cases q:B.H0 a with
 |none=>rfl
 |some o=>
  by_cases b:B.P a
  ·obtain⟨o',e⟩:=S.pin a b
   rw[h]at e;cases e
  ·have := S.frm a o q λz => absurd z b
   rw[h]at this;cases this
def Bs.add(B:Bs)(p:Ur):Bs:={B with Z:=λa=>B.Z a∨a=p}
def QC{p:Ur}:∀a,Nn B O a->Nn (B.add p) O a:=λa h=>by
 rcases h with h|h
 ·exact .inl (.inl h)
 ·exact .inr h
def aT.away{p:Ur}(g:H p=b4)(N N':Ur->Prop)(f:∀a,N' a->N a∨a=p){M M':Ur->Prop}{v:V}{d:cH}(c:∀a,M' a->M a∨a=p)(h:aT K N H M v d):aT K N' H M' v d:=
 have no:∀{a:Ur}{o:HO}{M M':Ur->Prop},H a=b3 o->¬M a->(∀a,M' a->M a∨a=p)->¬M' a:=λq n c z=>(c _ z).elim n λe=>by rw[e,g]at q;cases q
 aT.rec (motive_1:=λM v d _=>∀M',(∀a,M' a->M a∨a=p)->aT K N' H M' v d) (motive_2:=λvs ds _=>bQ K N' H vs ds) (λ_ _=>.non) (λb _ _=>.bl b) (λi _ _=>.int i) (λx _ _=>.str x) (λn _ _=>.ty n) (λq _ _=>.fn q) (λq _ r _ _=>.tup q r)
  (λq n _ r _ c=>.lst q (no q n c) r) (λq _ r _ _=>.fzl q r) (λq n _ r _ c=>.dct q (no q n c) r) (λq _ r _ _=>.ktb q r) (λp q r _ _=>.exn p q r) (λp q r s _ t _ _=>.exr p q r s (t _ f)) (λq n _ r _ c=>.dcn q (no q n c) r) .nil (λ_ _ a b=>.cons (a _ f) b) h M' c
def bQ.away{p:Ur}(c:H p=b4)(N N':Ur->Prop)(b:∀a,N' a->N a∨a=p){vs:List V}{ds:List cH}(h:bQ K N H vs ds):bQ K N' H vs ds:=h.map λr=>r.away c N N' b b
def WC{p:Ur}:∀a,Nn (B.add p) O a->Nn B O a∨a=p:=λa h=>by
 rcases h with(h|h)|h
 ·exact .inl (.inl h)
 ·exact .inr h
 ·exact .inl (.inr h)
def aP.laid(S:aP K ml B O H σ δ){p:Ur}{o:HO}(f:H p=b4):aP K ml (B.add p) O (upd H p o) σ δ where
 len:=S.len
 va:=λi d e=>let ⟨v,a,b⟩:=S.va i d e;⟨v,a,(b.away f _ _ WC WC).same (b7 f)⟩
 ow:=λi d e=>by
  obtain⟨a,b,c,w⟩:=S.ow i d e;refine⟨a,b,c,?_⟩;have g:∀o,H a=b3 o->upd H p o=upd H p o:=λ_ _=>rfl;cases w with
  |lst q r=>exact .lst (b7 f _ _ q) ((r.away f _ _ WC).same (b7 f))
  |dct q r=>exact .dct (b7 f _ _ q) ((r.away f _ _ WC).same (b7 f))
  |dcn q r=>exact .dcn (b7 f _ _ q) ((r.away f _ _ WC).same (b7 f))
 dom:=S.dom
 inj:=S.inj
 old:=λi a h=>by
  refine⟨λz=>?_,(S.old i a h).2⟩;rcases z with z|z
  ·exact(S.old i a h).1 z
  ·obtain⟨o,q⟩:=S.nin (.inr ⟨i,h⟩)
   rw[z,f]at q;cases q
 zin:=λa h=>by
  rcases h with h|h
  ·obtain⟨o,q⟩:=S.zin a h
   exact⟨o,b7 f _ _ q⟩
  ·exact⟨_,by rw[h];exact bU⟩
 frm:=S.frm.trans (b7 f).fr
 par:=S.par
 pin:=λa h=>let ⟨o,q⟩:=S.pin a h;⟨o,b7 f _ _ q⟩
 kep:=λp h=>((S.kep p h).away f _ _ WC WC).same (b7 f)
def QN{i:Nat}{o:Option Ur}:∀a,Nn B (λj=>if j=i then b4 else O j) a->Nn B O a:=λa h=>by
 rcases h with h|⟨j,h⟩
 ·exact .inl h
 ·refine .inr ⟨j,?_⟩
  by_cases b:j=i
  ·simp[b]at h
  ·simpa[b]using h
def T9{α:Type}{l:List α}{i j:Nat}{x y:α}(h:(l.set i x)[j]?=b3 y):(j=i/\y=x/\i<l.length)∨(j≠i/\l[j]?=b3 y):=by
 by_cases a:j=i
 ·subst a
  rw[List.getElem?_set_self']at h;obtain⟨z,q,h⟩:=Aj.mp h;cases h;exact .inl ⟨rfl,rfl,(Ah.mp q).1⟩
 ·rw[Ba (Dj a)]at h
  exact .inr ⟨a,h⟩
def aP.setVa(S:aP K ml B O H σ δ){i:Nat}{v:V}{d:cH}(n:i∉ml)(h:aT K (Nn B O) H (Nn B O) v d):aP K ml B (λj=>if j=i then b4 else O j) H (σ.set i (b3 v)) (δ.set i (.va d)) where
 len:=by rw[By,By,S.len]
 va:=λj e q=>by
  rcases T9 q with⟨rfl,z,hl⟩|⟨b,q⟩
  ·cases z
   exact⟨v,by rw[Cd (by rw[S.len];exact hl)],h.mono (QN (o:=b4)) (QN (o:=b4))⟩
  ·obtain⟨u,c,r⟩:=S.va j e q
   exact⟨u,by rw[Ba (Dj b)];exact c,r.mono (QN (o:=b4)) (QN (o:=b4))⟩
 ow:=λj e q=>by
  rcases T9 q with⟨rfl,z,hl⟩|⟨b,q⟩
  ·cases z
  ·obtain⟨a,c,f,w⟩:=S.ow j e q
   exact⟨a,by simpa[b]using c,by rw[Ba (Dj b)];exact f,w.mono (QN (o:=b4))⟩
 dom:=λj a e=>by
  by_cases b:j=i
  ·simp[b]at e
  ·obtain ⟨d,q⟩ := S.dom j a (by simpa [b]using e)
   exact⟨d,by rw[Ba (Dj b)];exact q⟩
 inj:=λj k a c f=>by
  by_cases b:j=i
  ·simp[b]at c
  ·by_cases l:k=i
   ·simp[l]at f
   ·exact S.inj j k a (by simpa[b]using c) (by simpa[l]using f)
 old:=λj a e=>by
  by_cases b:j=i
  ·simp[b]at e
  ·exact S.old j a (by simpa[b]using e)
 zin:=S.zin
 frm:=S.frm
 par:=⟨S.par.1,λj b=>by have g:j≠i:=λz=>n (z▸b);have h2:O j=B.mu j:=S.par.2 j b;simpa[g]using h2⟩
 pin:=S.pin
 kep:=λp m=>(S.kep p m).mono (QN (o:=b4)) (QN (o:=b4))
def NK{i:Nat}{p:Ur}:∀a,Nn B (λj=>if j=i then b3 p else O j) a->Nn (B.add p) O a:=λa h=>by
 rcases h with h|⟨j,h⟩
 ·exact .inl (.inl h)
 ·by_cases b:j=i
  ·simp[b]at h
   exact .inl (.inr h.symm)
  ·exact .inr ⟨j,by simpa[b]using h⟩
def aP.setOw{p:Ur}(S:aP K ml (B.add p) O H σ δ){i:Nat}{d:cH}(n:i∉ml)(hl:i<δ.length)(hz:¬B.Z p)(o:B.H0 p=b4)(h:NY K (Nn (B.add p) O) H p d):
  aP K ml B (λj=>if j=i then b3 p else O j) H (σ.set i (b3 (.ref p))) (δ.set i (.ow d)) where
 len:=by rw[By,By,S.len]
 va:=λj e q=>by
  rcases T9 q with⟨rfl,z,_⟩|⟨b,q⟩
  ·cases z
  ·obtain⟨u,c,r⟩:=S.va j e q
   exact⟨u,by rw[Ba (Dj b)];exact c,r.mono NK NK⟩
 ow:=λj e q=>by
  rcases T9 q with⟨rfl,z,hl⟩|⟨b,q⟩
  ·cases z
   exact⟨p,by simp,by rw[Cd (by rw[S.len];exact hl)],h.mono NK⟩
  ·obtain⟨a,c,f,w⟩:=S.ow j e q
   exact⟨a,by simpa[b]using c,by rw[Ba (Dj b)];exact f,w.mono NK⟩
 dom:=λj a e=>by
  by_cases b:j=i
  ·subst b
   exact⟨d,by rw[Cd hl]⟩
  ·obtain ⟨d,q⟩ := S.dom j a (by simpa [b]using e)
   exact⟨d,by rw[Ba (Dj b)];exact q⟩
 inj:=λj k a c f=>by
  by_cases b:j=i
  ·by_cases g:k=i
   ·rw[b,g]
   ·simp[b]at c
    simp[g]at f;exact absurd (.inr c.symm) (S.old k a f).1
  ·by_cases g:k=i
   ·simp[g]at f
    simp[b]at c;exact absurd (.inr f.symm) (S.old j a c).1
   ·exact S.inj j k a (by simpa[b]using c) (by simpa[g]using f)
 old:=λj a e=>by
  by_cases b:j=i
  ·simp[b]at e
   subst e;exact⟨hz,.inr o⟩
  ·have := S.old j a (by simpa [b]using e)
   exact⟨λz=>this.1 (.inl z),this.2⟩
 zin:=λa h=>S.zin a (.inl h)
 frm:=S.frm
 par:=⟨S.par.1,λj b=>by have l:j≠i:=λz=>n (z▸b);have h2:O j=B.mu j:=S.par.2 j b;simpa[l]using h2⟩
 pin:=S.pin
 kep:=λp m=>(S.kep p m).mono NK NK
def aP.wrote(S:aP K ml B O H σ δ){i:Nat}{a:Ur}{d:cH}{o:HO}(e:O i=b3 a)(E:¬Hard o)(h:NY K (Nn B O) (upd H a o) a d):aP K ml B O (upd H a o) σ (δ.set i (.ow d)):=by
 have y:Fr (λb=>b=a) H (upd H a o):=λb u q n=>by
  by_cases f:b=a
  ·subst f
   obtain⟨d',t⟩:=S.dom i b e;obtain⟨s,c,_,w⟩:=S.ow i d' t;rw[e]at c;cases c;obtain⟨C,q1,x⟩:=w.soft;rw[q]at q1;cases q1;exact absurd (n rfl) x
  ·rw[bL f]
   exact q
 have l:∀b,b=a->Nn B O b:=λb z=>.inr ⟨i,z▸e⟩;have k:∀b,(∃u,H b=b3 u)->∃u,upd H a o b=b3 u:=λb q0=>by
  obtain⟨u,q⟩:=q0;by_cases f:b=a
  ·exact⟨o,by rw[f];exact bU⟩
  ·exact⟨u,by rw[bL f];exact q⟩
 refine⟨by rw[By,S.len],λj d' q=>?_,λj d' q=>?_,λj b q=>?_,S.inj,S.old,λb h=>k b (S.zin b h),?_,S.par,λb h=>k b (S.pin b h),λp D=>(S.kep p D).fr y l l⟩
 ·rcases T9 q with⟨_,z,_⟩|⟨g,q⟩
  ·cases z
  ·obtain⟨v,c,r⟩:=S.va j d' q
   exact⟨v,c,r.fr y l l⟩
 ·rcases T9 q with⟨rfl,z,hl⟩|⟨g,q⟩
  ·cases z
   obtain⟨m,q0⟩:=S.dom j a e;obtain⟨s,c,A,_⟩:=S.ow j m q0;rw[e]at c;cases c;exact⟨a,e,A,h⟩
  ·obtain⟨s,c,A,w⟩:=S.ow j d' q
   exact⟨s,c,A,w.fr y l λz=>g (S.inj j i a (z▸c) e)⟩
 ·by_cases g:j=i
  ·subst g
   obtain⟨m,q0⟩:=S.dom j b q;exact⟨d,by rw[Cd (Ah.mp q0).1]⟩
  ·obtain⟨m,q0⟩:=S.dom j b q
   exact⟨m,by rw[Ba (Dj g)];exact q0⟩
 ·intro b u q n
  have h1:=S.frm b u q n;by_cases f:b=a
  ·subst f
   rcases(S.old i b e).2 with z|z
   ·obtain⟨d',t⟩:=S.dom i b e
    obtain⟨s,c,_,w⟩:=S.ow i d' t;rw[e]at c;cases c;obtain⟨C,q1,x⟩:=w.soft;rw[h1]at q1;cases q1;exact absurd (n z) x
   ·rw[q]at z
    cases z
  ·rw[bL f]
   exact h1
def aP.keepV(S:aP K ml B O H σ δ){ps:List (V×cH)}(h:∀p∈ps,aT K (Nn B O) H (Nn B O) p.1 p.2):aP K ml {B with kp:=ps++B.kp} O H σ δ:=
 ⟨S.len,S.va,S.ow,S.dom,S.inj,S.old,S.zin,S.frm,S.par,S.pin,λp a=>(Db.mp a).elim (h p) (S.kep p)⟩
def aP.unkeep{ps:List (V×cH)}(S:aP K ml {B with kp:=ps++B.kp} O H σ δ):aP K ml B O H σ δ:=
 ⟨S.len,S.va,S.ow,S.dom,S.inj,S.old,S.zin,S.frm,S.par,S.pin,λp a=>S.kep p (Be _ a)⟩
end
def rz(B:Bs):Ur->Prop:=λa=>B.Z a∨∃i,B.mu i=b3 a
def av(B:Bs)(O:Nat->Option Ur)(b:Bool):Ur->Prop:=if b then Nn B O else λa=>Nn B O a/\rz B a
def at_(B:Bs)(O:Nat->Option Ur)(b:Bool):Ur->Prop:=if b then Nn B O else λ_=>False
def Xf{B:Bs}{O:Nat->Option Ur}{b:Bool}:∀a,at_ B O b a->av B O b a:=λa h=>by
 cases b with
 |true=>exact h
 |false=>exact h.elim
def eZ{B:Bs}{O:Nat->Option Ur}{b c:Bool}(h:b=ba->c=ba):∀a,at_ B O b a->at_ B O c a:=λa z=>by
 cases b with
 |true=>rw[h rfl];exact z
 |false=>exact z.elim
def aP.rzn{K:Ai}{ml:List Nat}{B:Bs}{O:Nat->Option Ur}{H:Hp}{σ:St}{δ:Ev}(S:aP K ml B O H σ δ):∀a,rz B a->Nn B O a:=λa h=>by
 rcases h with h|⟨i,h⟩
 ·exact .inl h
 ·exact .inr ⟨i,(S.par.2 i (S.par.1 i a h)).trans h⟩
def aP.rza{K:Ai}{ml:List Nat}{B:Bs}{O:Nat->Option Ur}{H:Hp}{σ:St}{δ:Ev}(S:aP K ml B O H σ δ){b:Bool}:∀a,rz B a->av B O b a:=λa h=>by
 cases b with
 |true=>exact S.rzn a h
 |false=>exact⟨S.rzn a h,h⟩
def LR{B:Bs}{O:Nat->Option Ur}{b c:Bool}(h:b=ba->c=ba):∀a,av B O b a->av B O c a:=λa z=>by
 cases b with
 |true=>rw[h rfl];exact z
 |false=>cases c with
  |true=>exact z.1
  |false=>exact z
structure Res(K:Ai)(ml:List Nat)(B:Bs)(O:Nat->Option Ur)(H:Hp)(σ:St)(pu bt bi:Bool)(H':Hp)(δ':Ev)(v:V)(d:cH):Prop where
 sta:aP K ml B O H' σ δ'
 frm:Fr (OA O) H H'
 pur:pu=ba->aN H H'
 rep:aT K (av B O bi) H' (at_ B O bt) v d
abbrev VF:=Ev->Option (cH×Ev)
inductive TVi(K:Ai)(ml:List Nat)(pu bt bi:Bool)(f:VF)(σ:St)(H:Hp)(Q:VK):Prop
 |mk (B:_) (O:_) (δ:_) (d:_) (δ':_) (h0:aP K ml B O H σ δ) (h1:f δ=b3 (d,δ')) (h2:∀v H',Res K ml B O H σ pu bt bi H' δ' v d->Q v H'):TVi K ml pu bt bi f σ H Q
def TV(K:Ai)(ml:List Nat)(pu bt bi:Bool)(f:VF):TE:=λσ H Q=>TVi K ml pu bt bi f σ H Q
def PE.imp{X:Cx}{e:Ux}{t u:TE}(h:PE X e t)(k:∀σ H Q,u σ H Q->t σ H Q):PE X e u:=λaa s σ H Q I w=>h aa s σ H Q I (k σ H Q w)
def PT.imp{X:Cx}{e:Ux}{t u:TT}(h:PT X e t)(k:∀σ H Q,u σ H Q->t σ H Q):PT X e u:=λaa s σ H Q I w=>h aa s σ H Q I (k σ H Q w)
def PW.imp{X:Cx}{e:Ux}{t u:TT}(h:PW X e t)(k:∀σ H Q,u σ H Q->t σ H Q):PW X e u:=λa aa s σ H Q I w=>h a aa s σ H Q I (k σ H Q w)
def PA.imp{X:Cx}{e:List Ux}{t u:TA}(h:PA X e t)(k:∀σ H Q,u σ H Q->t σ H Q):PA X e u:=λpos aa s σ H Q I w=>h pos aa s σ H Q I (k σ H Q w)
def PS.imp{X:Cx}{e:Vd}{t u:TS}(h:PS X e t)(k:∀D σ H,u D σ H->t D σ H):PS X e u:=λaa s σ H D I w=>h aa s σ H D I (k D σ H w)
def WP.imp{X:Cx}{e:List Vd}{t u:TS}(h:WP X e t)(k:∀D σ H,u D σ H->t D σ H):WP X e u:=λaa s σ H D I w=>h aa s σ H D I (k D σ H w)
section
variable{X:Cx}{K:Ai}{ml:List Nat}{e a b c:Ux}{pa ta ia pb tb ib pc tc ic:Bool}{fa fb fc:VF}{r:R2}{o:cH->cH->Option cH}{B:Bs}{O:Nat->Option Ur}{H H1 H':Hp}{σ:St}{δ δ':Ev}{v:V}{d:cH}
def fC(d:cH):VF:=λδ=>b3 (d,δ)
def Res.refl{pu bt bi:Bool}(S:aP K ml B O H σ δ)(h:aT K (av B O bi) H (at_ B O bt) v d):Res K ml B O H σ pu bt bi H δ v d:=⟨S,Fr.refl _ _,λ_=>aN.refl _,h⟩
def ve_c(h:PE X e (tC v))(b:∀N H M,aT K N H M v d):PE X e (TV K ml ba ba ba (fC d)):=h.imp λσ H Q a=>by obtain⟨B,O,δ,d',δ',S,q,k⟩:=a;cases q;exact k v H (Res.refl S (b _ _ _))
def cD{i j pos}:PE X (.Constant (.int i) j pos) (TV K ml ba ba ba (fC (.int i))):=ve_c ko λ_ _ _=>.int i
def ZC{i j pos}:PE X (.Constant (.bool i) j pos) (TV K ml ba ba ba (fC (.bl i))):=ve_c nY λ_ _ _=>.bl i
def Y9{j pos}:PE X (.Constant .none j pos) (TV K ml ba ba ba (fC .non)):=ve_c qt λ_ _ _=>.non
def bR{i j pos}:PE X (.Constant (.str i) j pos) (TV K ml ba ba ba (fC (.str i))):=ve_c eG λ_ _ _=>.str i
noncomputable def fV(i:Nat):VF:=λδ=>match δ[i]? with
 |some (.va d)=>b3 (d,δ)
 |_=>b4
noncomputable def fO(i:Nat):VF:=λδ=>match δ[i]? with
 |some (.va d)=>b3 (d,δ)
 |some (.ow d)=>b3 (d,δ)
 |_=>b4
def iR{i:Nat}(h:PE X e (VC i)):PE X e (TV K ml ba ba ba (fV i)):=h.imp λσ H Q a=>by
 obtain⟨B,O,δ,d',δ',S,q,k⟩:=a;unfold fV at q;split at q
 ·rename_i d b
  cases q;obtain⟨v,c,r⟩:=S.va i _ b;exact⟨v,c,k v H (Res.refl S r)⟩
 ·cases q
def lI{i:Nat}(h:PE X e (VC i)):PE X e (TV K ml ba bb ba (fO i)):=h.imp λσ H Q b=>by
 obtain⟨B,O,δ,d',δ',S,q,k⟩:=b;unfold fO at q;split at q
 ·rename_i d c
  cases q;obtain⟨v,f,r⟩:=S.va i _ c;exact⟨v,f,k v H (Res.refl S (r.mono (λ_ z=>z) λa z=>z.elim))⟩
 ·rename_i d c
  cases q;obtain⟨a,f,g,w⟩:=S.ow i _ c;exact⟨.ref a,g,k _ H (Res.refl S (w.rep λz=>z))⟩
 ·cases q
def Res.live{H2:Hp}{c:V}{e:cH}(R2:Res K ml B O H1 σ pb tb ib H2 δ' c e)(b:(pb || (ta&&ia))=ba)(h:aT K (av B O ia) H1 (at_ B O ta) v d):aT K (av B O ia) H2 (at_ B O ta) v d:=by
 cases pb with
 |true=>exact h.same (R2.pur rfl)
 |false=>
  have b:(ta&&ia)=ba:=by simpa using b
  obtain⟨h1,h2⟩:=(Af _ _).mp b;subst h1 h2;exact h.fr R2.frm (λa z=>.inr z) λa z=>.inr z
noncomputable def f2(o:cH->cH->Option cH)(fa fb:VF):VF:=λδ=>(fa δ).bind λp=>(fb p.2).bind λq=>(o p.1 q.1).map λc=>(c,q.2)
def PY{δ2:Ev}(h:f2 o fa fb δ=b3 (d,δ2)):∃x δ1 y,fa δ=b3 (x,δ1)/\fb δ1=b3 (y,δ2)/\o x y=b3 d:=by
 unfold f2 at h;cases h1:fa δ with
 |none=>rw[h1]at h;cases h
 |some p=>
  rw[h1]at h;cases h2:fb p.2 with
  |none=>simp[h2]at h
  |some q=>
   simp only[Ap,h2]at h;obtain⟨c,a,h⟩:=Aj.mp h;cases h;exact⟨p.1,p.2,q.1,rfl,h2,a⟩
def NX(K:Ai)(r:R2)(o:cH->cH->Option cH):Prop:=∀(H:Hp) (N N' M M':Ur->Prop) (x y:V) (d e c:cH) (Q:VK),aT K N H M x d->aT K N' H M' y e->o d e=b3 c->(∀v,(∀H' N M,aT K N H' M v c)->Q v H)->r x y H Q
def OpC(K:Ai)(r:R2)(o:cH->cH->Option cH):Prop:=∀(H:Hp) (N M M':Ur->Prop) (x y:V) (d e c:cH) (Q:VK),aT K N H M x d->aT K N H M' y e->o d e=b3 c->
 (∀v H',aN H H'->(∀M,(∀a,M a->∃o,H a=b3 o)->aT K N H' M v c)->Q v H')->r x y H Q
def OpI(K:Ai)(r:R2)(o:cH->cH->Option cH):Prop:=∀(H:Hp) (N N' M M':Ur->Prop) (x y:V) (d e c:cH) (Q:VK),aT K N H M x d->aT K N' H M' y e->o d e=b3 c->(∀v,aT K N H N v c->Q v H)->r x y H Q
def C4(j:NX K r o)(i:(pb || (ta&&ia))=ba){Q:VK}(h:TV K ml (pa&&pb) ba ba (f2 o fa fb) σ H Q):tOp r (TV K ml pa ta ia fa) (TV K ml pb tb ib fb) σ H Q:=by
 obtain⟨B,O,δ,d,δ2,S,q,k⟩:=h;obtain⟨x,δ1,y,h1,h2,l⟩:=PY q;refine⟨B,O,δ,x,δ1,S,h1,λf H1 a=>⟨B,O,δ1,y,δ2,a.sta,h2,λe H2 R2=>?_⟩⟩;exact j H2 _ _ _ _ f e x y d Q (R2.live i a.rep) R2.rep l λv g=>k v H2 ⟨R2.sta,a.frm.trans R2.frm,λz=>by obtain⟨c,b⟩:=(Af _ _).mp z;exact(a.pur c).trans (R2.pur b),g _ _ _⟩
def gY(l:OpC K r o)(j:(pb || (ta&&ia))=ba){Q:VK}(h:TV K ml (pa&&pb) ba (ia&&ib) (f2 o fa fb) σ H Q):tOp r (TV K ml pa ta ia fa) (TV K ml pb tb ib fb) σ H Q:=by obtain⟨B,O,δ,d,δ2,S,q,k⟩:=h;obtain⟨x,δ1,y,h1,h2,m⟩:=PY q;refine⟨B,O,δ,x,δ1,S,h1,λg H1 b=>⟨B,O,δ1,y,δ2,b.sta,h2,λf H2 R2=>?_⟩⟩;have p:∀a,av B O (ia&&ib) a->av B O ia a:=LR λz=>((Af _ _).mp z).1;have n:∀a,av B O (ia&&ib) a->av B O ib a:=LR λz=>((Af _ _).mp z).2;refine l H2 (av B O (ia&&ib)) _ _ g f x y d Q ((R2.live j b.rep).mono p λ_ z=>z) (R2.rep.mono n λ_ z=>z) m λv s s3 i=>k v s ⟨R2.sta.same s3,(b.frm.trans R2.frm).trans s3.fr,λz=>?_,i _ λa z=>R2.sta.nin z⟩;obtain⟨e,c⟩:=(Af _ _).mp z;exact((b.pur e).trans (R2.pur c)).trans s3
def pN(j:OpI K r o)(i:(pb || (ta&&ia))=ba){Q:VK}(h:TV K ml (pa&&pb) ia ia (f2 o fa fb) σ H Q):tOp r (TV K ml pa ta ia fa) (TV K ml pb tb ib fb) σ H Q:=by
 obtain⟨B,O,δ,d,δ2,S,q,k⟩:=h;obtain⟨x,δ1,y,h1,h2,l⟩:=PY q;refine⟨B,O,δ,x,δ1,S,h1,λf H1 a=>⟨B,O,δ1,y,δ2,a.sta,h2,λe H2 R2=>?_⟩⟩;exact j H2 _ _ _ _ f e x y d Q (R2.live i a.rep) R2.rep l λv g=>k v H2 ⟨R2.sta,a.frm.trans R2.frm,λz=>by obtain⟨c,b⟩:=(Af _ _).mp z;exact(a.pur c).trans (R2.pur b),g.mono (λ_ z=>z) Xf⟩
def XO{op:Operator}{pos:Pos}(e:WM X (Fo op) r)(c:NX K r o)(g:PE X a (TV K ml pa ta ia fa))(f:PE X b (TV K ml pb tb ib fb))(d:(pb || (ta&&ia))=ba:=by rfl):PE X (.BinOp a op b pos) (TV K ml (pa&&pb) ba ba (f2 o fa fb)):=
 (Xi e g f).imp λ_ _ _ h=>C4 c d h
def Z3{op:Operator}{pos:Pos}(e:WM X (Fo op) r)(c:OpC K r o)(g:PE X a (TV K ml pa ta ia fa))(f:PE X b (TV K ml pb tb ib fb))(d:(pb || (ta&&ia))=ba:=by rfl):PE X (.BinOp a op b pos) (TV K ml (pa&&pb) ba (ia&&ib) (f2 o fa fb)):=
 (Xi e g f).imp λ_ _ _ h=>gY c d h
def YX{op:CmpOp}{pos:Pos}(e:WM X (Cr op) r)(c:NX K r o)(i:PE X a (TV K ml pa ta ia fa))(g:PE X b (TV K ml pb tb ib fb))(f:Ij op b=bb:=by exact T2 _)(d:(pb || (ta&&ia))=ba:=by rfl):PE X (.Compare a [op] [b] pos) (TV K ml (pa&&pb) ba ba (f2 o fa fb)):=
 (jv e i g f).imp λ_ _ _ h=>C4 c d h
def Xz{pos:Pos}(f:IxR X r)(d:OpI K r o)(i:PE X a (TV K ml pa ta ia fa))(g:PE X b (TV K ml pb tb ib fb))(c:N6 b)(e:(pb || (ta&&ia))=ba:=by rfl):PE X (.Subscript a b pos) (TV K ml (pa&&pb) ia ia (f2 o fa fb)):=
 (Zi f i g c).imp λ_ _ _ h=>pN d e h
noncomputable def oI(C:Int->Int->Bool)(g:Int->Int->cH):cH->cH->Option cH
 |.int i,.int j=>if C i j=ba then b3 (g i j)else b4
 |_,_=>b4
def dO{C:Int->Int->Bool}{g:Int->Int->cH}{d e c:cH}(h:oI C g d e=b3 c):∃i j,d=.int i/\e=.int j/\C i j=ba/\c=g i j:=by
 unfold oI at h;split at h
 ·split at h
  ·rename_i hc
   cases h;exact⟨_,_,rfl,rfl,hc,rfl⟩
  ·cases h
 ·cases h
def Vn{C:Int->Int->Prop}{a:Int->Int->Bool}{g:Int->Int->V}{g':Int->Int->cH}(m:∀i j,a i j=ba->C i j)(l:∀i j N H M,aT K N H M (g i j) (g' i j)):NX K (rI C g) (oI a g'):=by intro H N N' M M' x y d e c Q f b h k;obtain⟨i,j,rfl,rfl,hc,rfl⟩:=dO h;cases f.onI;cases b.onI;exact⟨_,_,rfl,rfl,m _ _ hc,k _ λ_ _ _=>l ..⟩
def K4{g:Int->Int->V}{g':Int->Int->cH}(f:∀i j N H M,aT K N H M (g i j) (g' i j)):NX K (CM g) (oI (λ_ _=>ba) g'):=by intro H N N' M M' x y d e c Q b a h k;obtain⟨i,j,rfl,rfl,hc,rfl⟩:=dO h;cases b.onI;cases a.onI;exact⟨_,_,rfl,rfl,k _ λ_ _ _=>f ..⟩
noncomputable def cMul(i j:Int):Bool:=(decide (-18446744073709551616<i)&&decide (i<18446744073709551616)) || (decide (-18446744073709551616<j)&&decide (j<18446744073709551616))
noncomputable def cDiv(i j:Int):Bool:=decide (0<j)&&decide (j<1073741824)
def cPow(i j:Int):Bool:=decide (0<=j)&&decide (j<=1000000)&&decide (i.natAbs<18446744073709551616)
abbrev JS:=oI (λ_ _=>ba) λi j=>.int (i-j)
abbrev oMul:=oI cMul λi j=>.int (i*j)
abbrev Vu:=oI cDiv λi j=>.int (i/j)
abbrev GA:=oI (λ_ j=>decide (0<j)) λi j=>.int (i % j)
abbrev oPow:=oI cPow λi j=>.int (i ^ j.toNat)
abbrev oLt:=oI (λ_ _=>ba) λi j=>.bl (decide (i<j))
abbrev oLe:=oI (λ_ _=>ba) λi j=>.bl (decide (i<=j))
abbrev oGt:=oI (λ_ _=>ba) λi j=>.bl (decide (j<i))
abbrev oGe:=oI (λ_ _=>ba) λi j=>.bl (decide (j<=i))
def LH:NX K (CM λi j=>.int (i-j)) JS:=K4 λi j _ _ _=>.int _
def mh:NX K (rI CMul λi j=>.int (i*j)) oMul:=Vn (λi j h=>by
 have p:(2:Int) ^ 64=18446744073709551616:=by decide
 unfold CMul;rw[p];simpa[cMul]using h) λi j _ _ _=>.int _
def Zw:NX K (rI CDiv λi j=>.int (i/j)) Vu:=Vn (λi j h=>by show 0<j/\j<1073741824;simpa[cDiv]using h) λi j _ _ _=>.int _
def MY:NX K (rI (λ_ j=>0<j) λi j=>.int (i % j)) GA:=Vn (λi j h=>by simpa using h) λi j _ _ _=>.int _
def mY:NX K (rI CPow λi j=>.int (i ^ j.toNat)) oPow:=Vn (λi j h=>by
 have p:(2:Nat) ^ 64=18446744073709551616:=by decide
 unfold CPow;rw[p];simpa[cPow,and_assoc]using h) λi j _ _ _=>.int _
def s_lt:NX K (CM λi j=>.bl (decide (i<j))) oLt:=K4 λi j _ _ _=>.bl _
def s_le:NX K (CM λi j=>.bl (decide (i<=j))) oLe:=K4 λi j _ _ _=>.bl _
def s_gt:NX K (CM λi j=>.bl (decide (j<i))) oGt:=K4 λi j _ _ _=>.bl _
def s_ge:NX K (CM λi j=>.bl (decide (j<=i))) oGe:=K4 λi j _ _ _=>.bl _
def IF(d:cH):Bool:=d.isD&&Et d.pd
def eqD(d e:cH):Bool:=Ka d.pd e.pd
def V0(d e:cH):Option cH:=if(IF d&&IF e)=ba then b3 (.bl (eqD d e))else b4
def QE(d e:cH):Option cH:=if(IF d&&IF e)=ba then b3 (.bl (!eqD d e))else b4
def s_eq:NX K (rEqD K) V0:=by
 intro H N N' M M' x y d e c Q f b h k;unfold V0 at h;split at h
 ·rename_i a
  cases h;simp only[IF,Af]at a;exact⟨d.pd,e.pd,f.dp a.1.1,b.dp a.2.1,a.1.2,a.2.2,k _ λ_ _ _=>.bl _⟩
 ·cases h
def O9:NX K (rNeD K) QE:=by
 intro H N N' M M' x y d e c Q f b h k;unfold QE at h;split at h
 ·rename_i a
  cases h;simp only[IF,Af]at a;exact⟨d.pd,e.pd,f.dp a.1.1,b.dp a.2.1,a.1.2,a.2.2,k _ λ_ _ _=>.bl _⟩
 ·cases h
noncomputable def isN:cH->Bool
 |.non=>ba
 |_=>bb
def QS:cH->cH->Option cH
 |d,.non=>b3 (.bl (isN d))
 |_,_=>b4
def OU:cH->cH->Option cH
 |d,.non=>b3 (.bl (!isN d))
 |_,_=>b4
def AL{N M:Ur->Prop}(h:aT K N H M v d):decide (v=V.non)=isN d:=by
 cases h<;>simp[isN]
def O8:NX K (λx y H Q=>y=.non/\Q (.bl (decide (x=.non))) H) QS:=by
  intro H N N' M M' x y d e c Q b a h k;cases a<;>first
    | (cases h
       refine⟨rfl,?_⟩;rw[AL b];exact k _ λ_ _ _=>.bl _)
    |(simp[QS]at h)
def dY:NX K (λx y H Q=>y=.non/\Q (.bl (!decide (x=.non))) H) OU:=by
  intro H N N' M M' x y d e c Q b a h k;cases a<;>first
    | (cases h
       refine⟨rfl,?_⟩;rw[AL b];exact k _ λ_ _ _=>.bl _)
    |(simp[OU]at h)
noncomputable def XB:cH->Option (List cH)
 |.tup ds=>b3 ds
 |.lst ds=>b3 ds
 |_=>b4
def aT.seq{N M:Ur->Prop}{ds:List cH}(h:aT K N H M v d)(e:XB d=b3 ds):∃a xs,v=.ref a/\(XR K H a xs∨VE K H a xs)/\bQ K N H xs ds:=by
 cases h<;>first
  |(cases e;rename_i q r;exact⟨_,_,rfl,.inr q,r⟩)
  |(cases e;rename_i q n r;exact⟨_,_,rfl,.inl (XR.of q),r⟩)
  |(cases e;rename_i q r;exact⟨_,_,rfl,.inl q.sq,r⟩)
  |cases e
def eN{N:Ur->Prop}{xs:List V}{ds:List cH}{i:Int}(r:bQ K N H xs ds)(h:SJ ds i=b3 d):∃v,SJ xs i=b3 v/\aT K N H N v d:=by
 unfold SJ at h⊢;rw[r.length];cases hi:ixN ds.length i with
 |none=>rw[hi]at h;cases h
 |some j=>
  rw[hi]at h;exact r.get h
end
section
variable{X:Cx}{K:Ai}{ml:List Nat}{e a b c:Ux}{es:List Ux}{pa ta ia pb tb ib pc tc ic pu bt bi ps bs:Bool}{fa fb fc:VF}{r r':R2}{o o':cH->cH->Option cH}{B:Bs}{O:Nat->Option Ur}{H H1 H':Hp}{σ:St}{δ δ':Ev}{v:V}{d:cH}{p:Ur}{pos:Pos}
def aP.unadd(S:aP K ml (B.add p) O H σ δ):aP K ml B O H σ δ where
 len:=S.len
 va:=λi d e=>let ⟨v,a,b⟩:=S.va i d e;⟨v,a,b.mono QC QC⟩
 ow:=λi d e=>let ⟨a,b,c,w⟩:=S.ow i d e;⟨a,b,c,w.mono QC⟩
 dom:=S.dom
 inj:=S.inj
 old:=λi a h=>⟨λz=>(S.old i a h).1 (.inl z),(S.old i a h).2⟩
 zin:=λa h=>S.zin a (.inl h)
 frm:=S.frm
 par:=S.par
 pin:=S.pin
 kep:=λp h=>(S.kep p h).mono QC QC
structure ResN(K:Ai)(ml:List Nat)(B:Bs)(O:Nat->Option Ur)(H:Hp)(σ:St)(pu:Bool)(H':Hp)(δ':Ev)(p:Ur)(d:cH):Prop where
 sta:aP K ml (B.add p) O H' σ δ'
 frm:Fr (OA O) H H'
 pur:pu=ba->aN H H'
 own:NY K (Nn (B.add p) O) H' p d
 nz:¬Nn B O p
 h0:B.H0 p=b4
inductive TNi(K:Ai)(ml:List Nat)(pu:Bool)(f:VF)(σ:St)(H:Hp)(Q:VK):Prop
 |mk (B:_) (O:_) (δ:_) (d:_) (δ':_) (h0:aP K ml B O H σ δ) (h1:f δ=b3 (d,δ')) (h2:∀p H',ResN K ml B O H σ pu H' δ' p d->Q (.ref p) H'):TNi K ml pu f σ H Q
def TN(K:Ai)(ml:List Nat)(pu:Bool)(f:VF):TE:=λσ H Q=>TNi K ml pu f σ H Q
def bM{f:VF}(h:PE X e (TN K ml pu f)):PE X e (TV K ml pu ba ba f):=h.imp λσ H Q ⟨B,O,δ,d,δ',S,q,k⟩=>
 ⟨B,O,δ,d,δ',S,q,λp H' R=>k _ H' ⟨R.sta.unadd,R.frm,R.pur,(R.own.mono QC).rep R.nz⟩⟩
def mkN{xs:List V}{ds:List cH}(S:aP K ml B O H1 σ δ')(f:Fr (OA O) H H1)(s:pu=ba->aN H H1)(a:H1 p=b4)(r:bQ K (Nn B O) H1 xs ds):ResN K ml B O H σ pu (upd H1 p (.lst xs)) δ' p (.lst ds):=
 ⟨S.laid a,f.trans (b7 a).fr,λz=>(s z).trans (b7 a),.lst bU ((r.away a _ _ WC).same (b7 a)),S.new a,S.fresh a⟩
def mkD(S:aP K ml B O H1 σ δ')(f:Fr (OA O) H H1)(s:pu=ba->aN H H1)(a:H1 p=b4):ResN K ml B O H σ pu (upd H1 p (.dK [])) δ' p (.dct [] []):=
 ⟨S.laid a,f.trans (b7 a).fr,λz=>(s z).trans (b7 a),.dct (kvs:=[]) bU .nil,S.new a,S.fresh a⟩
def k9:PE X (.Dict [] [] pos) (TN K ml ba (fC (.dct [] []))):=zEX.imp λσ H Q a=>by obtain⟨B,O,δ,d,δ',S,q,k⟩:=a;cases q;exact λp b=>k p _ (mkD S (Fr.refl _ _) (λ_=>aN.refl _) b)
abbrev MC:=Ev->Option (List cH×Ev)
structure ResA(K:Ai)(ml:List Nat)(B:Bs)(O:Nat->Option Ur)(H:Hp)(σ:St)(pu b:Bool)(H':Hp)(δ':Ev)(vs:List V)(ds:List cH):Prop where
 sta:aP K ml B O H' σ δ'
 frm:Fr (OA O) H H'
 pur:pu=ba->aN H H'
 rep:bQ K (av B O b) H' vs ds
inductive TAVi(K:Ai)(ml:List Nat)(pu b:Bool)(f:MC)(σ:St)(H:Hp)(Q:List V->Hp->Prop):Prop
 |mk (B:_) (O:_) (δ:_) (d:_) (δ':_) (h0:aP K ml B O H σ δ) (h1:f δ=b3 (d,δ')) (h2:∀vs H',ResA K ml B O H σ pu b H' δ' vs d->Q vs H'):TAVi K ml pu b f σ H Q
def TAV(K:Ai)(ml:List Nat)(pu b:Bool)(f:MC):TA:=λσ H Q=>TAVi K ml pu b f σ H Q
def bH:MC:=λδ=>b3 ([],δ)
noncomputable def cA(fa:VF)(fs:MC):MC:=λδ=>(fa δ).bind λp=>(fs p.2).map λq=>(p.1::q.1,q.2)
def rG{fs:MC}{ds:List cH}(h:cA fa fs δ=b3 (ds,δ')):∃x δ1 xs,fa δ=b3 (x,δ1)/\fs δ1=b3 (xs,δ')/\ds=x::xs:=by
 unfold cA at h;cases h1:fa δ with
 |none=>rw[h1]at h;cases h
 |some p=>
  rw[h1]at h;cases h2:fs p.2 with
  |none=>simp[h2]at h
  |some q=>
   simp only[Ap,h2]at h;cases h;exact⟨p.1,p.2,q.1,rfl,h2,rfl⟩
def bW:PA X [] (TAV K ml ba ba bH):=ZP.imp λσ H Q a=>by obtain⟨B,O,δ,d,δ',S,q,k⟩:=a;cases q;exact k [] H ⟨S,Fr.refl _ _,λ_=>aN.refl _,.nil⟩
def cG{fs:MC}(o:PE X a (TV K ml pa ta ia fa))(n:PA X es (TAV K ml ps bs fs))(e:SE X a es:=by rfl)(hl:(ps || (ta&&ia))=ba:=by rfl)(m:ta=ba:=by rfl):
  PA X (a::es) (TAV K ml (pa&&ps) (ta&&ia&&bs) (cA fa fs)):=(a9 o n e).imp λσ H Q f=>by
 obtain⟨B,O,δ,d,δ2,S,q,k⟩:=f;obtain⟨x,δ1,xs,h1,h2,rfl⟩:=rG q;refine⟨B,O,δ,x,δ1,S,h1,λl H1 b=>⟨B,O,δ1,xs,δ2,b.sta,h2,λvs H2 R2=>k _ H2 ⟨R2.sta,b.frm.trans R2.frm,λz=>?_,?_⟩⟩⟩
 ·obtain⟨j,i⟩:=(Af _ _).mp z
  exact(b.pur j).trans (R2.pur i)
 ·have g : ∀ c,((ta && ia && bs) = ba -> c = ba) -> ∀ a,av B O (ta && ia && bs) a -> av B O c a := λc h => LR h
  have s:=g ta λz=>by simp only[Af]at z;exact z.1.1
  have r:=g ia λz=>by simp only[Af]at z;exact z.1.2
  have p:=g bs λz=>by simp only[Af]at z;exact z.2
  refine .cons ?_ (R2.rep.mono p);have h:aT K (av B O ia) H2 (at_ B O ta) l x:=by
   cases ps with
   |true=>exact b.rep.same (R2.pur rfl)
   |false=>
    have e:(ta&&ia)=ba:=by simpa using hl
    obtain⟨h1,h2⟩:=(Af _ _).mp e;subst h1 h2;exact b.rep.fr R2.frm (λa z=>.inr z) λa z=>.inr z
  subst m;exact h.mono r s
def aP.lone(S:aP K ml B O H σ δ){i:Nat}{x:cH}(f:i∉ml)(h:fO i δ=b3 (x,δ')):δ'=δ/\∃v,σ[i]?=b3 (b3 v)/\aT K (av B O bb) H (av B O bb) v x:=by
 unfold fO at h;split at h
 ·rename_i d c
  cases h;obtain⟨v,b,r⟩:=S.va i _ c;exact⟨rfl,v,b,r.mono (λa z=>z.1) λa z=>z.1⟩
 ·rename_i d c
  cases h;obtain⟨a,b,g,w⟩:=S.ow i _ c;refine⟨rfl,.ref a,g,(w.mono λa z=>z.1).rep λz=>?_⟩;rcases z.2 with z|⟨j,z⟩
  ·exact(S.old i a b).1 z
  ·have e:=S.par.1 j a z
   have:i=j:=S.inj i j a b ((S.par.2 j e).trans z)
   exact f (this▸e)
 ·cases h
noncomputable def ZT(fs:MC):VF:=λδ=>(fs δ).bind λp=>if p.1.length<=16777216 then b3 (.tup p.1,p.2)else b4
noncomputable def Y8(fs:MC):VF:=λδ=>(fs δ).bind λp=>if p.1.length<=16777216 then b3 (.lst p.1,p.2)else b4
def KB{fs:MC}{g:List cH->cH}(h:((fs δ).bind λp=>if p.1.length<=16777216 then b3 (g p.1,p.2)else b4)=b3 (d,δ')):∃ds,fs δ=b3 (ds,δ')/\ds.length<=16777216/\d=g ds:=by
 cases h1:fs δ with
 |none=>rw[h1]at h;cases h
 |some p=>
  rw[h1]at h;have h:(if p.1.length<=16777216 then b3 (g p.1,p.2)else b4)=b3 (d,δ'):=h;split at h
  ·cases h
   exact⟨p.1,rfl,by assumption,rfl⟩
  ·cases h
def aZ{x1}{fs:MC}(h:PA X es (TAV K ml pu bs fs)):PE X (.Tuple es x1 pos) (TV K ml pu ba bs (ZT fs)):=(Yl h).imp λσ H Q b=>by obtain⟨B,O,δ,d,δ',S,q,k⟩:=b;obtain⟨ds,h1,hl,rfl⟩:=KB (g:=cH.tup) q;refine⟨B,O,δ,ds,δ',S,h1,λvs H1 R=>⟨by rw[R.rep.length,Bv];exact hl,λp a=>k _ _ ⟨R.sta.same (b7 a),R.frm.trans (b7 a).fr,λz=>(R.pur z).trans (b7 a),.tup (VE.of bU) (R.rep.same (b7 a))⟩⟩⟩
def iJ{fs:MC}(h:PA X es (TAV K ml pu bs fs)):PE X (.List es pos) (TV K ml pu ba bs (Y8 fs)):=(CD h).imp λσ H Q b=>by obtain⟨B,O,δ,d,δ',S,q,k⟩:=b;obtain⟨ds,h1,hl,rfl⟩:=KB (g:=cH.lst) q;refine⟨B,O,δ,ds,δ',S,h1,λvs H1 R=>⟨by rw[R.rep.length,Bv];exact hl,λp a=>k _ _ ⟨R.sta.same (b7 a),R.frm.trans (b7 a).fr,λz=>(R.pur z).trans (b7 a),.lst bU (R.sta.new a) (R.rep.same (b7 a))⟩⟩⟩
def aH{fs:MC}(h:PA X es (TAV K ml pu ba fs)):PE X (.List es pos) (TN K ml pu (Y8 fs)):=(CD h).imp λσ H Q a=>by obtain⟨B,O,δ,d,δ',S,q,k⟩:=a;obtain⟨ds,h1,hl,rfl⟩:=KB (g:=cH.lst) q;exact⟨B,O,δ,ds,δ',S,h1,λvs H1 R=>⟨by rw[R.rep.length,Bv];exact hl,λp b=>k p _ (mkN R.sta R.frm R.pur b R.rep)⟩⟩
abbrev VB:=Ev->Option (Bool×Ev)
structure ResB(K:Ai)(ml:List Nat)(B:Bs)(O:Nat->Option Ur)(H:Hp)(σ:St)(pu:Bool)(H':Hp)(δ':Ev):Prop where
 sta:aP K ml B O H' σ δ'
 frm:Fr (OA O) H H'
 pur:pu=ba->aN H H'
inductive TBi(K:Ai)(ml:List Nat)(pu:Bool)(f:VB)(σ:St)(H:Hp)(Q:Bool->Hp->Prop):Prop
 |mk (B:_) (O:_) (δ:_) (k:_) (δ':_) (h0:aP K ml B O H σ δ) (h1:f δ=b3 (k,δ')) (h2:∀H',ResB K ml B O H σ pu H' δ'->Q k H'):TBi K ml pu f σ H Q
def TB(K:Ai)(ml:List Nat)(pu:Bool)(f:VB):TT:=λσ H Q=>TBi K ml pu f σ H Q
noncomputable def fB(f:VF):VB:=λδ=>(f δ).bind λp=>match p.1 with
 |.bl k=>b3 (k,p.2)
 |_=>b4
def qq{f:VF}{k:Bool}(h:fB f δ=b3 (k,δ')):f δ=b3 (.bl k,δ'):=by
 unfold fB at h;cases h1:f δ with
 |none=>rw[h1]at h;cases h
 |some p=>
  obtain⟨x,δ1⟩:=p;rw[h1]at h;cases x<;>first
   |(cases h;rfl)
   |cases h
def GY{f:VF}{t:TE}(a:∀σ H Q,TV K ml pu bt bi f σ H Q->t σ H Q){Q:Bool->Hp->Prop}(h:TB K ml pu (fB f) σ H Q):t σ H λx H'=>∃k,x=.bl k/\Q k H':=by obtain⟨B,O,δ,k,δ',S,q,w⟩:=h;refine a σ H _ ⟨B,O,δ,.bl k,δ',S,qq q,λv H' R=>⟨k,?_,w H' ⟨R.sta,R.frm,R.pur⟩⟩⟩;exact R.rep.onB
def bD{op:CmpOp}(e:WM X (Cr op) r)(c:NX K r o)(i:PE X a (TV K ml pa ta ia fa))(g:PE X b (TV K ml pb tb ib fb))(f:Ij op b=bb:=by exact T2 _)(d:(pb || (ta&&ia))=ba:=by rfl):PT X (.Compare a [op] [b] pos) (TB K ml (pa&&pb) (fB (f2 o fa fb))):=
 (lB e i g f).imp λ_ _ _ h=>GY (λ_ _ _=>C4 c d) h
def ZX{f:VF}(h:PE X e (TV K ml pu bt bi f))(b:∀a,isTrue e X.env a=(do let v<-a;Ly e.pos;Of [v] (truthy v)):=by intro _;rfl):PT X e (TB K ml pu (fB f)):=
 (oF h b).imp λ_ _ _ h=>GY (λ_ _ _ z=>z) h
noncomputable def M6(x y:VB):VB:=λδ=>(x δ).bind λp=>if p.1=ba then y p.2 else b3 (bb,p.2)
noncomputable def FC(x y:VB):VB:=λδ=>(x δ).bind λp=>if p.1=ba then b3 (ba,p.2)else y p.2
noncomputable def VA(x:VB):VB:=λδ=>(x δ).map λp=>(!p.1,p.2)
def ResB.refl(S:aP K ml B O H σ δ):ResB K ml B O H σ pu H δ:=⟨S,Fr.refl _ _,λ_=>aN.refl _⟩
def oT{x y:VB}{Q:Bool->Hp->Prop}(h:TB K ml (pa&&pb) (M6 x y) σ H Q):tAnd (TB K ml pa x) (TB K ml pb y) σ H Q:=by
 obtain⟨B,O,δ,k,δ',S,q,w⟩:=h;unfold M6 at q;obtain⟨⟨kk,δ1⟩,h1,q⟩:=Ac.mp q;refine⟨B,O,δ,kk,δ1,S,h1,λH1 a=>?_⟩;cases kk with
 |true=>
  have q:y δ1=b3 (k,δ'):=q;exact NH ⟨B,O,δ1,k,δ',a.sta,q,λH2 R2=>w H2 ⟨R2.sta,a.frm.trans R2.frm,λz=>by obtain⟨c,b⟩:=(Af _ _).mp z;exact(a.pur c).trans (R2.pur b)⟩⟩
 |false=>
  have q:b3 (bb,δ1)=b3 (k,δ'):=q;cases q;exact NG (w H1 ⟨a.sta,a.frm,λz=>a.pur ((Af _ _).mp z).1⟩)
def oW{x y:VB}{Q:Bool->Hp->Prop}(h:TB K ml (pa&&pb) (FC x y) σ H Q):tOr (TB K ml pa x) (TB K ml pb y) σ H Q:=by
 obtain⟨B,O,δ,k,δ',S,q,w⟩:=h;unfold FC at q;obtain⟨⟨kk,δ1⟩,h1,q⟩:=Ac.mp q;refine⟨B,O,δ,kk,δ1,S,h1,λH1 a=>?_⟩;cases kk with
 |false=>
  have q:y δ1=b3 (k,δ'):=q;exact NG ⟨B,O,δ1,k,δ',a.sta,q,λH2 R2=>w H2 ⟨R2.sta,a.frm.trans R2.frm,λz=>by obtain⟨c,b⟩:=(Af _ _).mp z;exact(a.pur c).trans (R2.pur b)⟩⟩
 |true=>
  have q:b3 (ba,δ1)=b3 (k,δ'):=q;cases q;exact NH (w H1 ⟨a.sta,a.frm,λz=>a.pur ((Af _ _).mp z).1⟩)
def Y5{x:VB}(h:PT X a (TB K ml pu x)):PT X (.UnaryOp .Not a pos) (TB K ml pu (VA x)):=(iC h).imp λσ H Q b=>by obtain⟨B,O,δ,k,δ',S,q,w⟩:=b;unfold VA at q;obtain⟨p,h1,q⟩:=Aj.mp q;cases q;exact⟨B,O,δ,p.1,p.2,S,h1,w⟩
def PJ{x:VB}(h:PT X a (TB K ml pu x)):PW X (.BoolOp .And [a] pos) (TB K ml pu x):=rn h
def XM{x:VB}(h:PT X a (TB K ml pu x)):PW X (.BoolOp .Or [a] pos) (TB K ml pu x):=jM h
def LM{x y:VB}(d:PT X a (TB K ml pa x))(c:PW X (.BoolOp .And (b::es) pos) (TB K ml pb y)):PW X (.BoolOp .And (a::b::es) pos) (TB K ml (pa&&pb) (M6 x y)):=(kO d c).imp λ_ _ _ h=>oT h
def U7{x y:VB}(d:PT X a (TB K ml pa x))(c:PW X (.BoolOp .Or (b::es) pos) (TB K ml pb y)):PW X (.BoolOp .Or (a::b::es) pos) (TB K ml (pa&&pb) (FC x y)):=(iZ d c).imp λ_ _ _ h=>oW h
def SQ{x:VB}(h:PW X e (TB K ml pu x)):PT X e (TB K ml pu x):=h.pt
noncomputable def RK(x y:VF):VF:=λδ=>(x δ).bind λp=>match p.1 with
 |.bl ba=>y p.2
 |.bl bb=>b3 (.bl bb,p.2)
 |_=>b4
noncomputable def fOr(x y:VF):VF:=λδ=>(x δ).bind λp=>match p.1 with
 |.bl bb=>y p.2
 |.bl ba=>b3 (.bl ba,p.2)
 |_=>b4
noncomputable def fNot(x:VF):VF:=λδ=>(x δ).bind λp=>match p.1 with
 |.bl k=>b3 (.bl (!k),p.2)
 |_=>b4
def YC{op}{f:VF}(h:PE X a (TV K ml pu bt bi f)):PE X (.BoolOp op [a] pos) (TV K ml pu bt bi f):=mL h
def X4(l:PE X a (TV K ml pa ta ia fa))(j:PE X (.BoolOp .And (b::es) pos) (TV K ml pb tb ib fb)):PE X (.BoolOp .And (a::b::es) pos) (TV K ml (pa&&pb) tb ib (RK fa fb)):=(pP l j).imp λσ H Q e=>by
 obtain⟨B,O,δ,d,δ',S,q,k⟩:=e;unfold RK at q;obtain⟨⟨x,δ1⟩,h1,q⟩:=Ac.mp q;refine⟨B,O,δ,x,δ1,S,h1,λi H1 c=>?_⟩;cases x with
 |bl kk=>
  have m:i=.bl kk:=c.rep.onB;refine⟨kk,m,?_⟩;cases kk with
  |true=>
   exact NH ⟨B,O,δ1,d,δ',c.sta,q,λh H2 R2=>k h H2 ⟨R2.sta,c.frm.trans R2.frm,λz=>by obtain⟨g,f⟩:=(Af _ _).mp z;exact(c.pur g).trans (R2.pur f),R2.rep⟩⟩
  |false=>
   cases q;exact NG (k _ H1 ⟨c.sta,c.frm,λz=>c.pur ((Af _ _).mp z).1,.bl _⟩)
 |_=>cases q
def Xe(l:PE X a (TV K ml pa ta ia fa))(j:PE X (.BoolOp .Or (b::es) pos) (TV K ml pb tb ib fb)):PE X (.BoolOp .Or (a::b::es) pos) (TV K ml (pa&&pb) tb ib (fOr fa fb)):=(iX l j).imp λσ H Q e=>by
 obtain⟨B,O,δ,d,δ',S,q,k⟩:=e;unfold fOr at q;obtain⟨⟨x,δ1⟩,h1,q⟩:=Ac.mp q;refine⟨B,O,δ,x,δ1,S,h1,λi H1 c=>?_⟩;cases x with
 |bl kk=>
  have m:i=.bl kk:=c.rep.onB;refine⟨kk,m,?_⟩;cases kk with
  |false=>
   exact NG ⟨B,O,δ1,d,δ',c.sta,q,λh H2 R2=>k h H2 ⟨R2.sta,c.frm.trans R2.frm,λz=>by obtain⟨g,f⟩:=(Af _ _).mp z;exact(c.pur g).trans (R2.pur f),R2.rep⟩⟩
  |true=>
   cases q;exact NH (k _ H1 ⟨c.sta,c.frm,λz=>c.pur ((Af _ _).mp z).1,.bl _⟩)
 |_=>cases q
def dG(f:PE X a (TV K ml pa ta ia fa)):PE X (.UnaryOp .Not a pos) (TV K ml pa ba ba (fNot fa)):=(oH f).imp λσ H Q c=>by
 obtain⟨B,O,δ,d,δ',S,q,k⟩:=c;unfold fNot at q;obtain⟨⟨x,δ1⟩,h1,q⟩:=Ac.mp q;refine⟨B,O,δ,x,δ1,S,h1,λe H1 b=>?_⟩;cases x with
 |bl kk=>
  have g:e=.bl kk:=b.rep.onB;cases q;exact⟨kk,g,k _ H1 ⟨b.sta,b.frm,b.pur,.bl _⟩⟩
 |_=>cases q
def fIf(t:VB)(x y:VF):VF:=λδ=>(t δ).bind λp=>if p.1=ba then x p.2 else y p.2
def JC{t:VB}(l:PT X c (TB K ml pc t))(n:PE X a (TV K ml pa ta ia fa))(m:PE X b (TV K ml pb tb ib fb)):PE X (.IfExp c a b pos) (TV K ml (pc&&pa&&pb) (ta&&tb) (ia&&ib) (fIf t fa fb)):=(oN l n m).imp λσ H Q g=>by
 obtain⟨B,O,δ,d,δ',S,q,k⟩:=g;unfold fIf at q;obtain⟨⟨kk,δ1⟩,h1,q⟩:=Ac.mp q;refine⟨B,O,δ,kk,δ1,S,h1,λH1 e=>?_⟩;have j:∀c,((ta&&tb)=ba->c=ba)->∀a,at_ B O (ta&&tb) a->at_ B O c a:=λc h=>eZ h;have i:∀c,((ia&&ib)=ba->c=ba)->∀a,av B O (ia&&ib) a->av B O c a:=λc h=>LR h;cases kk with
 |true=>
  exact NH ⟨B,O,δ1,d,δ',e.sta,q,λf H2 R2=>k f H2 ⟨R2.sta,e.frm.trans R2.frm,λz=>by simp only[Af]at z;exact(e.pur z.1.1).trans (R2.pur z.1.2),R2.rep.mono (i _ λz=>((Af _ _).mp z).1) (j _ λz=>((Af _ _).mp z).1)⟩⟩
 |false=>
  exact NG ⟨B,O,δ1,d,δ',e.sta,q,λf H2 R2=>k f H2 ⟨R2.sta,e.frm.trans R2.frm,λz=>by simp only[Af]at z;exact(e.pur z.1.1).trans (R2.pur z.2),R2.rep.mono (i _ λz=>((Af _ _).mp z).2) (j _ λz=>((Af _ _).mp z).2)⟩⟩
noncomputable def f3(o o':cH->cH->Option cH)(fa fb fc:VF):VF:=λδ=>(fa δ).bind λp=>(fb p.2).bind λq=>(o p.1 q.1).bind λz=>match z with
 |.bl ba=>(fc q.2).bind λs=>(o' q.1 s.1).map λu=>(u,s.2)
 |.bl bb=>b3 (.bl bb,q.2)
 |_=>b4
def EO(w:NX K r o)(j:NX K r' o')(t:(pb || (ta&&ia))=ba)(i:(pc || (tb&&ib))=ba){Q:VK}(h:TV K ml (pa&&pb&&pc) ba ba (f3 o o' fa fb fc) σ H Q):C0 r r' (TV K ml pa ta ia fa) (TV K ml pb tb ib fb) (TV K ml pc tc ic fc) σ H Q:=by
 obtain⟨B,O,δ,d,b,S,q,k⟩:=h;unfold f3 at q;obtain⟨⟨x,δ1⟩,h1,q⟩:=Ac.mp q;cases h2:fb δ1 with
 |none=>simp[h2]at q
 |some p2=>
  obtain⟨y,δ2⟩:=p2;simp only[Ap,h2]at q;refine⟨B,O,δ,x,δ1,S,h1,λp H1 a=>⟨B,O,δ1,y,δ2,a.sta,h2,λl H2 R2=>?_⟩⟩;obtain⟨z,D,q⟩:=Ac.mp q;refine w H2 _ _ _ _ p l x y z _ (R2.live t a.rep) R2.rep D λv c=>?_;have c:=c (λ_=>b4) (λ_=>True) λ_=>True;cases z with
  |bl kk=>
   have E:v=.bl kk:=c.onB;refine⟨kk,E,?_⟩;cases kk with
   |false=>
    cases q;exact NG (k _ H2 ⟨R2.sta,a.frm.trans R2.frm,λz=>by simp only[Af]at z;exact(a.pur z.1.1).trans (R2.pur z.1.2),.bl _⟩)
   |true=>
    have q:((fc δ2).bind λs=>(o' y s.1).map λu=>(u,s.2))=b3 (d,b):=q;obtain⟨⟨g,f⟩,C,q⟩:=Ac.mp q;have q:((o' y g).map λu=>(u,f))=b3 (d,b):=q;obtain⟨u,A,q⟩:=Aj.mp q;cases q;refine NH ⟨B,O,δ2,g,_,R2.sta,C,λn m e=>?_⟩;exact j m _ _ _ _ l n y g d Q (e.live i R2.rep) e.rep A λv c=>k v m ⟨e.sta,(a.frm.trans R2.frm).trans e.frm,λz=>by simp only[Af]at z;exact((a.pur z.1.1).trans (R2.pur z.1.2)).trans (e.pur z.2),c _ _ _⟩
  |_=>cases q
def jY{op d:CmpOp}(k:WM X (Cr op) r)(g:WM X (Cr d) r')(i:NX K r o)(e:NX K r' o')(n:PE X a (TV K ml pa ta ia fa))(m:PE X b (TV K ml pb tb ib fb))(hc:PE X c (TV K ml pc tc ic fc))(l:Sa [op,d] [b,c]=bb:=by with_unfolding_all rfl)(j:(pb || (ta&&ia))=ba:=by rfl)(f:(pc || (tb&&ib))=ba:=by rfl):PE X (.Compare a [op,d] [b,c] pos) (TV K ml (pa&&pb&&pc) ba ba (f3 o o' fa fb fc)):=
 (km k g n m hc l).imp λ_ _ _ h=>EO i e j f h
def pH{op d:CmpOp}(k:WM X (Cr op) r)(g:WM X (Cr d) r')(i:NX K r o)(e:NX K r' o')(n:PE X a (TV K ml pa ta ia fa))(m:PE X b (TV K ml pb tb ib fb))(hc:PE X c (TV K ml pc tc ic fc))(l:Sa [op,d] [b,c]=bb:=by with_unfolding_all rfl)(j:(pb || (ta&&ia))=ba:=by rfl)(f:(pc || (tb&&ib))=ba:=by rfl):PT X (.Compare a [op,d] [b,c] pos) (TB K ml (pa&&pb&&pc) (fB (f3 o o' fa fb fc))):=
 (mx k g n m hc l).imp λ_ _ _ h=>GY (λ_ _ _=>EO i e j f) h
end
section
variable{X:Cx}{K:Ai}{ml:List Nat}{e a b c:Ux}{es:List Ux}{pa ta ia pb tb ib pc tc ic pu bt bi ps bs:Bool}{fa fb fc:VF}{B:Bs}{O:Nat->Option Ur}{H H1 H':Hp}{σ:St}{δ δ':Ev}{v:V}{d:cH}{p:Ur}{pos:Pos}
noncomputable def f1(o:cH->Option cH)(fa:VF):VF:=λδ=>(fa δ).bind λp=>(o p.1).map λc=>(c,p.2)
def PX{o:cH->Option cH}(h:f1 o fa δ=b3 (d,δ')):∃x,fa δ=b3 (x,δ')/\o x=b3 d:=by
 unfold f1 at h;cases h1:fa δ with
 |none=>rw[h1]at h;cases h
 |some p=>
  rw[h1]at h;have h:((o p.1).map λc=>(c,p.2))=b3 (d,δ'):=h;obtain⟨c,a,h⟩:=Aj.mp h;cases h;exact⟨p.1,rfl,a⟩
abbrev RC:=List V->Hp->VK->Prop
def BA(K:Ai)(r:RC)(o:cH->Option cH):Prop:=∀(H:Hp) (N M:Ur->Prop) (x:V) (d c:cH) (Q:VK),aT K N H M x d->o d=b3 c->(∀v,(∀H' N M,aT K N H' M v c)->Q v H)->r [x] H Q
def CalC(K:Ai)(r:RC)(o:cH->Option cH):Prop:=∀(H:Hp) (N M:Ur->Prop) (x:V) (d c:cH) (Q:VK),aT K N H M x d->o d=b3 c->
 (∀v H',aN H H'->(∀M,(∀a,M a->∃o,H a=b3 o)->aT K N H' M v c)->Q v H')->r [x] H Q
def CalN(K:Ai)(r:RC)(o:cH->Option cH):Prop:=∀(H:Hp) (N M:Ur->Prop) (x:V) (d c:cH) (Q:VK),aT K N H M x d->o d=b3 c->
 (∀p xs ds,H p=b4->bQ K N H xs ds->c=.lst ds->Q (.ref p) (upd H p (.lst xs)))->r [x] H Q
def JW(K:Ai)(r:RC)(o:cH->cH->Option cH):Prop:=∀(H:Hp) (N N' M M':Ur->Prop) (x y:V) (d e c:cH) (Q:VK),aT K N H M x d->aT K N' H M' y e->o d e=b3 c->(∀v,(∀H' N M,aT K N H' M v c)->Q v H)->r [x,y] H Q
def iH{r:RC}{o:cH->Option cH}(e:BA K r o){Q:VK}(h:TV K ml pa ba ba (f1 o fa) σ H Q):tCB r (LK (TV K ml pa ta ia fa) tNil) σ H Q:=by obtain⟨B,O,δ,d,δ',S,q,k⟩:=h;obtain⟨x,h1,h2⟩:=PX q;exact⟨B,O,δ,x,δ',S,h1,λb H1 a=>e H1 _ _ b x d Q a.rep h2 λv c=>k v H1 ⟨a.sta,a.frm,a.pur,c _ _ _⟩⟩
def nv{r:RC}{o:cH->Option cH}(f:CalC K r o){Q:VK}(h:TV K ml pa ba ia (f1 o fa) σ H Q):tCB r (LK (TV K ml pa ta ia fa) tNil) σ H Q:=by obtain⟨B,O,δ,d,δ',S,q,k⟩:=h;obtain⟨x,h1,h2⟩:=PX q;exact⟨B,O,δ,x,δ',S,h1,λc H1 b=>f H1 _ _ c x d Q b.rep h2 λv H2 s2 e=>k v H2 ⟨b.sta.same s2,b.frm.trans s2.fr,λz=>(b.pur z).trans s2,e _ λa z=>b.sta.nin z⟩⟩
def IZ{r:RC}{o:cH->Option cH}(f:CalN K r o){Q:VK}(h:TN K ml pa (f1 o fa) σ H Q):tCB r (LK (TV K ml pa ta ba fa) tNil) σ H Q:=by obtain⟨B,O,δ,d,δ',S,q,k⟩:=h;obtain⟨x,h1,h2⟩:=PX q;refine⟨B,O,δ,x,δ',S,h1,λb H1 a=>f H1 _ _ b x d Q a.rep h2 λp xs ds e c g=>?_⟩;subst g;exact k p _ (mkN a.sta a.frm a.pur e c)
def nT{r:RC}{o:cH->cH->Option cH}(j:JW K r o)(i:(pb || (ta&&ia))=ba){Q:VK}(h:TV K ml (pa&&pb) ba ba (f2 o fa fb) σ H Q):tCB r (LK (TV K ml pa ta ia fa) (LK (TV K ml pb tb ib fb) tNil)) σ H Q:=by
 obtain⟨B,O,δ,d,δ2,S,q,k⟩:=h;obtain⟨x,δ1,y,h1,h2,l⟩:=PY q;refine⟨B,O,δ,x,δ1,S,h1,λf H1 a=>⟨B,O,δ1,y,δ2,a.sta,h2,λe H2 R2=>?_⟩⟩;exact j H2 _ _ _ _ f e x y d Q (R2.live i a.rep) R2.rep l λv g=>k v H2 ⟨R2.sta,a.frm.trans R2.frm,λz=>by obtain⟨c,b⟩:=(Af _ _).mp z;exact(a.pur c).trans (R2.pur b),g _ _ _⟩
section
variable{x:Uv}{p':Pos}{id T:String}{r:RC}
def MZ{o:cH->Option cH}(hc:Z4 X (.builtin id) r)(e:BA K r o)(i:Gl X x)(g:X.mg x=b4)(d:Bo x=b3 (.builtin id))(j:PE X a (TV K ml pa ta ia fa))(f:x≠ "__name__":=by decide)(b:ND x:=by decide)(c:SE X a []:=by rfl):PE X (.Call (.Name x p') [a] [] pos) (TV K ml pa ba ba (f1 o fa)):=
 (OW hc i g d (a9 j ZP c) f b c).imp λ_ _ _ h=>iH e h
def XN{o:cH->cH->Option cH}(hc:Z4 X (.builtin id) r)(j:JW K r o)(m:Gl X x)(l:X.mg x=b4)(g:Bo x=b3 (.builtin id))(p:PE X a (TV K ml pa ta ia fa))(n:PE X b (TV K ml pb tb ib fb))(k:x≠ "__name__":=by decide)(e:ND x:=by decide)(f:SE X a [b]:=by rfl)(d:SE X b []:=by rfl)(c:(Dx pos (Uu [b] X.env)).any (·.1)=bb:=by rfl)(i:(pb || (ta&&ia))=ba:=by rfl):PE X (.Call (.Name x p') [a,b] [] pos) (TV K ml (pa&&pb) ba ba (f2 o fa fb)):=
 (OW hc m l g (a9 p (a9 n ZP d) f) k e f c).imp λ_ _ _ h=>nT j i h
def EV{o:cH->Option cH}(hc:Z4 X (.type T) r)(e:CalC K r o)(i:Gl X x)(g:X.mg x=b4)(d:Bo x=b3 (.type T))(j:PE X a (TV K ml pa ta ia fa))(f:x≠ "__name__":=by decide)(b:ND x:=by decide)(c:SE X a []:=by rfl):PE X (.Call (.Name x p') [a] [] pos) (TV K ml pa ba ia (f1 o fa)):=
 (V1 hc i g d (a9 j ZP c) f b c).imp λ_ _ _ h=>nv e h
def EY{o:cH->Option cH}(hc:Z4 X (.type T) r)(e:CalN K r o)(i:Gl X x)(g:X.mg x=b4)(d:Bo x=b3 (.type T))(j:PE X a (TV K ml pa ta ba fa))(f:x≠ "__name__":=by decide)(b:ND x:=by decide)(c:SE X a []:=by rfl):PE X (.Call (.Name x p') [a] [] pos) (TN K ml pa (f1 o fa)):=
 (V1 hc i g d (a9 j ZP c) f b c).imp λ_ _ _ h=>IZ e h
def Wx{o:cH->Option cH}(hc:Z4 X (.builtin id) r)(e:CalN K r o)(i:Gl X x)(g:X.mg x=b4)(d:Bo x=b3 (.builtin id))(j:PE X a (TV K ml pa ta ba fa))(f:x≠ "__name__":=by decide)(b:ND x:=by decide)(c:SE X a []:=by rfl):PE X (.Call (.Name x p') [a] [] pos) (TN K ml pa (f1 o fa)):=
 (OW hc i g d (a9 j ZP c) f b c).imp λ_ _ _ h=>IZ e h
end
noncomputable def YW:cH->Option cH
 |.tup ds=>b3 (.int ds.length)
 |.lst ds=>b3 (.int ds.length)
 |.str z=>if z.length<=16777216 then b3 (.int z.length)else b4
 |_=>b4
def rLen(K:Ai):RC:=λxs H Q=>(∃p ys,xs=[.ref p]/\(XR K H p ys∨VE K H p ys)/\Q (.int ys.length) H)∨∃z,xs=[.str z]/\z.length<=sizeLine/\Q (.int z.length) H
def qm(h:X.K=K:=by rfl):Z4 X (.builtin "len") (rLen K):=by subst h;exact FG.or FH
def lG:BA K (rLen K) YW:=by
  intro H N M x d c Q b h k;cases d<;>first
    | (rename_i ds
       obtain⟨a,xs,rfl,sq,r⟩:=b.seq rfl;cases h;refine .inl ⟨a,xs,rfl,sq,?_⟩;rw[r.length];exact k _ λ_ _ _=>.int _)
    | (cases b.onS
       simp only[YW]at h;split at h
       · cases h
         exact .inr ⟨_,rfl,by rw[Bv];assumption,k _ λ_ _ _=>.int _⟩
       · cases h)
    |cases h
def K2(d:cH):Option cH:=(XB d).map cH.lst
def RX(d:cH):Option cH:=(XB d).map cH.tup
def cR(K:Ai):RC:=λxs H Q=>∃p ys,xs=[.ref p]/\(XR K H p ys∨VE K H p ys)/\∀l,H l=b4->Q (.ref l) (upd H l (.lst ys))
def AH(K:Ai):RC:=λxs H Q=>∃p ys,xs=[.ref p]/\((XR K H p ys/\∀l,H l=b4->Q (.ref l) (upd H l (.tup ys)))∨(VE K H p ys/\Q (.ref p) H))
def FZ(h:X.K=K:=by rfl):Z4 X (.type "list") (cR K):=fJ h
def OO(h:X.K=K:=by rfl):Z4 X (.type "tuple") (AH K):=gJ h
def EJ{d:cH}{g:List cH->cH}{c:cH}(h:(XB d).map g=b3 c):∃ds,XB d=b3 ds/\c=g ds:=by
 cases h1:XB d with
 |none=>rw[h1]at h;cases h
 |some ds=>rw[h1]at h;cases h;exact⟨ds,rfl,rfl⟩
def VM:CalN K (cR K) K2:=by intro H N M x d c Q b h k;obtain⟨ds,h1,rfl⟩:=EJ h;obtain⟨a,xs,rfl,sq,r⟩:=b.seq h1;exact⟨a,xs,rfl,sq,λl hl=>k l xs ds hl r rfl⟩
def OE:CalC K (AH K) RX:=by
 intro H N M x d c Q b h k;obtain⟨ds,h1,rfl⟩:=EJ h;obtain⟨a,xs,rfl,sq,r⟩:=b.seq h1;rcases sq with sq|sq
 ·exact⟨a,xs,rfl,.inl ⟨sq,λl hl=>k _ _ (b7 hl) λM e=>.tup (VE.of bU) (r.same (b7 hl))⟩⟩
 ·exact⟨a,xs,rfl,.inr ⟨sq,k _ _ (aN.refl _) λM e=>.tup sq r⟩⟩
noncomputable def o2I(g:Int->Int->Int):cH->cH->Option cH
 |.int i,.int j=>b3 (.int (g i j))
 |_,_=>b4
def dU{g:Int->Int->Int}:JW K (λxs H Q=>∃i j,xs=[.int i,.int j]/\Q (.int (g i j)) H) (o2I g):=by
 intro H N N' M M' x y d e c Q b a h k;unfold o2I at h;split at h
 ·cases h
  cases b.onI;cases a.onI;exact⟨_,_,rfl,k _ λ_ _ _=>.int _⟩
 ·cases h
abbrev oMax:=o2I λi j=>if j>i then j else i
abbrev oMin:=o2I λi j=>if j<i then j else i
def q8:JW K (λxs H Q=>∃i j,xs=[.int i,.int j]/\Q (.int (if j>i then j else i)) H) oMax:=dU
def pR:JW K (λxs H Q=>∃i j,xs=[.int i,.int j]/\Q (.int (if j<i then j else i)) H) oMin:=dU
noncomputable def tyD:cH->Option String
 |.non=>b3 "NoneType"
 |.bl _=>b3 "bool"
 |.int _=>b3 "int"
 |.str _=>b3 "str"
 |.tup _=>b3 "tuple"
 |.lst _=>b3 "list"
 |.dct _ _=>b3 "dict"
 |_=>b4
noncomputable def MF(t n:String):Option Bool:=if((Gx t)==(Gx n))=ba then b3 ba else if W.kitMeta n=ba then(PySem.fastBuiltinMro t).map (·.contains (.type n))else b4
def l7{t n:String}{k:Bool}(h:MF t n=b3 k):Hn K (.type t) (.type n)=b3 k:=h
def QD:cH->cH->Option cH
 |d,.ty n=>(tyD d).bind λt=>(MF t n).map cH.bl
 |_,_=>b4
def rIsi(K:Ai):RC:=λxs H Q=>∃x n d N M t k,xs=[x,.ty n]/\aT K N H M x d/\tyD d=b3 t/\MF t n=b3 k/\Q (.bl k) H
def lq:Z4 X (.builtin "isinstance") (rIsi X.K):=by
 intro aa s σ H xs v Q I r h;obtain⟨x,n,d,N,M,t,k,rfl,j,b,p,q⟩:=h;obtain⟨u,c,rfl,f,l⟩:=ES r;cases (show c=Gx n from l);have e:=l7 (K:=X.K) p;have a:∀tk,EP X aa σ Q (.bool k) {s with toks:=tk}:=λtk=>⟨.bl k,H,I.tok tk,rfl,q⟩;cases j with
 |non=>cases b;exact UK I f (.non) e a
 |bl y=>cases b;exact UK I f (.bl y) e a
 |int i=>cases b;exact UK I f (.int i) e a
 |str y=>cases b;exact UK I f (.str y) e a
 |ty n=>cases b
 |fn _=>cases b
 |dcn _ _ _=>cases b
 |dct q _ _=>cases b;exact UK I f (.dK q) e a
 |ktb T _=>
  obtain⟨_,o,es,ep,m,j,_⟩:=T;cases b;cases f;exact Fd Sb I.kIn ⟨o,I.kIn _ _ m,j.1⟩ e (λz=>nomatch z) a
 |exn _ _ _=>cases b
 |exr _ _ _ _ _=>cases b
 |tup q _=>
  cases b;cases f;obtain⟨g,_,⟨o,h1,h2,_⟩,_⟩:=I.tuple q;exact Fd W.kitx_tuple I.kIn ⟨o,h1,h2⟩ e (λz=>nomatch z) a
 |lst q _ _=>
  cases b;cases f;obtain⟨g,_,⟨o,n,h1,h2,_⟩,_⟩:=I.list (XR.of q);exact Fd Og I.kIn ⟨o,h1,h2⟩ e (λz=>nomatch z) a
 |fzl q _=>
  cases b;cases f;obtain⟨g,_,⟨o,n,h1,h2,_⟩,_⟩:=I.list q.sq;exact Fd Og I.kIn ⟨o,h1,h2⟩ e (λz=>nomatch z) a
def kIsi(h:X.K=K:=by rfl):Z4 X (.builtin "isinstance") (rIsi K):=by subst h;exact lq
def qY:JW K (rIsi K) QD:=by
  intro H N N' M M' x y d e c Q b a h k;cases a<;>first
    | (simp only [QD]at h
       cases h1:tyD d with
       |none=>rw[h1]at h;cases h
       |some t=>
         rw[h1]at h;rename_i n;have h:(MF t n).map cH.bl=b3 c:=h;obtain⟨kk,h2,h⟩:=Aj.mp h;cases h;exact⟨x,n,d,N,M,t,kk,rfl,b,h1,h2,k _ λ_ _ _=>.bl _⟩)
    |cases h
def GB:cH->Option cH
 |.int i=>b3 (.int (-i))
 |_=>b4
def SD(f:PE X a (TV K ml pa ta ia fa)):PE X (.UnaryOp .USub a pos) (TV K ml pa ba ba (f1 GB fa)):=(mf rm f).imp λσ H Q c=>by
 obtain⟨B,O,δ,d,δ',S,q,k⟩:=c;obtain⟨x,h1,h2⟩:=PX q;refine⟨B,O,δ,x,δ',S,h1,λe H1 b=>?_⟩;cases x with
 |int i=>
  cases h2;have g:e=.int i:=b.rep.onI;exact⟨i,g,k _ H1 ⟨b.sta,b.frm,b.pur,.int _⟩⟩
 |_=>cases h2
abbrev VP:=Ev->Option (Option Int×Ev)
inductive TPOi(K:Ai)(ml:List Nat)(pu:Bool)(f:VP)(σ:St)(H:Hp)(Q:Option Int->Hp->Prop):Prop
 |mk (B:_) (O:_) (δ:_) (k:_) (δ':_) (h0:aP K ml B O H σ δ) (h1:f δ=b3 (k,δ')) (h2:∀H',ResB K ml B O H σ pu H' δ'->Q k H'):TPOi K ml pu f σ H Q
def TPO(K:Ai)(ml:List Nat)(pu:Bool)(f:VP):TO:=λσ H Q=>TPOi K ml pu f σ H Q
def pNo:VP:=λδ=>b3 (b4,δ)
noncomputable def pSo(f:VF):VP:=λδ=>(f δ).bind λp=>match p.1 with
 |.int i=>b3 (b3 i,p.2)
 |_=>b4
def PO.imp{e:Option Ux}{t u:TO}(h:PO X e t)(k:∀σ H Q,u σ H Q->t σ H Q):PO X e u:=λaa s σ H Q I w=>h aa s σ H Q I (k σ H Q w)
def PF:PO X b4 (TPO K ml ba pNo):=zHO.imp λσ H Q a=>by obtain⟨B,O,δ,d,δ',S,q,k⟩:=a;cases q;exact k H (ResB.refl S)
def PH(h:PE X a (TV K ml pa ta ia fa)):PO X (b3 a) (TPO K ml pa (pSo fa)):=(qX h).imp λσ H Q c=>by
 obtain⟨B,O,δ,d,δ',S,q,k⟩:=c;unfold pSo at q;obtain⟨⟨x,δ1⟩,h1,q⟩:=Ac.mp q;refine⟨B,O,δ,x,δ1,S,h1,λe H1 b=>?_⟩;cases x with
 |int i=>
  have f:e=.int i:=b.rep.onI;cases q;exact⟨i,f,k H1 ⟨b.sta,b.frm,b.pur⟩⟩
 |_=>cases q
def UG(ds:List cH)(lo hi:Option Int):List cH:=(ds.drop (HT.sIx ds.length 0 lo)).take (HT.sIx ds.length ds.length hi-HT.sIx ds.length 0 lo)
def LV{N:Ur->Prop}{xs:List V}{ds:List cH}(r:bQ K N H xs ds)(lo hi:Option Int):bQ K N H (DK xs lo hi) (UG ds lo hi):=by unfold DK UG;rw[r.length];exact(r.drop _).take _
noncomputable def oSl(d:cH)(lo hi:Option Int):Option cH:=match d with
 |.lst ds=>b3 (.lst (UG ds lo hi))
 |.tup ds=>b3 (.tup (UG ds lo hi))
 |_=>b4
def fSl(fa:VF)(a b:VP):VF:=λδ=>(fa δ).bind λp=>(a p.2).bind λl=>(b l.2).bind λu=>(oSl p.1 l.1 u.1).map λc=>(c,u.2)
def l9{prog:Av}{w:Uy}{A:Bz}{E:Uq->Ae->Prop}{s:Ae}{t sl:Ur}{items:Array Uq}{e d:Uq}{lo hi:Option Int}{Q:Uq->Ae->Prop}(a:IsTup s.heap t items)(f:s.heap.IsSliceOf sl e d .none)(pl:IsPart e lo)(pu:IsPart d hi)(h1:HT.sIx items.size 0 lo=0)(h2:HT.sIx items.size items.size hi=items.size)(h:Q (.ref t) s):Us (Ut prog w) A (Lz (.ref t) (.ref sl)) Q E s:=by
 obtain⟨os,b,c,g⟩:=id f;have i:s.TypeIs (.ref sl) "slice":=⟨os,b,c⟩;unfold Lz;try with_reducible refine Bp ?_
 first|refine Aa (Ag ?_)|skip
 refine Aa (Lm a.typeIs (by decide) ?_);refine Aa (Cs (name:=Bj "__getitem__") a.typeIs Eo
  (Dm Eo a.typeIs PyProof.Rows.entry_tuple_getitem ?_ (PyProof.Rows.args_tuple_getitem _ _)))
 show Us _ _ (Kx (.ref t)>>=_) _ _ s;refine Aa (PyProof.Rows.tupleItemsOf_ a ?_);refine Aa (Jp i ?_);rw[if_pos (by decide)];refine Aa (HT.UT f pl pu ?_);rw[h1,h2];show Us _ _ (if((((0:Nat):Int)==0&&(1:Int)==1&&(items.size-0)==items.size)=ba)then _ else _) _ _ s;rw[if_pos (by simp)];refine Aa (m:=Sq _) (Aa (Jp a.typeIs (Ag ?_)));rw[if_pos (by decide)];exact Aa (Jb (Ag ⟨_,rfl,Ag h⟩))
def rSlW(K:Ai):V->Option Int->Option Int->Hp->VK->Prop:=λx lo hi H Q=>∃a xs,x=.ref a/\VE K H a xs/\(HT.sIx xs.length 0 lo=0/\HT.sIx xs.length xs.length hi=xs.length)/\Q (.ref a) H
def oO:SlR X (rSlW X.K):=by
 intro aa s σ H x v j i lo hi sl Q I e g pl pu h;obtain⟨a,xs,rfl,f,hw,q⟩:=h;cases e;obtain⟨b,r,c,hz⟩:=I.tuple f;have d:b.toArray.size=xs.length:=by rw[Am];exact r.length.symm
 refine⟨"tuple",_,PyProof.Rows.slot_tuple_getitem.lookup,c.typeIs,?_⟩;exact l9 c g pl pu (by rw[d];exact hw.1) (by rw[d];exact hw.2) ⟨.ref a,H,I,rfl,q⟩
def rSl(K:Ai):V->Option Int->Option Int->Hp->VK->Prop:=λx lo hi H Q=>(rSlT K x lo hi H Q∨rSlL K x lo hi H Q)∨rSlW K x lo hi H Q
def kSl(h:X.K=K:=by rfl):SlR X (rSl K):=by subst h;exact(zLC.or pX).or oO
def kK{b e:VP}(h:fSl fa b e δ=b3 (d,δ')):∃x δ1 l δ2 u,fa δ=b3 (x,δ1)/\b δ1=b3 (l,δ2)/\e δ2=b3 (u,δ')/\oSl x l u=b3 d:=by
 unfold fSl at h;cases h1:fa δ with
 |none=>rw[h1]at h;cases h
 |some p=>
  rw[h1]at h;cases h2:b p.2 with
  |none=>simp[h2]at h
  |some q=>
   simp only[Ap,h2]at h;cases a:e q.2 with
   |none=>simp[a]at h
   |some s=>
    simp only[Ap,a]at h;obtain⟨c,f,h⟩:=Aj.mp h;cases h;exact⟨p.1,p.2,q.1,q.2,s.1,rfl,h2,a,f⟩
def PD{lo hi:Option Ux}{p2:Pos}{v w:VP}(F:X.K=K)(E:PE X a (TV K ml pa ta ia fa))(hl:PO X lo (TPO K ml pb v))(D:PO X hi (TPO K ml pc w))(C:(pb&&pc || (ta&&ia))=ba:=by rfl):
  PE X (.Subscript a (.Slice lo hi b4 p2) pos) (TV K ml (pa&&pb&&pc) ba ia (fSl fa v w)):=(lU (kSl F) E hl D).imp λσ H Q s=>by
 obtain⟨B,O,δ,d,i,S,q,k⟩:=s;obtain⟨x,δ1,l,δ2,u,h1,h2,G,t⟩:=kK q;refine⟨B,O,δ,x,δ1,S,h1,λA H1 h=>⟨B,O,δ1,l,δ2,h.sta,h2,λH2 R2=>⟨B,O,δ2,u,i,R2.sta,G,λy c=>?_⟩⟩⟩;have o:aT K (av B O ia) y (at_ B O ta) A x:=by
  rcases(Io _ _).mp C with z|z
  ·obtain⟨m,j⟩:=(Af _ _).mp z
   exact(h.rep.same (R2.pur m)).same (c.pur j)
  ·obtain⟨m,j⟩:=(Af _ _).mp z
   subst m j;exact(h.rep.fr R2.frm (λa z=>.inr z) λa z=>.inr z).fr c.frm (λa z=>.inr z) λa z=>.inr z
 have g:(pa&&pb&&pc)=ba->aN H y:=λz=>by simp only[Af]at z;exact((h.pur z.1.1).trans (R2.pur z.1.2)).trans (c.pur z.2)
 have f:=(h.frm.trans R2.frm).trans c.frm;cases x with
 |lst ds=>
  cases t;obtain⟨a,xs,rfl,sq,r⟩:=o.seq rfl;rcases sq with sq|sq
  ·exact .inl (.inr ⟨a,xs,rfl,sq,λp b=>k _ _ ⟨c.sta.same (b7 b),f.trans (b7 b).fr,λz=>(g z).trans (b7 b),.lst bU (c.sta.new b) ((LV r l u).same (b7 b))⟩⟩)
  ·cases o.onL with
   |lst q n r'=>exact .inl (.inr ⟨a,_,rfl,XR.of q,λp b=>k _ _ ⟨c.sta.same (b7 b),f.trans (b7 b).fr,λz=>(g z).trans (b7 b),.lst bU (c.sta.new b) ((LV r' l u).same (b7 b))⟩⟩)
   |fzl q r'=>exact .inl (.inr ⟨a,_,rfl,q.sq,λp b=>k _ _ ⟨c.sta.same (b7 b),f.trans (b7 b).fr,λz=>(g z).trans (b7 b),.lst bU (c.sta.new b) ((LV r' l u).same (b7 b))⟩⟩)
 |tup ds=>
  cases t;cases o.onT with
  |tup q r'=>
   by_cases hw:HT.sIx ds.length 0 l=0/\HT.sIx ds.length ds.length u=ds.length
   ·refine .inr ⟨_,_,rfl,q,by rw [r'.length];exact hw,k _ _ ⟨c.sta,f,g,?_⟩⟩
    have e:UG ds l u=ds:=by unfold UG;rw[hw.1,hw.2];simp
    rw[e];exact .tup q r'
   ·exact .inl (.inl ⟨_,_,rfl,q,by rw[r'.length];exact hw,λp b=>k _ _ ⟨c.sta.same (b7 b),f.trans (b7 b).fr,λz=>(g z).trans (b7 b),.tup (VE.of bU) ((LV r' l u).same (b7 b))⟩⟩)
 |_=>cases t
end
inductive Ou where
 |nx (δ:Ev)|rt (d:cH) (δ:Ev)|bk (δ:Ev)|ct (δ:Ev)
abbrev VS:=Ev->Option Ou
def Post(K:Ai)(ml:List Nat)(B:Bs)(D:M0):Ou->Prop
 |.nx δ'=>∀a H' b,aP K ml B b H' a δ'->D.nx a H'
 |.rt d δ'=>∀v a H' b,aP K ml B b H' a δ'->aT K (rz B) H' (rz B) v d->D.rt v H'
 |.bk δ'=>∀a H' b,aP K ml B b H' a δ'->D.bk a H'
 |.ct δ'=>∀a H' b,aP K ml B b H' a δ'->D.ct a H'
inductive TSti(K:Ai)(ml:List Nat)(g:VS)(D:M0)(σ:St)(H:Hp):Prop
 |mk (B:_) (O:_) (δ:_) (o:_) (h0:aP K ml B O H σ δ) (h1:g δ=b3 o) (h2:Post K ml B D o):TSti K ml g D σ H
def WG(K:Ai)(ml:List Nat)(g:VS):TS:=λD σ H=>TSti K ml g D σ H
section
variable{X:Cx}{K:Ai}{ml:List Nat}{e a b c:Ux}{es:List Ux}{pa ta ia pb tb ib pc tc ic pu bt bi ps bs:Bool}{fa fb fc f:VF}{B B':Bs}{O:Nat->Option Ur}{H H1 H':Hp}{σ:St}{δ δ':Ev}{v:V}{d:cH}{p:Ur}{pos:Pos}{st:Vd}{rest:List Vd}{g g':VS}
def Z2:VS:=λδ=>b3 (.nx δ)
def bV(g g':VS):VS:=λδ=>(g δ).bind λo=>match o with
 |.nx δ'=>g' δ'
 |o=>b3 o
def bP:WP X [] (WG K ml Z2):=GI.imp λD σ H a=>by obtain⟨B,O,δ,o,S,q,k⟩:=a;cases q;exact k σ H O S
def cE(h1:PS X st (WG K ml g))(h2:WP X rest (WG K ml g')):WP X (st::rest) (WG K ml (bV g g')):=(UQ h1 h2).imp λD σ H a=>by
 obtain⟨B,O,δ,o,S,q,k⟩:=a;unfold bV at q;obtain⟨z,h1,q⟩:=Ac.mp q;refine⟨B,O,δ,z,S,h1,?_⟩;cases z with
 |nx δ1=>exact λb H' e c=>⟨B,e,δ1,o,c,q,k⟩
 |rt d δ1=>cases q;exact k
 |bk δ1=>cases q;exact k
 |ct δ1=>cases q;exact k
def b8(h1:PS X st (WG K ml g)):WP X [st] (WG K ml g):=(UQ h1 GI).imp λD σ H ⟨B,O,δ,o,S,q,k⟩=>⟨B,O,δ,o,S,q,by cases o<;>exact k⟩
noncomputable def bE(f:VF):VS:=λδ=>(f δ).map λp=>.rt p.1 p.2
def bX(h:PE X e (TV K ml pu bt bi f))(b:bt=ba:=by rfl):PS X (.Return (b3 e) pos) (WG K ml (bE f)):=(CK h).imp λD σ H a=>by obtain⟨B,O,δ,o,S,q,k⟩:=a;unfold bE at q;obtain⟨p,h1,q⟩:=Aj.mp q;cases q;subst b;exact⟨B,O,δ,p.1,p.2,S,h1,λv H' R=>k v σ H' O R.sta (R.rep.mono R.sta.rza R.sta.rzn)⟩
def A8{i:Nat}(h:PE X e (VC i))(b:i∉ml:=by decide):PS X (.Return (b3 e) pos) (WG K ml (bE (fO i))):=(CK h).imp λD σ H a=>by obtain⟨B,O,δ,o,S,q,k⟩:=a;unfold bE at q;obtain⟨⟨x,δ1⟩,h1,q⟩:=Aj.mp q;cases q;obtain⟨rfl,v,c,r⟩:=S.lone b h1;exact⟨v,c,k v σ H O S (r.mono S.rza S.rza)⟩
def US(f:VF):VS:=λδ=>(f δ).map λp=>.nx p.2
def WV(h:PE X e (TV K ml pu bt bi f))(b:Vc e b4 pos.line X.env=pure bb:=by rfl):PS X (.Expr e pos) (WG K ml (US f)):=(L8 h b).imp λD σ H a=>by obtain⟨B,O,δ,o,S,q,k⟩:=a;unfold US at q;obtain⟨p,h1,q⟩:=Aj.mp q;cases q;exact⟨B,O,δ,p.1,p.2,S,h1,λv H' R=>k σ H' O R.sta⟩
def XS(t:VB)(g g':VS):VS:=λδ=>(t δ).bind λp=>if p.1=ba then g p.2 else g' p.2
def aU{x y:List Vd}{t:VB}(d:PT X c (TB K ml pc t))(f:WP X x (WG K ml g))(e:WP X y (WG K ml g')):PS X (.If c x y pos) (WG K ml (XS t g g')):=(Xb d f e).imp λD σ H a=>by
 obtain⟨B,O,δ,o,S,q,k⟩:=a;unfold XS at q;obtain⟨⟨kk,δ1⟩,h1,q⟩:=Ac.mp q;refine⟨B,O,δ,kk,δ1,S,h1,λH1 b=>?_⟩;cases kk with
 |true=>exact NH ⟨B,O,δ1,o,b.sta,q,k⟩
 |false=>exact NG ⟨B,O,δ1,o,b.sta,q,k⟩
abbrev VX:=Ev->Option (Sl×Ev)
inductive St1(K:Ai)(B:Bs)(O:Nat->Option Ur)(H:Hp):Bs->V->Sl->Prop
 |va {v:V}{d:cH}:St1 K B O H {B with kp:=[(v,d)]++B.kp} v (.va d)
 |ol {p:Ur}{xs:List V}{ds:List cH}:H p=b3 (.lst xs)->xs.length=ds.length->¬Nn B O p->B.H0 p=b4->St1 K B O H {B.add p with kp:=xs.zip ds++B.kp} (.ref p) (.ow (.lst ds))
 |od {p:Ur}{kvs:List (Z5×V)}{ds:List cH}:H p=b3 (.dK kvs)->kvs.length=ds.length->¬Nn B O p->B.H0 p=b4->St1 K B O H {B.add p with kp:=(kvs.map Cz).zip ds++B.kp} (.ref p) (.ow (.dct (kvs.map Bw) ds))
 |on {p:Ur}{kvs:List (List Ky×V)}{ds:List cH}:H p=b3 (.dT kvs)->kvs.length=ds.length->¬Nn B O p->B.H0 p=b4->St1 K B O H {B.add p with kp:=(kvs.map Cz).zip ds++B.kp} (.ref p) (.ow (.dcn (kvs.map Bw) ds))
def St1.fr{s:Sl}(h:St1 K B O H B' v s)(f:Fr (OA O) H H'):St1 K B O H' B' v s:=by
 cases h with
 |va=>exact .va
 |ol q l n z=>exact .ol (f _ _ q λw=>absurd (.inr w) n) l n z
 |od q l n z=>exact .od (f _ _ q λw=>absurd (.inr w) n) l n z
 |on q l n z=>exact .on (f _ _ q λw=>absurd (.inr w) n) l n z
inductive TXi(K:Ai)(ml:List Nat)(f:VX)(σ:St)(H:Hp)(Q:VK):Prop
 |mk (B:_) (O:_) (δ:_) (s:_) (δ':_) (h0:aP K ml B O H σ δ) (h1:f δ=b3 (s,δ')) (h2:∀v H' B',aP K ml B' O H' σ δ'->St1 K B O H' B' v s->Fr (OA O) H H'->Q v H'):TXi K ml f σ H Q
def TX(K:Ai)(ml:List Nat)(f:VX):TE:=λσ H Q=>TXi K ml f σ H Q
noncomputable def xV(f:VF):VX:=λδ=>(f δ).map λp=>(.va p.1,p.2)
noncomputable def xO(f:VF):VX:=λδ=>(f δ).map λp=>(.ow p.1,p.2)
def aM(h:PE X e (TV K ml pu ba ba f)):PE X e (TX K ml (xV f)):=h.imp λσ H Q a=>by
 obtain⟨B,O,δ,o,δ',S,q,k⟩:=a;unfold xV at q;obtain⟨p,h1,q⟩:=Aj.mp q;cases q;exact⟨B,O,δ,p.1,p.2,S,h1,λv H' R=>k v H' _ (R.sta.keepV (ps:=[(v,p.1)]) λz hz=>by rw[Aw.mp hz];exact R.rep) .va R.frm⟩
theorem WF{N:Ur->Prop}:∀{xs:List V}{ds:List cH},bQ K N H xs ds->∀z∈xs.zip ds,aT K N H N z.1 z.2
 |_,_,.nil,z,hz=>nomatch hz
 |_,_,.cons h t,z,hz=>by
  rcases Al.mp hz with e|e
  ·rw[e];exact h
  ·exact WF t z e
theorem T6{N:Ur->Prop}:∀{xs:List V}{ds:List cH},xs.length=ds.length->(∀z∈xs.zip ds,aT K N H N z.1 z.2)->bQ K N H xs ds
 |[],[],_,_=>.nil
 |x::xs,d::ds,hl,h=>.cons (h (x,d) (At ..)) (T6 (by simpa using hl) λz hz=>h z (Aq _ hz))
def SX(h:PE X e (TN K ml pu f)):PE X e (TX K ml (xO f)):=h.imp λσ H Q a=>by
 obtain⟨B,O,δ,o,δ',S,q,k⟩:=a;unfold xO at q;cases h1:f δ with
 |none=>rw[h1]at q;cases q
 |some p=>
  obtain⟨d,δ1⟩:=p;rw[h1]at q;cases q;refine⟨B,O,δ,d,δ1,S,h1,λp H' R=>?_⟩;have w:=R.own;cases w with
  |lst q r=>exact k _ H' _ (R.sta.keepV (WF r)) (.ol q r.length R.nz R.h0) R.frm
  |dct q r=>exact k _ H' _ (R.sta.keepV (WF r)) (.od q (by simpa using r.length) R.nz R.h0) R.frm
  |dcn q r=>exact k _ H' _ (R.sta.keepV (WF r)) (.on q (by simpa using r.length) R.nz R.h0) R.frm
def St1.bind{c:Nat->Option Ur}{s:Sl}{i:Nat}(h:St1 K B O H' B' v s)(S:aP K ml B' c H' σ δ)(a:i∉ml)(hl:i<δ.length):∃b,aP K ml B b H' (σ.set i (b3 v)) (δ.set i s):=by
 cases h with
 |va=>
  refine⟨_,aP.unkeep (ps:=_) (S.setVa a (S.kep _ (Bf _ (Aw.mpr rfl))))⟩
 |ol q l n z=>
  refine⟨_,aP.setOw (aP.unkeep (B:=B.add _) S) a hl (λw=>n (.inl w)) z (.lst q (T6 l λz hz=>S.kep z (Bf _ hz)))⟩
 |od q l n z=>
  refine⟨_,aP.setOw (aP.unkeep (B:=B.add _) S) a hl (λw=>n (.inl w)) z (.dct q (T6 (by simpa using l) λz hz=>S.kep z (Bf _ hz)))⟩
 |on q l n z=>
  refine⟨_,aP.setOw (aP.unkeep (B:=B.add _) S) a hl (λw=>n (.inl w)) z (.dcn q (T6 (by simpa using l) λz hz=>S.kep z (Bf _ hz)))⟩
noncomputable def aL(i:Nat)(x:VX):VS:=λδ=>(x δ).bind λp=>if i<p.2.length then b3 (.nx (p.2.set i p.1))else b4
def bC{i:Nat}{y:Uv}{x:VX}{bh:Pos}(j:X.N.Nodup)(h:PE X e (TX K ml x))(hi:X.N[i]?=b3 y:=by rfl)(c:Loc X.env.scope y:=by first|exact .inl rfl|exact .inr rfl)(f:i∉ml:=by decide)(d:Vc e (b3 (.Name y bh)) pos.line X.env=pure bb:=by rfl)
  (g:LO X y:=by first|exact .inl rfl|exact .inr rfl|assumption):PS X (.Assign [.Name y bh] e pos) (WG K ml (aL i x)):=(lj j hi c h d g).imp λD σ H a=>by
 obtain⟨B,O,δ,o,S,q,k⟩:=a;unfold aL at q;obtain⟨⟨s,δ1⟩,h1,q⟩:=Ac.mp q;have q:(if i<δ1.length then b3 (Ou.nx (δ1.set i s))else b4)=b3 o:=q;split at q
 ·rename_i hl
  cases q;refine⟨B,O,δ,s,δ1,S,h1,λv H' B' l h' n=>?_⟩;obtain⟨m,b⟩:=h'.bind l f hl;exact k _ _ _ b
 ·cases q
noncomputable def EH(i j:Nat)(x y:VX):VS:=λδ=>(x δ).bind λp=>(y p.2).bind λq=>if i<q.2.length/\j<q.2.length then b3 (.nx ((q.2.set j q.1).set i p.1))else b4
def A7{i j:Nat}{y z:Uv}{fx l:VX}{d py pt:Pos}{kt k2 pt2}(hc:X.calm=ba)(F:X.N.Nodup)(hi:X.N[i]?=b3 y)(x:X.N[j]?=b3 z)(c:i≠j)(u:X.env.scope.names.lookup y=b3 .local)(t:X.env.scope.names.lookup z=b3 .local)(E:PE X a (TX K ml fx))(C:PE X b (TX K ml l))(hw:Gd [.Tuple [.Name y d,.Name z py] kt pt] (.Tuple [a,b] k2 pt2) X.env=pure (b3 [y,z]))(g:i∉ml:=by decide)(f:j∉ml:=by decide)(w:Gc [.Tuple [.Name y d,.Name z py] kt pt] (.Tuple [a,b] k2 pt2) pos.line X.env=pure bb:=by rfl)(A:SE X a [b]:=by rfl)(h:SE X b []:=by rfl):
  PS X (.Assign [.Tuple [.Name y d,.Name z py] kt pt] (.Tuple [a,b] k2 pt2) pos) (WG K ml (EH i j fx l)):=(eJ hc F hi x c u t (a9 E (a9 C ZP h) A) hw w).imp λD σ H e=>by
 obtain⟨B,O,δ,o,S,q,k⟩:=e;unfold EH at q;obtain⟨⟨s,δ1⟩,h1,q⟩:=Ac.mp q;cases h2:l δ1 with
 |none=>simp[h2]at q
 |some p2=>
  obtain⟨s2,δ2⟩:=p2;simp only[Ap,h2]at q;split at q
  ·rename_i hl
   cases q;refine⟨B,O,δ,s,δ1,S,h1,λv H1 L J p f1=>⟨L,O,δ1,s2,δ2,J,h2,λr H2 Q I n f2=>⟨v,r,rfl,?_⟩⟩⟩;obtain⟨P,G⟩:=n.bind I f hl.2;obtain⟨M,m⟩:=(p.fr f2).bind G g (by rw[By];exact hl.1);rw[Er _ _ (Dj c)]at m;exact k _ _ _ m
  ·cases q
abbrev VG:=cH->Ev->Option Ev
inductive TGVi(K:Ai)(ml:List Nat)(h:VG)(v:V)(σ:St)(H:Hp)(Q:St->Hp->Prop):Prop
 |mk (B:_) (O:_) (δ:_) (d:_) (δ':_) (h0:aP K ml B O H σ δ) (h1:aT K (Nn B O) H (Nn B O) v d) (h2:h d δ=b3 δ') (h3:∀σ' O',aP K ml B O' H σ' δ'->(∀i∈ml,σ'[i]?=σ[i]?)->Q σ' H):TGVi K ml h v σ H Q
def BE(K:Ai)(ml:List Nat)(h:VG):TG:=λv σ H Q=>TGVi K ml h v σ H Q
def PG.imp{t u:TG}(h:PG X e t)(k:∀v σ H Q,u v σ H Q->t v σ H Q):PG X e u:=λaa s σ H v w Q I r z=>h aa s σ H v w Q I r (k v σ H Q z)
def PGs.imp{t u:TGs}(h:PGs X es t)(k:∀v σ H Q,u v σ H Q->t v σ H Q):PGs X es u:=λaa s σ H v w Q I r z=>h aa s σ H v w Q I r (k v σ H Q z)
def PG.or{t u:TG}(h:PG X e t)(h':PG X e u):PG X e (λv σ H Q=>t v σ H Q∨u v σ H Q):=λaa s σ H v w Q I r z=>by
 rcases z with z|z
 ·exact h aa s σ H v w Q I r z
 ·exact h' aa s σ H v w Q I r z
def gN(i:Nat):VG:=λd δ=>b3 (δ.set i (.va d))
def bO{i:Nat}{x:Uv}(g:X.N.Nodup)(hi:X.N[i]?=b3 x:=by rfl)(c:Loc X.env.scope x:=by first|exact .inl rfl|exact .inr rfl)(b:i∉ml:=by decide)(f:LO X x:=by first|exact .inl rfl|exact .inr rfl|assumption):PG X (.Name x pos) (BE K ml (gN i)):=
 (WD g hi c f).imp λv σ H Q a=>by obtain⟨B,O,δ,d,δ',S,r,q,k⟩:=a;cases q;exact k _ _ (S.setVa b r) λj e=>Ba λ(z:i=j)=>b (z▸e)
abbrev VGs:=List cH->Ev->Option Ev
inductive Yj(K:Ai)(ml:List Nat)(h:VGs)(vs:List V)(σ:St)(H:Hp)(Q:St->Hp->Prop):Prop
 |mk (B:_) (O:_) (δ:_) (ds:_) (δ':_) (h0:aP K ml B O H σ δ) (h1:bQ K (Nn B O) H vs ds) (h2:h ds δ=b3 δ') (h3:∀σ' O',aP K ml B O' H σ' δ'->(∀i∈ml,σ'[i]?=σ[i]?)->Q σ' H):Yj K ml h vs σ H Q
def TGVs(K:Ai)(ml:List Nat)(h:VGs):TGs:=λvs σ H Q=>Yj K ml h vs σ H Q
def WI:VGs:=λds δ=>match ds with
 |[]=>b3 δ
 |_=>b4
def aG(g:VG)(a:VGs):VGs:=λds δ=>match ds with
 |d::r=>(g d δ).bind λδ1=>a r δ1
 |[]=>b4
def X5:PGs X [] (TGVs K ml WI):=GG.imp λvs σ H Q a=>by
 obtain⟨B,O,δ,ds,δ',S,r,q,k⟩:=a;cases r with
 |nil=>cases q;exact⟨rfl,k _ _ S λ_ _=>rfl⟩
 |cons _ _=>cases q
def aS{g:VG}{c:VGs}(h1:PG X e (BE K ml g))(h2:PGs X es (TGVs K ml c))(l:(Va (e::es) X.env).map (·.2)=Gg e X.env::(Va es X.env).map (·.2):=by rfl):PGs X (e::es) (TGVs K ml (aG g c)):=
 (UP h1 h2 l).imp λvs σ H Q b => by
  obtain⟨B,O,δ,ds,δ',S,r,q,k⟩:=b;cases r with
  |nil=>cases q
  | @cons v vs d ds h t=>
   have q:((g d δ).bind λδ1=>c ds δ1)=b3 δ':=q;obtain⟨δ1,h1,q⟩:=Ac.mp q;have n:=S.keepV (WF t);exact⟨v,vs,rfl,_,O,δ,d,δ1,n,h,h1,λj p f m1=>⟨B,p,δ1,ds,δ',f.unkeep,T6 t.length λz hz=>f.kep z (Bf _ hz),q,λa o m m2=>k a o m λi hi=>(m2 i hi).trans (m1 i hi)⟩⟩
def E6(n:Nat)(a:VGs):VG:=λd δ=>(XB d).bind λds=>if ds.length=n then a ds δ else b4
def VT{e:VGs}{k n:Nat}(j:X.K=K)(hc:X.calm=ba)(h:PGs X es (TGVs K ml e))(i:(Va es X.env).length=n:=by rfl)(b:(Va es X.env).findIdx? (·.1)=b4:=by rfl):PG X (.Tuple es k pos) (BE K ml (E6 n e)):=
 ((Zl (K := K) j hc h i b).or (ln (K := K) j hc h i b)).imp λv σ H Q g => by
  obtain⟨B,O,δ,d,δ',S,r,q,k⟩:=g;unfold E6 at q;obtain⟨ds,h1,q⟩:=Ac.mp q;have q:(if ds.length=n then e ds δ else b4)=b3 δ':=q;split at q
  ·rename_i hl
   obtain⟨a,xs,rfl,sq,f⟩:=r.seq h1;have c:TGVs K ml e xs σ H Q:=⟨B,O,δ,ds,δ',S,f,q,k⟩;rcases sq with sq|sq
   ·exact .inr ⟨a,xs,rfl,sq,f.length.trans hl,c⟩
   ·exact .inl ⟨a,xs,rfl,sq,f.length.trans hl,c⟩
  ·cases q
noncomputable def sAsg(f:VF)(g:VG):VS:=λδ=>(f δ).bind λp=>(g p.1 p.2).map Ou.nx
def C6{tg:Ux}{gg:VG}(h:PE X e (TV K ml pu ba ba f))(g:PG X tg (BE K ml gg))(c:Gc [tg] e pos.line X.env=pure bb:=by rfl)(hw:Gd [tg] e X.env=pure b4:=by rfl)
  (h1:(Va [tg] X.env).map (·.2)=[Gg tg X.env]:=by rfl):PS X (.Assign [tg] e pos) (WG K ml (sAsg f gg)):=(CJ h g c hw h1).imp λD σ H b=>by
 obtain⟨B,O,δ,o,S,q,k⟩:=b;unfold sAsg at q;obtain⟨⟨d,δ1⟩,h1,q⟩:=Ac.mp q;have q:(gg d δ1).map Ou.nx=b3 o:=q;obtain⟨δ2,h2,q⟩:=Aj.mp q;cases q;exact⟨B,O,δ,d,δ1,S,h1,λv H' R=>⟨B,O,δ1,d,δ2,R.sta,R.rep,h2,λa j i _=>k a H' j i⟩⟩
def MuV(K:Ai)(r:V->List V->Hp->VK->Prop)(m:List cH->List cH->Option (List cH)):Prop:=∀(H:Hp) (N:Ur->Prop) (l:Ur) (xs vs:List V) (ds es b:List cH) (Q:VK),
 H l=b3 (.lst xs)->N l->bQ K N H xs ds->bQ K N H vs es->m ds es=b3 b->(∀v a,bQ K N H a b->Q v (upd H l (.lst a)))->r (.ref l) vs H Q
noncomputable def MG(δ:Ev)(i:Nat):Option (List cH):=match δ[i]? with
 |some (.ow (.lst ds))=>b3 ds
 |_=>b4
def T7(i:Nat)(m:List cH->List cH->Option (List cH))(fs:MC):VS:=λδ=>(MG δ i).bind λ_=>(fs δ).bind λp=>(MG p.2 i).bind λds=>(m ds p.1).map λa=>.nx (p.2.set i (.ow (.lst a)))
def IG{i:Nat}{ds:List cH}(h:MG δ i=b3 ds):δ[i]?=b3 (.ow (.lst ds)):=by
 unfold MG at h;split at h
 ·cases h;assumption
 ·cases h
def EE{N:Ur->Prop}{l:Ur}{o:HO}{xs:List V}{ds ys:List cH}{zs:List V}(d:H l=b3 (.lst zs))(e:N l)(h:bQ K N H xs ds):bQ K N (upd H l o) xs ds:=
 h.fr (P:=λb=>b=l) (λb u q n=>by
  by_cases c:b=l
  ·subst c
   rw[d]at q;cases q;exact absurd (n rfl) λz=>z
  ·rw[bL c]
   exact q) λa z=>z▸e
def YJ{i:Nat}{x:Uv}{name:Uv}{aj af c:Pos}{id:String}{r:V->List V->Hp->VK->Prop}{m:List cH->List cH->Option (List cH)}{fs:MC}(slot:Slot "list" name id)(g:Nw (.builtin id)=pure (.type "method_descriptor"))(I:MtR X id r)(n:MuV K r m)(G:PE X (.Name x c) (VC i))(J:PA X (e::es) (TAV K ml pu ba fs))(T:Ff (.Name x c) name X.env (eval (.Name x c) X.env)=eval (.Name x c) X.env:=by rfl)(Q:((Dx af (Uu (e::es) X.env)).all (λx=> !x.1)&&(Ho af (Fb [] X.env)).all (λx=>x.1.isSome)&&decide ((e::es).length+([]:List Hr).length+(if([]:List Hr).isEmpty then 0 else 1)<30))=ba:=by rfl)(U:(aj.endLine==af.line)=ba:=by rfl)(F:SE X e es:=by rfl)(W:(Dx af (Uu es X.env)).any (·.1)=bb:=by rfl)(h:Vc (.Call (.Attribute (.Name x c) name aj) (e::es) [] af) b4 pos.line X.env=pure bb:=by rfl)(L:X.K=K:=by rfl):PS X (.Expr (.Call (.Attribute (.Name x c) name aj) (e::es) [] af) pos) (WG K ml (T7 i m fs)):=
 (L8 (kBm (K := K) L Ge slot g I G J T Q U F W) h).imp λD σ H j => by
  obtain⟨B,O,δ,o,S,q,k⟩:=j;unfold T7 at q;obtain⟨P,M,q⟩:=Ac.mp q;have q:((fs δ).bind λp=>(MG p.2 i).bind λds=>(m ds p.1).map λa=>Ou.nx (p.2.set i (.ow (.lst a))))=b3 o:=q;obtain⟨⟨b,δ1⟩,h1,q⟩:=Ac.mp q;have q:((MG δ1 i).bind λds=>(m ds b).map λa=>Ou.nx (δ1.set i (.ow (.lst a))))=b3 o:=q;obtain⟨ds,h2,q⟩:=Ac.mp q;have q:((m ds b).map λa=>Ou.nx (δ1.set i (.ow (.lst a))))=b3 o:=q;cases t:m ds b with
  |none=>rw[t]at q;cases q
  |some a=>
   rw[t]at q;cases q;obtain⟨l,f,N,w⟩:=S.ow i _ (IG M);cases w with
   |lst s _=>
    refine⟨.ref l,N,.inl ⟨rfl,_,XR.of s⟩,B,O,δ,b,δ1,S,h1,λvs H1 R=>?_⟩;obtain⟨Y,u,_,A⟩:=R.sta.ow i _ (IG h2);rw[f]at u;cases u;cases A with
    |lst d E=>
     refine n H1 (Nn B O) l _ vs ds b a _ d (.inr ⟨i,f⟩) E R.rep t λv y C=>?_;exact k σ _ O (R.sta.wrote f (λz=>z) (.lst bU (EE (ys:=[]) d (.inr ⟨i,f⟩) C)))
noncomputable def QA:List cH->List cH->Option (List cH)
 |ds,[d]=>if ds.length<16777216 then b3 (ds++[d])else b4
 |_,_=>b4
def WJ:MuV K GK QA:=by
 intro H N l xs vs ds es e Q hl f a b h k;cases b with
 |nil=>cases h
 | @cons v vs d es c t=>
  cases t with
  |cons _ _=>cases h
  |nil=>
   simp only[QA]at h;split at h
   ·rename_i hz
    cases h;exact⟨l,xs,v,rfl,rfl,hl,by rw[a.length,Bv];exact hz,k _ _ (a.snoc c)⟩
   ·cases h
end
section
variable{X:Cx}{K:Ai}{ml:List Nat}{e a b c:Ux}{es:List Ux}{pa ta ia pb tb ib pc tc ic pu bt bi ps bs:Bool}{fa fb fc f:VF}{B B':Bs}{O:Nat->Option Ur}{H H1 H':Hp}{σ:St}{δ δ':Ev}{v:V}{d:cH}{p:Ur}{pos:Pos}{st:Vd}{rest:List Vd}{g g':VS}
def again(a:VS):Ou->Option Ou
 |.nx δ=>a δ
 |.ct δ=>a δ
 |.bk δ=>b3 (.nx δ)
 |.rt d δ=>b3 (.rt d δ)
noncomputable def Z0(t:VB)(g:VS):Nat->VS
 |0=>λ_=>b4
 |n+1=>λδ=>(t δ).bind λp=>if p.1=ba then(g p.2).bind (again (Z0 t g n))else b3 (.nx p.2)
theorem SH{t:VB}:∀{n:Nat}{δ:Ev}{o:Ou},Z0 t g n δ=b3 o->Z0 t g (n+1) δ=b3 o
 |0,_,_,h=>by cases h
 | n + 1,δ,o,h => by
  dsimp only[Z0]at h;show((t δ).bind λp=>if p.1=ba then(g p.2).bind (again (Z0 t g (n+1)))else b3 (.nx p.2))=b3 o;cases h1:t δ with
  |none=>rw[h1]at h;cases h
  |some p=>
   rw[h1]at h;obtain⟨kk,δ1⟩:=p;cases kk with
   |false=>exact h
   |true=>
    have h:(g δ1).bind (again (Z0 t g n))=b3 o:=h;show(g δ1).bind (again (Z0 t g (n+1)))=b3 o;cases h2:g δ1 with
    |none=>rw[h2]at h;cases h
    |some z=>
     rw[h2]at h;cases z with
     |nx δ2=>exact SH (n:=n) h
     |ct δ2=>exact SH (n:=n) h
     |bk δ2=>exact h
     |rt d δ2=>exact h
theorem QH{t:VB}{n:Nat}{o:Ou}(h:Z0 t g n δ=b3 o):∀k,Z0 t g (n+k) δ=b3 o
 |0=>h
 |k+1=>SH (QH h k)
def C7{t:VB}{n m:Nat}{o o':Ou}(h:Z0 t g n δ=b3 o)(h':Z0 t g m δ=b3 o'):o=o':=by have b:=QH h m;have a:=QH h' n;rw[Qu]at a;rw[b]at a;exact Cq a
open Classical in
noncomputable def T8(t:VB)(g:VS):VS:=λδ=>if h:∃o n,Z0 t g n δ=b3 o then b3 (Classical.choose h)else b4
def Q8{t:VB}{n:Nat}{o:Ou}(h:Z0 t g n δ=b3 o):T8 t g δ=b3 o:=by have a:∃o n,Z0 t g n δ=b3 o:=⟨o,n,h⟩;unfold T8;rw[dif_pos a];obtain⟨m,b⟩:=Mz a;rw[C7 b h]
def CT{t:VB}{o:Ou}(h:T8 t g δ=b3 o):∃n,Z0 t g n δ=b3 o:=by
 unfold T8 at h;split at h
 ·rename_i a
  cases h;exact Mz a
 ·cases h
def LL{body:List Vd}{t:VB}(j:Oz (Ut X.prog X.w) X.A X.env X.xe)(hc:PT X c (TB K ml pc t))(p:WP X body (WG K ml g)):PS X (.While c body [] pos) (WG K ml (T8 t g)):=(jS j hc p).imp λD σ H h=>by
 obtain⟨B,O,δ,o,S,q,k⟩:=h;obtain⟨n,l⟩:=CT q;refine⟨λm σ H=>∃O δ,aP K ml B O H σ δ/\Z0 t g m δ=b3 o,⟨n,O,δ,S,l⟩,?_⟩;rintro m σ H ⟨O,δ,S,b⟩;cases m with
 |zero=>cases b
 |succ m=>
  dsimp only[Z0]at b;obtain⟨⟨kk,δ1⟩,h1,b⟩:=Ac.mp b;refine⟨B,O,δ,kk,δ1,S,h1,λH1 i=>?_⟩;cases kk with
  |false=>
   have b:b3 (Ou.nx δ1)=b3 o:=b;cases b;exact NG (k σ H1 O i.sta)
  |true=>
   have b:(g δ1).bind (again (Z0 t g m))=b3 o:=b;obtain⟨z,h2,b⟩:=Ac.mp b;refine NH ⟨λa H'=>∃O δ,aP K ml B O H' a δ/\Z0 t g m δ=b3 o,λa H' w=>⟨m,Ra _,w⟩,B,O,δ1,z,i.sta,h2,?_⟩;cases z with
   |nx δ2=>exact λa H' f e=>⟨f,δ2,e,b⟩
   |ct δ2=>exact λa H' f e=>⟨f,δ2,e,b⟩
   |bk δ2=>cases b;exact λa H' f e=>k a H' f e
   |rt d δ2=>cases b;exact λv a H' f e r=>k v a H' f e r
def Walk(K:Ai)(J:It)(a:List (V×cH))(ds:List cH):Prop:=∀(N:Ur->Prop) (H:Hp),(∀p∈a,aT K N H N p.1 p.2)->
 (∀(i:Nat) (d:cH),ds[i]?=b3 d->J.go i H/\∀x H',J.yld i H x H'->aN H H'/\aT K N H' N x d)/\J.stop ds.length H
abbrev VI:=Ev->Option (List cH×Ev)
inductive TIVi(K:Ai)(ml:List Nat)(pu:Bool)(f:VI)(σ:St)(H:Hp)(R:It->Hp->Prop):Prop
 |mk (B:_) (O:_) (δ:_) (ds:_) (δ':_) (h0:aP K ml B O H σ δ) (h1:f δ=b3 (ds,δ')) (h2:∀J kps H',aP K ml {B with kp:=kps++B.kp} O H' σ δ'->Fr (OA O) H H'->(pu=ba->aN H H')->Walk K J kps ds->R J H'):TIVi K ml pu f σ H R
def JV(K:Ai)(ml:List Nat)(pu:Bool)(f:VI):TI:=λσ H R=>TIVi K ml pu f σ H R
def PI.imp{tg:Ux}{t u:TI}(h:PI X tg e t)(k:∀σ H R,u σ H R->t σ H R):PI X tg e u:=λaa s σ H R I w=>h aa s σ H R I (k σ H R w)
def PI.or{tg:Ux}{t u:TI}(h:PI X tg e t)(h':PI X tg e u):PI X tg e (λσ H R=>t σ H R∨u σ H R):=λaa s σ H R I z=>by
 rcases z with z|z
 ·exact h aa s σ H R I z
 ·exact h' aa s σ H R I z
def YG(f:VF):VI:=λδ=>(f δ).bind λp=>(XB p.1).map λds=>(ds,p.2)
def k4{a:Ur}{ds:List cH}:Walk K (Itl K a) [(.ref a,.lst ds)] ds:=by
 intro N H h;have r:=h _ (Aw.mpr rfl);have b:∀xs,XR K H a xs->bQ K N H xs ds->(∀(i:Nat) (d:cH),ds[i]?=b3 d->(Itl K a).go i H/\∀x H',(Itl K a).yld i H x H'->aN H H'/\aT K N H' N x d)/\(Itl K a).stop ds.length H:=λxs sq r=>by
  refine⟨λi d e=>?_,xs,sq,by rw[r.length];exact Ao _⟩;obtain⟨x,c,f⟩:=r.get e;refine⟨⟨xs,x,sq,c⟩,λy H' g=>?_⟩;obtain⟨k,j⟩:=g;subst k;have:=j xs sq
  rw[c]at this;cases this;exact⟨aN.refl _,f⟩
 cases r.onL with
 |lst q n r=>exact b _ (XR.of q) r
 |fzl q r=>exact b _ q.sq r
def lX{a:Ur}{ds:List cH}:Walk K (Itt K a) [(.ref a,.tup ds)] ds:=by
 intro N H h;have r:=h _ (Aw.mpr rfl);cases r.onT with
 |tup sq r=>
  refine⟨λi d e=>?_,_,sq,by rw[r.length];exact Ao _⟩;obtain⟨x,b,c⟩:=r.get e;refine⟨⟨_,x,sq,b⟩,λy H' f=>?_⟩;obtain⟨j,g⟩:=f;subst j;have:=g _ sq
  rw[b]at this;cases this;exact⟨aN.refl _,c⟩
def ZI{tg:Ux}(i:X.K=K)(h:PE X e (TV K ml pu ba ba f)):PI X tg e (JV K ml pu (YG f)):=((Xl (K:=K) i h).or (cL (K:=K) i h)).imp λσ H R c=>by
 obtain⟨B,O,δ,ds,δ',S,q,k⟩:=c;unfold YG at q;obtain⟨⟨x,δ1⟩,h1,q⟩:=Ac.mp q;cases x with
 |lst g=>
  cases q;refine .inl ⟨B,O,δ,_,δ1,S,h1,λv H1 b=>?_⟩;obtain⟨a,xs,rfl,sq,r⟩:=b.rep.seq rfl;refine⟨a,rfl,?_,k _ [(.ref a,.lst ds)] H1 (b.sta.keepV λp d=>by rw[Aw.mp d];exact b.rep) b.frm b.pur k4⟩;have r:=b.rep;cases r.onL with
  |lst q _ _=>exact⟨_,XR.of q⟩
  |fzl q _=>exact⟨_,q.sq⟩
 |tup g=>
  cases q;refine .inr ⟨B,O,δ,_,δ1,S,h1,λv H1 b=>?_⟩;obtain⟨a,xs,rfl,sq,r⟩:=b.rep.seq rfl;refine⟨a,rfl,?_,k _ [(.ref a,.tup ds)] H1 (b.sta.keepV λp d=>by rw[Aw.mp d];exact b.rep) b.frm b.pur lX⟩;have r:=b.rep;cases r.onT with
  |tup q _=>exact⟨_,q⟩
 |_=>cases q
def YR(lo:Int)(n:Nat):List cH:=(As n).map λk:Nat=>.int (lo+k)
noncomputable def iR1(f:VF):VI:=λδ=>(f δ).bind λp=>match p.1 with
 |.int j=>if -4611686018427387904<=j/\j<4611686018427387904 then b3 (YR 0 j.toNat,p.2)else b4
 |_=>b4
noncomputable def iR2(f g:VF):VI:=λδ=>(f δ).bind λp=>(g p.2).bind λq=>match p.1,q.1 with
 |.int i,.int j=>if(-4611686018427387904<=i/\i<4611686018427387904)/\ -4611686018427387904<=j/\j<4611686018427387904 then b3 (YR i (j-i).toNat,q.2)else b4
 |_,_=>b4
def jL{lo:Int}{n i:Nat}{d:cH}(h:(YR lo n)[i]?=b3 d):i<n/\d=.int (lo+i):=by
 unfold YR at h;rw[Bt]at h;obtain⟨k,h1,h⟩:=Aj.mp h;cases h;have:=Ah.mp h1
 obtain⟨hl,e⟩:=this;rw[Jg]at hl;rw[List.getElem_range]at e;subst e;exact⟨hl,rfl⟩
def E1{lo:Int}{n:Nat}:Walk K (Itr lo n) [] (YR lo n):=by intro N H _;refine⟨λi d e=>?_,by simp[Itr,YR]⟩;obtain⟨hl,rfl⟩:=jL e;refine⟨hl,λx H' a=>?_⟩;obtain⟨rfl,rfl⟩:=a;exact⟨aN.refl _,.int _⟩
def XD{tg:Ux}{p':Pos}(l:Gl X "range")(i:X.mg "range"=b4)(h:PE X a (TV K ml pa ta ia fa))(g:Uu [a] X.env=[(bb,eval a X.env)]:=by rfl)(d:SE X a []:=by rfl):
  PI X tg (.Call (.Name "range" p') [a] [] pos) (JV K ml pa (iR1 fa)):=(lw l i (a9 h ZP d) g).imp λσ H R e=>by
 obtain⟨B,O,δ,ds,δ',S,q,k⟩:=e;unfold iR1 at q;obtain⟨⟨x,δ1⟩,h1,q⟩:=Ac.mp q;cases x with
 |int j=>
  have q:(if -4611686018427387904<=j/\j<4611686018427387904 then b3 (YR 0 j.toNat,δ1)else b4)=b3 (ds,δ'):=q;split at q
  ·rename_i f
   cases q;have b:(2:Int) ^ 62=4611686018427387904:=by decide
   refine⟨B,O,δ,_,_,S,h1,λv H1 c=>⟨j,?_,by rw[b];exact f.1,by rw[b];exact f.2,k _ [] H1 (c.sta.keepV λ_ z=>nomatch z) c.frm c.pur E1⟩⟩;rw[c.rep.onI]
  ·cases q
 |_=>cases q
def NR{tg:Ux}{p':Pos}(t:Gl X "range")(s:X.mg "range"=b4)(h:PE X a (TV K ml pa ta ia fa))(h':PE X b (TV K ml pb tb ib fb))(r:Uu [a,b] X.env=[(bb,eval a X.env),(bb,eval b X.env)]:=by rfl)(f:Uu [b] X.env=[(bb,eval b X.env)]:=by rfl)(u:SE X a [b]:=by rfl)(l:SE X b []:=by rfl):
  PI X tg (.Call (.Name "range" p') [a,b] [] pos) (JV K ml (pa&&pb) (iR2 fa fb)):=(jw t s (a9 h (a9 h' ZP l) u) r f).imp λσ H R g=>by
 obtain⟨B,O,δ,ds,δ',S,q,k⟩:=g;unfold iR2 at q;obtain⟨⟨x,δ1⟩,h1,q⟩:=Ac.mp q;cases h2:fb δ1 with
 |none=>simp[h2]at q
 |some p2=>
  obtain⟨y,δ2⟩:=p2;simp only[Ap,h2]at q;cases x with
  |int i=>
   cases y with
   |int j=>
    have q:(if(-4611686018427387904<=i/\i<4611686018427387904)/\ -4611686018427387904<=j/\j<4611686018427387904 then b3 (YR i (j-i).toNat,δ2)else b4)=b3 (ds,δ'):=q;split at q
    ·rename_i c
     cases q;have e:(2:Int) ^ 62=4611686018427387904:=by decide
     refine⟨B,O,δ,_,_,S,h1,λv H1 d=>⟨B,O,δ1,_,_,d.sta,h2,λw H2 R2=>⟨i,j,?_,by rw[e];exact⟨c.1.1,c.1.2,c.2.1,c.2.2⟩,k _ [] H2 (R2.sta.keepV λ_ z=>nomatch z) (d.frm.trans R2.frm) (λz=>by obtain⟨n,m⟩:=(Af _ _).mp z;exact(d.pur n).trans (R2.pur m)) E1⟩⟩⟩
     have p:=d.rep;have o:=R2.rep;cases p.onI;cases o.onI;rfl
    ·cases q
   |_=>cases q
  |_=>cases q
noncomputable def V9(gg:VG)(s:VS):List cH->VS
 |[]=>λδ=>b3 (.nx δ)
 |d::r=>λδ=>(gg d δ).bind λδ1=>(s δ1).bind (again (V9 gg s r))
def MI(fi:VI)(gg:VG)(s:VS):VS:=λδ=>(fi δ).bind λp=>V9 gg s p.1 p.2
def SG{tg iter:Ux}{body:List Vd}{fi:VI}{gg:VG}(s:Oz (Ut X.prog X.w) X.A X.env X.xe)(hc:X.calm=ba)(hi:PI X tg iter (JV K ml pu fi))(L:PG X tg (BE K ml gg))(M:WP X body (WG K ml g))
  (I:∀x,Uz iter X.env x=pure x:=by intro _;rfl):PS X (.For tg iter body [] pos) (WG K ml (MI fi gg g)):=(cU s hc hi L M I).imp λD σ H n=>by
 obtain⟨B,O,δ,o,S,q,k⟩:=n;unfold MI at q;obtain⟨⟨ds,δ1⟩,h1,q⟩:=Ac.mp q;have q:V9 gg g ds δ1=b3 o:=q;refine⟨B,O,δ,ds,δ1,S,h1,λJ l H1 R _ _ y=>?_⟩;refine⟨λi m σ H=>m=ds.length-i/\i<=ds.length/\∃O δ,aP K ml {B with kp:=l++B.kp} O H σ δ/\V9 gg g (ds.drop i) δ=b3 o,⟨ds.length,rfl,Cn _,O,δ1,R,q⟩,?_⟩;rintro i m σ H ⟨rfl,hi,O,δ,S,b⟩;have w:=y (Nn B O) H λp s=>S.kep p (Bf _ s);by_cases f:i<ds.length
 ·obtain ⟨P,u⟩ := w.1 i ds[i] (by simp [f])
  rw[Dn f]at b;refine .inr ⟨P,λa H'=>∃O δ,aP K ml {B with kp:=l++B.kp} O H' a δ/\V9 gg g (ds.drop (i+1)) δ=b3 o,λa H' C=>⟨ds.length-(i+1),by lia,rfl,f,C⟩,λx H' G=>?_⟩;obtain⟨E,F⟩:=u x H' G;have b:((gg ds[i] δ).bind λδ1=>(g δ1).bind (again (V9 gg g (ds.drop (i+1)))))=b3 o:=b;obtain⟨δ2,h2,b⟩:=Ac.mp b;have b:(g δ2).bind (again (V9 gg g (ds.drop (i+1))))=b3 o:=b;refine⟨_,O,δ,ds[i],δ2,S.same E,F,h2,λt T Q _=>?_⟩;obtain⟨z,N,b⟩:=Ac.mp b;refine⟨_,T,δ2,z,Q,N,?_⟩;cases z with
  |nx c=>exact λa H' j h=>⟨j,c,h,b⟩
  |ct c=>exact λa H' j h=>⟨j,c,h,b⟩
  |bk c=>cases b;exact λa H' j h=>k a H' j h.unkeep
  |rt d c=>cases b;exact λv a H' j h r=>k v a H' j h.unkeep r
 ·have e : i = ds.length := by lia
  subst e;rw[Gh]at b;cases b;exact .inl ⟨w.2,k σ H O S.unkeep⟩
end
section
variable{X:Cx}{K:Ai}{ml:List Nat}{e a b c:Ux}{es:List Ux}{pa ta ia pb tb ib pc tc ic pu bt bi ps bs:Bool}{fa fb fc f:VF}{B B':Bs}{O:Nat->Option Ur}{H H1 H':Hp}{σ:St}{δ δ':Ev}{v:V}{d:cH}{p:Ur}{pos:Pos}{st:Vd}{rest:List Vd}{g g':VS}
def aP.call{P:Ur->Prop}(S:aP K ml B O H σ δ)(hl:δ'.length=δ.length)(h:∀i:Nat,(δ'[i]?=δ[i]? /\∀a,O i=b3 a->¬P a)∨∃a d',O i=b3 a/\δ'[i]?=b3 (Sl.ow d')/\NY K (Nn B O) H' a d')
  (f:Fr P H H') (j:∀a,P a->OA O a):aP K ml B O H' σ δ' where
 len:=by rw[hl,S.len]
 va:=λi d e=>by
  rcases h i with⟨g,_⟩|⟨a,d',_,g,_⟩
  ·rw[g]at e
   obtain⟨v,c,r⟩:=S.va i d e;exact⟨v,c,r.fr f (λa z=>.inr (j a z)) λa z=>.inr (j a z)⟩
  ·rw[g]at e
   cases e
 ow:=λi d e=>by
  rcases h i with⟨g,n⟩|⟨a,d',c,g,w⟩
  ·rw[g]at e
   obtain⟨a,c,k,w⟩:=S.ow i d e;exact⟨a,c,k,w.fr f (λa z=>.inr (j a z)) (n a c)⟩
  ·rw[g]at e
   cases e;obtain⟨l,q0⟩:=S.dom i a c;obtain⟨t,k,s,_⟩:=S.ow i l q0;rw[c]at k;cases k;exact⟨a,c,s,w⟩
 dom:=λi a e=>by
  rcases h i with⟨g,n⟩|⟨a,d',c,g,w⟩
  ·obtain⟨l,q0⟩:=S.dom i a e
   exact⟨l,g.trans q0⟩
  ·exact⟨d',g⟩
 inj:=S.inj
 old:=S.old
 zin:=λa h'=>by
  obtain⟨o,q⟩:=S.zin a h';exact⟨o,f a o q λz=>by obtain⟨i,e⟩:=j a z;exact absurd h' (S.old i a e).1⟩
 frm:=λb o q n=>by
  have h1:=S.frm b o q n;refine f b o h1 λz=>?_;obtain⟨i,e⟩:=j b z;rcases(S.old i b e).2 with w|w
  ·exact n w
  ·rw[q]at w;cases w
 par:=S.par
 pin:=λa h'=>by
  obtain⟨o,q⟩:=S.pin a h';by_cases z:P a
  ·obtain⟨i,e⟩:=j a z
   rcases h i with⟨_,n⟩|⟨t,d',c,g,w⟩
   ·exact absurd z (n a e)
   ·rw[e]at c
    cases c;obtain⟨o,q,_⟩:=w.soft;exact⟨o,q⟩
  ·exact⟨o,f a o q λy=>absurd y z⟩
 kep:=λp m=>(S.kep p m).fr f (λa z=>.inr (j a z)) λa z=>.inr (j a z)
abbrev aX:=List cH->Option (cH×List cH)
def JK(ml:List Nat)(vs:List V):Ur->Prop:=λa=>∃i∈ml,vs[i]?=b3 (.ref a)
def Zp(Z:Ur->Prop)(ml:List Nat)(vs:List V):Ur->Prop:=λa=>Z a∨JK ml vs a
structure Wz(K:Ai)(ml:List Nat)(Z:Ur->Prop)(H:Hp)(vs:List V)(ds:List cH):Prop where
 len:vs.length=ds.length
 mem:∀i∈ml,i<ds.length
 va:∀(i:Nat) (d:cH),i∉ml->ds[i]?=b3 d->∃v,vs[i]?=b3 v/\aT K (Zp Z ml vs) H (Zp Z ml vs) v d
 ow:∀(i:Nat) (d:cH),i∈ml->ds[i]?=b3 d->∃a,vs[i]?=b3 (.ref a)/\NY K (Zp Z ml vs) H a d/\¬Z a
 inj:∀(i j:Nat) (a:Ur),i∈ml->j∈ml->vs[i]?=b3 (.ref a)->vs[j]?=b3 (.ref a)->i=j
 zin:∀a,Z a->∃o,H a=b3 o
inductive spVi(K:Ai)(ml:List Nat)(n:Nat)(F:aX)(vs:List V)(H:Hp)(Q:VK):Prop
 |mk (Z:Ur->Prop) (ds:List cH) (r:cH) (os:List cH) (h0:ds.length=n) (h1:Wz K ml Z H vs ds) (h2:F ds=b3 (r,os)) (h3:∀v H',Fr (JK ml vs) H H'->(∀(k i:Nat) (a:Ur) (o:cH),ml[k]?=b3 i->vs[i]?=b3 (.ref a)->os[k]?=b3 o->NY K (Zp Z ml vs) H' a o)->aT K (Zp Z ml vs) H' (Zp Z ml vs) v r->Q v H'):spVi K ml n F vs H Q
def spV(K:Ai)(ml:List Nat)(n:Nat)(F:aX):Sp:=λvs H Q _=>spVi K ml n F vs H Q
def bF(ml:List Nat)(n:Nat)(ds:List cH):Ev:=ds.mapIdx (λi d=>if i∈ml then Sl.ow d else Sl.va d)++Az (n-ds.length) Sl.no
noncomputable def RZ(ml:List Nat)(δ:Ev):Option (List cH):=ml.mapM λ(i:Nat)=>match(δ[i]? :Option Sl)with
 |some (Sl.ow d)=>b3 d
 |_=>b4
def aC(n:Nat)(ml:List Nat)(g:VS):aX:=λds=>(g (bF ml n ds)).bind λo=>match o with
 |.rt d δ=>(RZ ml δ).map λos=>(d,os)
 |.nx δ=>(RZ ml δ).map λos=>(.non,os)
 |_=>b4
theorem D7:∀{ml:List Nat}{δ:Ev}{os:List cH},RZ ml δ=b3 os->∀(k i:Nat) (o:cH),ml[k]?=b3 i->os[k]?=b3 o->δ[i]?=b3 (.ow o)
 |[],_,_,h,k,i,o,a,b=>by simp at a
 | j :: ml,δ,os,h,k,i,o,a,b => by
  unfold RZ at h;rw[Ss]at h;split at h
  ·rename_i d e
   cases h2:(ml.mapM λ(i:Nat)=>match(δ[i]? :Option Sl)with
    |some (Sl.ow d)=>b3 d
    |_=>b4:Option (List cH))with
   |none=>rw[h2]at h;cases h
   |some c=>
    rw[h2]at h;cases h;cases k with
    |zero=>
     cases a;cases b;exact e
    |succ k=>exact D7 (ml:=ml) h2 k i o (by simpa using a) (by simpa using b)
  ·cases h
def IU{N:List Uv}{Z:Ur->Prop}{vs:List V}{ds:List cH}(A:Wz K ml Z H vs ds)(B:ds.length<=N.length):∃g:Nat->Option Ur,(∀i a,g i=b3 a↔i∈ml/\vs[i]?=b3 (.ref a))/\aP K ml ⟨Z,JK ml vs,H,g,[]⟩ g H (start N vs) (bF ml N.length ds):=by
 classical
 let g:Nat->Option Ur:=λi=>if i∈ml then(match vs[i]? with
  |some (.ref a)=>b3 a
  |_=>b4)else b4
 have c:∀i a,g i=b3 a↔i∈ml/\vs[i]?=b3 (.ref a):=λi a=>by
  show(if i∈ml then(match vs[i]? with
   |some (.ref a)=>b3 a
   |_=>b4)else b4)=b3 a↔_
  by_cases hi:i∈ml
  ·rw[if_pos hi]
   constructor
   ·intro h
    split at h
    ·rename_i b x
     cases h;exact⟨hi,x⟩
    ·cases h
   ·rintro ⟨_,h⟩
    rw[h]
  ·rw[if_neg hi]
   exact⟨(λh=>nomatch h),λh=>absurd h.1 hi⟩
 have m:∀a,Nn ⟨Z,JK ml vs,H,g,[]⟩ g a->Zp Z ml vs a:=λa h=>by
  rcases h with h|⟨i,h⟩
  ·exact .inl h
  ·exact .inr ⟨i,(c i a).mp h⟩
 have t:∀(i:Nat) (s:Sl),(bF ml N.length ds)[i]?=b3 s->(∃d,ds[i]?=b3 d/\s=if i∈ml then .ow d else .va d)∨s=.no:=λi s h=>by
  unfold bF at h;by_cases hi:i<ds.length
  ·rw [Ar (by simpa using hi),Nq]at h
   cases q:ds[i]? with
   |none=>rw[q]at h;cases h
   |some d=>rw[q]at h;cases h;exact .inl ⟨d,rfl,rfl⟩
  ·rw [Du (by simpa using hi),Dt]at h
   split at h
   ·cases h;exact .inr rfl
   ·cases h
 have k:∀(i:Nat) (v:V),vs[i]?=b3 v->(start N vs)[i]?=b3 (b3 v):=λi v h=>by unfold start;have hi:i<vs.length:=(Ah.mp h).1;rw[Ar (by simpa using hi),Bt,h];rfl
 refine⟨g,c,?_,λi d q=>?_,λi d q=>?_,λi a q=>?_,λi j a q1 q2=>?_,λi a q=>?_,A.zin,Fr.refl _ _,⟨λi a q=>((c i a).mp q).1,λi _=>rfl⟩,λa q=>?_,λp u=>nomatch u⟩
 ·unfold start bF
  have:=A.len
  simp;lia
 ·rcases t i _ q with⟨e,h1,h2⟩|h
  ·by_cases hi:i∈ml
   ·rw[if_pos hi]at h2;cases h2
   ·rw[if_neg hi]at h2
    cases h2;obtain⟨v,f,r⟩:=A.va i d hi h1;exact⟨v,k i v f,r.mono m m⟩
  ·cases h
 ·rcases t i _ q with⟨e,h1,h2⟩|h
  ·by_cases hi:i∈ml
   ·rw[if_pos hi]at h2
    cases h2;obtain⟨a,f,w,_⟩:=A.ow i d hi h1;exact⟨a,(c i a).mpr ⟨hi,f⟩,k i _ f,w.mono m⟩
   ·rw[if_neg hi]at h2;cases h2
  ·cases h
 ·obtain⟨hi,f⟩:=(c i a).mp q
  have hl:=A.mem i hi;refine⟨ds[i],?_⟩;unfold bF;rw[Ar (by simpa using hl),Nq];simp[hl,hi]
 ·exact A.inj i j a ((c i a).mp q1).1 ((c j a).mp q2).1 ((c i a).mp q1).2 ((c j a).mp q2).2
 ·obtain⟨hi,f⟩:=(c i a).mp q
  refine⟨λz=>?_,.inl ⟨i,hi,f⟩⟩;obtain⟨y,l,_,n⟩:=A.ow i (ds[i]'(A.mem i hi)) hi (by simp[A.mem i hi]);rw[f]at l;cases l;exact n z
 ·obtain⟨i,hi,f⟩:=q
  obtain⟨y,l,w,n⟩:=A.ow i (ds[i]'(A.mem i hi)) hi (by simp[A.mem i hi]);rw[f]at l;cases l;obtain⟨o,q,_⟩:=w.soft;exact⟨o,q⟩
def Za{N ps:List Uv}{vs:List V}{Q:VK}{E:XK}(u:ps.length<=N.length)(h:spV K ml ps.length (aC N.length ml g) vs H Q E):WG K ml g {nx:=λ_ H'=>Q .non H',rt:=Q} (start N vs) H:=by
 obtain⟨Z,ds,r,os,C,AV,c,k⟩:=h;obtain⟨q,n,J⟩:=IU (N:=N) AV (by rw[C];exact u);unfold aC at c;obtain⟨o,h1,c⟩:=Ac.mp c;refine⟨_,q,_,o,J,h1,?_⟩;have s:∀(δ':Ev) (v:V) (f:St) (H':Hp) (p:Nat->Option Ur),RZ ml δ'=b3 os->aP K ml ⟨Z,JK ml vs,H,q,[]⟩ p H' f δ'->aT K (rz ⟨Z,JK ml vs,H,q,[]⟩) H' (rz ⟨Z,JK ml vs,H,q,[]⟩) v r->Q v H':=λδ' v f H' p B l m=>by
  have hz:∀a,Zp Z ml vs a->rz ⟨Z,JK ml vs,H,q,[]⟩ a:=λa h=>by
   rcases h with h|⟨i,hi,e⟩
   ·exact .inl h
   ·exact .inr ⟨i,(n i a).mpr ⟨hi,e⟩⟩
  refine k v H' l.frm (λkk i a o A I G=>?_) (m.mono hz hz);have D:=D7 B kk i o A G;obtain⟨L,z,_,w⟩:=l.ow i o D;have hi:i∈ml:=Cw A;have:=(l.par.2 i hi).trans ((n i a).mpr ⟨hi,I⟩)
  rw[this]at z;cases z;refine w.mono λb x=>?_;rcases x with x|⟨j,y,F⟩
  ·exact .inl x
  ·exact .inr ⟨j,(l.par.2 j y).trans ((n j b).mpr ⟨y,F⟩)⟩
 cases o with
 |rt d δ'=>
  have c:(RZ ml δ').map (λos=>(d,os))=b3 (r,os):=c;cases h2:RZ ml δ' with
  |none=>rw[h2]at c;cases c
  |some t=>
   rw[h2]at c;cases c;exact λv f H' p l m=>s δ' v f H' p h2 l m
 |nx δ'=>
  have c:(RZ ml δ').map (λos=>(cH.non,os))=b3 (r,os):=c;cases h2:RZ ml δ' with
  |none=>rw[h2]at c;cases c
  |some t=>
   rw[h2]at c;cases c;exact λf H' p l=>s δ' .non f H' p h2 l .non
 |bk δ'=>cases c
 |ct δ'=>cases c
def QP.okV{P:Av}{w:Uy}{mg:Uv->Option Uq}{base:Vb}{x qual:Uv}{st:Vd}{f:Ur}{fd:Cj}{N ps:List Uv}{k:Nat}(F:QP K x qual st f fd)(S:Z7 N ps (b5 st))(b:ps.length<=N.length)(e:∀(a:Uq) (A:Bz) (outer:List Env) (s:Ae) (H:Hp) (E:XK),YU k (A.deeper (envOfC qual (b5 st) s.heap.objs.size f a))->WP (RJ CX0 P w K mg base N qual (b5 st) f a A outer s H E).nox (Z1 st) (WG K ml g)):W0 P w K mg base CX0 (k+1) f fd ps (spV K ml ps.length (aC N.length ml g)):=by refine F.ok S (λvs H Q E h=>?_) (λa A outer s H vs Q E c h=>⟨_,e a A outer s H E c,Za b h⟩);obtain⟨Z,ds,r,os,d,AV,_⟩:=h;rw[AV.len,d]
inductive AV where
 |d (d:cH)|o (j:Nat)
inductive UE(K:Ai)(N:Ur->Prop)(H:Hp)(σ:St):List V->List AV->Prop
 |nil:UE K N H σ [] []
 |d {v:V}{vs:List V}{d:cH}{as:List AV}:aT K N H N v d->UE K N H σ vs as->UE K N H σ (v::vs) (.d d::as)
 |o {v:V}{vs:List V}{j:Nat}{as:List AV}:σ[j]?=b3 (b3 v)->UE K N H σ vs as->UE K N H σ (v::vs) (.o j::as)
abbrev ML:=Ev->Option (List AV×Ev)
structure ResG(K:Ai)(ml:List Nat)(B:Bs)(O:Nat->Option Ur)(H:Hp)(σ:St)(pu:Bool)(H':Hp)(δ':Ev)(vs:List V)(as:List AV):Prop where
 sta:aP K ml B O H' σ δ'
 frm:Fr (OA O) H H'
 pur:pu=ba->aN H H'
 rep:UE K (Nn B O) H' σ vs as
inductive TAGi(K:Ai)(ml:List Nat)(pu:Bool)(f:ML)(σ:St)(H:Hp)(Q:List V->Hp->Prop):Prop
 |mk (B:_) (O:_) (δ:_) (as:_) (δ':_) (h0:aP K ml B O H σ δ) (h1:f δ=b3 (as,δ')) (h2:∀vs H',ResG K ml B O H σ pu H' δ' vs as->Q vs H'):TAGi K ml pu f σ H Q
def BD(K:Ai)(ml:List Nat)(pu:Bool)(f:ML):TA:=λσ H Q=>TAGi K ml pu f σ H Q
def bT:ML:=λδ=>b3 ([],δ)
noncomputable def aE(f:VF)(fs:ML):ML:=λδ=>(f δ).bind λp=>(fs p.2).map λq=>(.d p.1::q.1,q.2)
noncomputable def slot(δ:Ev)(j:Nat):Option cH:=match δ[j]? with
 |some (.va d)=>b3 d
 |some (.ow d)=>b3 d
 |_=>b4
def aO(j:Nat)(fs:ML):ML:=λδ=>(slot δ j).bind λ_=>(fs δ).map λq=>(.o j::q.1,q.2)
def b9:PA X [] (BD K ml ba bT):=ZP.imp λσ H Q a=>by obtain⟨B,O,δ,d,δ',S,q,k⟩:=a;cases q;exact k [] H ⟨S,Fr.refl _ _,λ_=>aN.refl _,.nil⟩
def cF{fs:ML}(i:PE X a (TV K ml pa ba ba fa))(h:PA X es (BD K ml ps fs))(g:SE X a es:=by rfl):PA X (a::es) (BD K ml (pa&&ps) (aE fa fs)):=(a9 i h g).imp λσ H Q c=>by obtain⟨B,O,δ,as,δ2,S,q,k⟩:=c;unfold aE at q;obtain⟨⟨x,δ1⟩,h1,q⟩:=Ac.mp q;have q:((fs δ1).map λq=>(AV.d x::q.1,q.2))=b3 (as,δ2):=q;obtain⟨p2,h2,q⟩:=Aj.mp q;cases q;refine⟨B,O,δ,x,δ1,S,h1,λj H1 b=>⟨B,O,δ1,_,_,b.sta,h2,λvs H2 R2=>k _ H2 ⟨R2.sta,b.frm.trans R2.frm,λz=>?_,.d (b.rep.fr R2.frm (λa z=>.inr z) λa z=>.inr z) R2.rep⟩⟩⟩;obtain⟨f,e⟩:=(Af _ _).mp z;exact(b.pur f).trans (R2.pur e)
def IS{j:Nat}{d:cH}(h:slot δ j=b3 d):δ[j]?=b3 (.va d)∨δ[j]?=b3 (.ow d):=by
 unfold slot at h;split at h
 ·cases h;exact .inl (by assumption)
 ·cases h;exact .inr (by assumption)
 ·cases h
def aP.slot(S:aP K ml B O H σ δ){j:Nat}{d:cH}(h:slot δ j=b3 d):∃v,σ[j]?=b3 (b3 v):=by
 rcases IS h with h|h
 ·obtain⟨v,e,_⟩:=S.va j d h
  exact⟨v,e⟩
 ·obtain⟨a,_,e,_⟩:=S.ow j d h
  exact⟨_,e⟩
def aJ{fs:ML}{j:Nat}(g:PE X a (VC j))(f:PA X es (BD K ml ps fs))(c:SE X a es:=by rfl):PA X (a::es) (BD K ml ps (aO j fs)):=(a9 g f c).imp λσ H Q b=>by obtain⟨B,O,δ,as,δ2,S,q,k⟩:=b;unfold aO at q;obtain⟨d,h1,q⟩:=Ac.mp q;have q:((fs δ).map λq=>(AV.o j::q.1,q.2))=b3 (as,δ2):=q;obtain⟨p2,h2,q⟩:=Aj.mp q;cases q;obtain⟨v,e⟩:=S.slot h1;exact⟨v,e,B,O,δ,_,_,S,h2,λvs H2 R2=>k _ H2 ⟨R2.sta,R2.frm,R2.pur,.o e R2.rep⟩⟩
theorem UE.length:∀{N:Ur->Prop}{vs:List V}{as:List AV},UE K N H σ vs as->vs.length=as.length
 |_,_,_,.nil=>rfl
 |_,_,_,.d _ t=>congrArg (· +1) (UE.length t)
 |_,_,_,.o _ t=>congrArg (· +1) (UE.length t)
theorem UE.getD:∀{N:Ur->Prop}{vs:List V}{as:List AV}{i:Nat}{d:cH},UE K N H σ vs as->as[i]?=b3 (.d d)->∃v,vs[i]?=b3 v/\aT K N H N v d
 |_,_,_,_,_,.nil,e=>by simp at e
 |_,_,_,0,_,.d h _,e=>by simp at e;subst e;exact⟨_,rfl,h⟩
 |_,_,_,0,_,.o h _,e=>by simp at e
 |_,_,_,i+1,_,.d _ t,e=>by obtain⟨u,h1,h2⟩:=UE.getD (i:=i) t (by simpa using e);exact⟨u,by simpa using h1,h2⟩
 |_,_,_,i+1,_,.o _ t,e=>by obtain⟨u,h1,h2⟩:=UE.getD (i:=i) t (by simpa using e);exact⟨u,by simpa using h1,h2⟩
theorem UE.getO:∀{N:Ur->Prop}{vs:List V}{as:List AV}{i j:Nat},UE K N H σ vs as->as[i]?=b3 (.o j)->∃v,vs[i]?=b3 v/\σ[j]?=b3 (b3 v)
 |_,_,_,_,_,.nil,e=>by simp at e
 |_,_,_,0,_,.d h _,e=>by simp at e
 |_,_,_,0,_,.o h _,e=>by simp at e;subst e;exact⟨_,rfl,h⟩
 |_,_,_,i+1,_,.d _ t,e=>by obtain⟨u,h1,h2⟩:=UE.getO (i:=i) t (by simpa using e);exact⟨u,by simpa using h1,h2⟩
 |_,_,_,i+1,_,.o _ t,e=>by obtain⟨u,h1,h2⟩:=UE.getO (i:=i) t (by simpa using e);exact⟨u,by simpa using h1,h2⟩
def argD(δ:Ev):AV->Option cH
 |.d d=>b3 d
 |.o j=>slot δ j
noncomputable def U2(δ:Ev):List AV->Option (List cH)
 |[]=>b3 []
 |a::as=>(argD δ a).bind λd=>(U2 δ as).map λds=>d::ds
theorem HC:∀{as:List AV}{ds:List cH},U2 δ as=b3 ds->as.length=ds.length/\∀(i:Nat) (d:cH),ds[i]?=b3 d->∃a,as[i]?=b3 a/\argD δ a=b3 d
 |[],ds,h=>by cases h;exact⟨rfl,λi d e=>by simp at e⟩
 | a :: as,ds,h => by
  unfold U2 at h;obtain⟨d,h1,h⟩:=Ac.mp h;cases h2:U2 δ as with
  |none=>simp[h2]at h
  |some k=>
   simp only[Ap,h2]at h;cases h;obtain⟨l,g⟩:=HC h2;refine⟨by simp[l],λi e c=>?_⟩;cases i with
   |zero=>cases c;exact⟨a,rfl,h1⟩
   |succ i=>
    obtain⟨b,j,f⟩:=g i e (by simpa using c);exact⟨b,by simpa using j,f⟩
noncomputable def SN:List AV->List Nat
 |[]=>[]
 |.d _::as=>SN as
 |.o j::as=>j::SN as
theorem NI:∀{as:List AV}{i j:Nat},as[i]?=b3 (.o j)->j∈SN as
 |[],_,_,e=>by simp at e
 |.d _::as,0,j,e=>by simp at e
 |.o k::as,0,j,e=>by simp at e;subst e;exact At
 |.d _::as,i+1,j,e=>NI (as:=as) (i:=i) (by simpa using e)
 |.o k::as,i+1,j,e=>Aq _ (NI (as:=as) (i:=i) (by simpa using e))
theorem Vo:∀{as:List AV}{j:Nat},j∈SN as->∃i:Nat,as[i]?=b3 (AV.o j)
 |[],_,h=>nomatch h
 |.d _::as,j,h=>by obtain⟨i,e⟩:=Vo (as:=as) h;exact⟨i+1,by simpa using e⟩
 | .o k :: as,j,h => by
  rcases Al.mp h with e|e
  ·exact⟨0,by rw[e];rfl⟩
  ·obtain⟨i,e⟩:=Vo (as:=as) e
   exact⟨i+1,by simpa using e⟩
theorem FY:∀{as:List AV}{i k j:Nat},(SN as).Nodup->as[i]?=b3 (.o j)->as[k]?=b3 (.o j)->i=k
 |[],_,_,_,_,e,_=>by simp at e
 |.d _::as,0,_,j,_,e,_=>by simp at e
 |.d _::as,_+1,0,j,_,_,e=>by simp at e
 |.d _::as,i+1,k+1,j,n,b,a=>congrArg (· +1) (FY (as:=as) n (by simpa using b) (by simpa using a))
 |.o x::as,0,0,j,_,_,_=>rfl
 |.o x::as,0,k+1,j,n,b,a=>by
  simp at b;subst b;have h:as[k]?=b3 (.o x):=by simpa using a
  exact absurd (NI h) (De.mp n).1
 |.o x::as,i+1,0,j,n,b,a=>by
  simp at a;subst a;have h:as[i]?=b3 (.o x):=by simpa using b
  exact absurd (NI h) (De.mp n).1
 |.o x::as,i+1,k+1,j,n,b,a=>congrArg (· +1) (FY (as:=as) (De.mp n).2 (by simpa using b) (by simpa using a))
noncomputable def Wb(δ:Ev)(as:List AV)(i:Nat):Bool:=match as[i]? with
 |some (.o j)=>match δ[j]? with
  |some (.ow _)=>ba
  |_=>bb
 |_=>bb
noncomputable def VJ(mF:List Nat):List AV->Nat->Bool
 |[],_=>ba
 |.d _::as,i=>VJ mF as (i+1)
 |.o _::as,i=>decide (i∈mF)&&VJ mF as (i+1)
theorem QX{mF:List Nat}:∀{as:List AV}{k i j:Nat},VJ mF as k=ba->as[i]?=b3 (.o j)->k+i∈mF
 |[],_,_,_,_,e=>by simp at e
 |.d _::as,k,0,j,h,e=>by simp at e
 |.o _::as,k,0,j,h,e=>by simp only[VJ,Af,decide_eq_true_eq]at h;exact h.1
 |.d _::as,k,i+1,j,h,e=>by
  have:=QX (as:=as) (k:=k+1) (i:=i) (j:=j) h (by simpa using e)
  rwa[show k+(i+1)=k+1+i by lia]
 |.o _::as,k,i+1,j,h,e=>by
  simp only[VJ,Af]at h;have:=QX (as:=as) (k:=k+1) (i:=i) (j:=j) h.2 (by simpa using e)
  rwa[show k+(i+1)=k+1+i by lia]
def RT:cH->Bool
 |.lst ds=>SV ds
 |.dct _ ds=>SV ds
 |.dcn _ ds=>SV ds
 |_=>bb
def NY.kids{N N':Ur->Prop}{a:Ur}(w:NY K N H a d)(h:RT d=ba):NY K N' H a d:=by
 cases w with
 |lst q r=>exact .lst q (r.hard h)
 |dct q r=>exact .dct q (r.hard h)
 |dcn q r=>exact .dcn q (r.hard h)
noncomputable def UR(as:List AV):List Nat->List cH->Ev->Ev
 |i::is,o::os,δ=>match as[i]? with
  |some (.o j)=>UR as is os (δ.set j (.ow o))
  |_=>UR as is os δ
 |_,_,δ=>δ
theorem OY{as:List AV}:∀{is:List Nat}{os:List cH}{δ:Ev},(UR as is os δ).length=δ.length
 |[],_,_=>rfl
 |_::_,[],_=>rfl
 |i::is,o::os,δ=>by
  unfold UR;split
  ·rw[OY,By]
  ·rw[OY]
theorem K8{as:List AV}:∀{is:List Nat}{os:List cH}{δ:Ev}(j:Nat),is.length=os.length->j<δ.length->(∃(k i:Nat) (o:cH),is[k]?=b3 i/\os[k]?=b3 o/\as[i]?=b3 (AV.o j)/\(UR as is os δ)[j]?=b3 (Sl.ow o))∨((∀i∈is,as[i]? ≠b3 (AV.o j))/\(UR as is os δ)[j]?=δ[j]?)
 |[],[],δ,j,_,_=>.inr ⟨(λi h=>nomatch h),rfl⟩
 | i :: is,o :: os,δ,j,hl,d => by
  unfold UR;split
  ·rename_i g l
   rcases K8 (is:=is) (os:=os) (δ:=δ.set g (.ow o)) j (by simpa using hl) (by rw[By];exact d)with⟨k,a,o',h1,h2,f,e⟩|⟨h1,h2⟩
   ·exact .inl ⟨k+1,a,o',by simpa using h1,by simpa using h2,f,e⟩
   ·by_cases b:j=g
    ·subst b
     rw[Cd d]at h2;exact .inl ⟨0,i,o,rfl,rfl,l,h2⟩
    ·rw[Ba (Dj b)]at h2
     refine .inr ⟨λa c=>?_,h2⟩;rcases Al.mp c with z|z
     ·rw[z,l]
      intro w;cases w;exact b rfl
     ·exact h1 a z
  ·rename_i m
   rcases K8 (is:=is) (os:=os) (δ:=δ) j (by simpa using hl) d with⟨k,a,o',h1,h2,f,e⟩|⟨h1,h2⟩
   ·exact .inl ⟨k+1,a,o',by simpa using h1,by simpa using h2,f,e⟩
   ·refine .inr ⟨λa c => ?_,h2⟩
    rcases Al.mp c with z|z
    ·rw[z]
     exact λw=>m j w
    ·exact h1 a z
def TL(mF:List Nat)(as:List AV)(δ:Ev):Bool:=mF.all (Wb δ as)&&decide (SN as).Nodup
def UY(mF:List Nat)(as:List AV)(r:cH)(os:List cH):Bool:=(VJ mF as 0 || r.hard)&&(VJ mF as 0 || os.all RT)&&decide (mF.length=os.length)
def bZ(n:Nat)(mF:List Nat)(F:aX)(fs:ML):VF:=λδ=>(fs δ).bind λp=>(U2 p.2 p.1).bind λds=>if ds.length=n/\TL mF p.1 p.2=ba then(F ds).bind λq=>if UY mF p.1 q.1 q.2=ba then b3 (q.1,UR p.1 mF q.2 p.2)else b4 else b4
def G2{n:Nat}{mF:List Nat}{F:aX}{fs:ML}{Q:VK}(h:TV K ml (ps && mF.isEmpty) ba ba (bZ n mF F fs) σ H Q):AU (spV K mF n F) [] E0 (BD K ml ps fs) σ H Q:=by
 obtain⟨B,O,δ,d,δ2,S,q,k⟩:=h;unfold bZ at q;obtain⟨⟨as,δ1⟩,h1,q⟩:=Ac.mp q;have q:((U2 δ1 as).bind λds=>if ds.length=n/\TL mF as δ1=ba then(F ds).bind λq=>if UY mF as q.1 q.2=ba then b3 (q.1,UR as mF q.2 δ1)else b4 else b4)=b3 (d,δ2):=q;obtain⟨ds,h2,q⟩:=Ac.mp q;have q:(if ds.length=n/\TL mF as δ1=ba then(F ds).bind λq=>if UY mF as q.1 q.2=ba then b3 (q.1,UR as mF q.2 δ1)else b4 else b4)=b3 (d,δ2):=q;split at q
 ·rename_i hc
  obtain⟨⟨r,os⟩,h3,q⟩:=Ac.mp q;have q:(if UY mF as r os=ba then b3 (r,UR as mF os δ1)else b4)=b3 (d,δ2):=q;split at q
  ·rename_i T
   cases q;obtain⟨hn,hc⟩:=hc;simp only[TL,Af,decide_eq_true_eq,Fc]at hc;simp only[UY,Af,decide_eq_true_eq]at T;obtain⟨Y,hnd⟩:=hc;obtain⟨⟨im,j5⟩,ag⟩:=T;refine⟨B,O,δ,as,δ1,S,h1,λvs H1 R=>?_⟩;show spV K mF n F (vs++[]) H1 Q E0;rw[Dk];obtain⟨U,V⟩:=HC h2;have G:∀i∈mF,∃j a x,as[i]?=b3 (.o j)/\δ1[j]?=b3 (.ow x)/\O j=b3 a/\vs[i]?=b3 (.ref a)/\NY K (Nn B O) H1 a x:=λi hi=>by
    have:=Y i hi
    unfold Wb at this;split at this
    ·rename_i j ej
     split at this
     ·rename_i x ex
      obtain⟨a,c,g,w⟩:=R.sta.ow j x ex;obtain⟨v,l,t⟩:=R.rep.getO ej;rw[g]at t;cases t;exact⟨j,a,x,ej,ex,c,l,w⟩
     ·cases this
    ·cases this
   have hP:∀a,JK mF vs a->∃i j,i∈mF/\as[i]?=b3 (.o j)/\O j=b3 a:=λa q0=>by obtain⟨i,hi,e⟩:=q0;obtain⟨j,a',x,c,_,g,l,_⟩:=G i hi;rw[e]at l;cases l;exact⟨i,j,hi,c,g⟩
   have L:∀a,JK mF vs a->OA O a:=λa h=>by obtain⟨i,j,_,_,e⟩:=hP a h;exact⟨j,e⟩
   have s:∀a,Zp (λa=>Nn B O a/\∀j∈SN as,O j≠b3 a) mF vs a->Nn B O a:=λa h=>by
    rcases h with h|h
    ·exact h.1
    ·exact .inr (L a h)
   refine⟨λa=>Nn B O a/\∀j∈SN as,O j≠b3 a,ds,_,os,hn,⟨by rw[<-U,R.rep.length],λi hi=>?_,λi x hi e=>?_,λi x hi e=>?_,λi j a hi W c g=>?_,λa h=>R.sta.nin h.1⟩,h3,λv H2 f2 w2 r2=>?_⟩
   ·obtain⟨j,a,x,c,_⟩:=G i hi
    rw[<-U];exact(Ah.mp c).1
   ·obtain⟨a,c,g⟩:=V i x e
    cases a with
    |d y=>
     cases g;obtain⟨v,l,r⟩:=R.rep.getD c;exact⟨v,l,r.mono s s⟩
    |o j=>
     obtain⟨v,l,t⟩:=R.rep.getO c;refine⟨v,l,?_⟩;rcases IS g with C|C
     ·obtain⟨v',A,r⟩:=R.sta.va j x C
      rw[t]at A;cases A;exact r.mono s s
     ·obtain⟨a,J,A,w⟩:=R.sta.ow j x C
      rw[t]at A;cases A;refine(w.mono s).rep λz=>?_;rcases z with z|z
      ·exact z.2 j (NI c) J
      ·obtain⟨P,m,f,I,M⟩:=hP a z
       have:j=m:=R.sta.inj j m a J M
       subst this;have:=FY hnd c I
       subst this;exact hi f
   ·obtain⟨a,c,g⟩:=V i x e
    obtain⟨j,b,y,l,t,C,A,w⟩:=G i hi;rw[l]at c;cases c;have J:slot δ1 j=b3 y:=by unfold slot;rw[t]
    have g:slot δ1 j=b3 x:=g;rw[J]at g;cases g;exact⟨b,A,w.mono s,λz=>z.2 j (NI l) C⟩
   ·obtain⟨j1,b1,_,l,_,t,C,_⟩:=G i hi
    obtain⟨j2,b2,_,A,_,J,I,_⟩:=G j W;rw[c]at C;cases C;rw[g]at I;cases I;have:j1=j2:=R.sta.inj j1 j2 a t J
    subst this;exact FY hnd l A
   ·have S2:aP K ml B O H2 σ (UR as mF os δ1):=by
     refine R.sta.call OY (λj=>?_) f2 L;by_cases W:j<δ1.length
     ·rcases K8 (as:=as) (is:=mF) (os:=os) (δ:=δ1) j ag W with⟨kk,i,o,c,g,l,t⟩|⟨c,g⟩
      ·obtain⟨m,a,x,C,_,A,J,_⟩:=G i (Cw c)
       rw[l]at C;cases C;have w:=w2 kk i a o c J g;refine .inr ⟨a,o,A,t,?_⟩;rcases(Io _ _).mp j5 with z|z
       ·refine w.mono λb T => ?_
        by_cases u:∃m∈SN as,O m=b3 b
        ·obtain⟨m,p,I⟩:=u
         obtain⟨P,M⟩:=Vo p;have f:=QX z M;rw[Jn]at f;obtain⟨X,a'',_,E,_,D,N,_⟩:=G P f;rw[M]at E;cases E;rw[I]at D;cases D;exact .inr ⟨P,f,N⟩
        ·exact .inl ⟨T,λm p e=>u ⟨m,p,e⟩⟩
       ·exact w.kids (Fc.mp z o (Cw g))
      ·refine .inl ⟨g,λa ea Z => ?_⟩
       obtain⟨i,m,hi,l,t⟩:=hP a Z;have:j=m:=R.sta.inj j m a ea t
       subst this;exact c i hi l
     ·refine .inl ⟨?_,λa ea => ?_⟩
      ·rw[Ct (by rw[OY];lia),Ct (by lia)]
      ·obtain⟨x,ex⟩:=R.sta.dom j a ea
       exact absurd (Ah.mp ex).1 W
    refine k v H2 ⟨S2,R.frm.trans (f2.mono L),λz=>?_,?_⟩
    ·obtain⟨z1,z2⟩:=(Af _ _).mp z
     refine(R.pur z1).trans λb o e=>f2 b o e λw=>?_;obtain⟨i,hi,_⟩:=w;rw[Rb.mp z2]at hi;cases hi
    ·rcases(Io _ _).mp im with z|z
     ·have hN : ∀ a,Nn B O a -> Zp (λa => Nn B O a /\ ∀ j ∈ SN as,O j ≠ b3 a) mF vs a := λb T => by
       by_cases u:∃m∈SN as,O m=b3 b
       ·obtain⟨m,p,I⟩:=u
        obtain⟨P,M⟩:=Vo p;have f:=QX z M;rw[Jn]at f;obtain⟨X,a'',_,E,_,D,N,_⟩:=G P f;rw[M]at E;cases E;rw[I]at D;cases D;exact .inr ⟨P,f,N⟩
       ·exact .inl ⟨T,λm p e=>u ⟨m,p,e⟩⟩
      exact r2.mono hN hN
     ·exact r2.hard z
  ·cases q
 ·cases q
def jm{x:Uv}{kk j n:Nat}{qs:List Uv}{mF:List Nat}{F:aX}{l:Ur}{p':Pos}{fs:ML}(k:X.K=K)(D:Def X.prog X.w K X.mg X.base x kk qs (spV K mF n F) l)(c:YU j X.A)(d:kk<=j)(f:Gl X x)(i:PA X (e::es) (BD K ml ps fs))(b:ND x:=by decide)(g:SE X e es:=by rfl)(a:(Dx pos (Uu es X.env)).any (·.1)=bb:=by rfl):PE X (.Call (.Name x p') (e::es) [] pos) (TV K ml (ps&&mF.isEmpty) ba ba (bZ n mF F fs)):=by subst k;exact(jZ D c d f i b g a).imp λ_ _ _ h=>G2 h
end
section
variable{X:Cx}{K:Ai}{ml:List Nat}{e a b c:Ux}{es:List Ux}{pi pt pe pu bt bi ps bs:Bool}{f:VF}{B B':Bs}{O:Nat->Option Ur}{H H0 H1 H':Hp}{σ:St}{δ δ':Ev}{v:V}{d:cH}{p:Ur}{pos:Pos}{ix:List Nat}{nl:Nat}
def aI(ix:List Nat)(δ:Ev):Ev:=ix.map λi=>(δ[i]?).getD .no
def IE(nl:Nat):Ev:=Az nl Sl.no
noncomputable def Y0(n nl:Nat)(gg:VG)(tb:VB)(fe:VF):List cH->List cH->Ev->Option (List cH×Ev)
 |[],acc,δ=>b3 (acc,δ)
 |d::r,acc,δ=>(gg d (δ++IE nl)).bind λδ1=>(tb δ1).bind λp=>if p.1=ba then(fe p.2).bind λq=>if acc.length<16777216 then Y0 n nl gg tb fe r (acc++[q.1]) (q.2.take n)else b4 else Y0 n nl gg tb fe r acc (p.2.take n)
noncomputable def ZO:List Nat->Ev->Ev->Ev
 |i::is,s::ss,δ=>match s with
  |.ow d=>ZO is ss (δ.set i (.ow d))
  |_=>ZO is ss δ
 |_,_,δ=>δ
def ZZ(ix:List Nat)(nl:Nat)(fi:VI)(gg:VG)(tb:VB)(fe:VF):VF:=λδ=>(fi δ).bind λp=>(Y0 ix.length nl gg tb fe p.1 [] (aI ix p.2)).map λq=>(.lst q.1,ZO ix q.2 p.2)
def X7:VB:=λδ=>b3 (ba,δ)
theorem M7:∀{ix:List Nat}{ss δ:Ev},(ZO ix ss δ).length=δ.length
 |[],_,_=>rfl
 |_::_,[],_=>rfl
 |i::is,s::ss,δ=>by
  cases s<;>simp only[ZO]<;>rw[M7]<;>try rw[By]
theorem QY:∀{ix:List Nat}{ss δ:Ev}(i:Nat),i<δ.length->ix.length=ss.length->(∃(j:Nat) (d:cH),ix[j]?=b3 i/\ss[j]?=b3 (Sl.ow d)/\(ZO ix ss δ)[i]?=b3 (Sl.ow d))∨((∀(j:Nat) (d:cH),ix[j]?=b3 i->ss[j]? ≠b3 (Sl.ow d))/\(ZO ix ss δ)[i]?=δ[i]?)
 |[],ss,δ,i,hi,hl=>.inr ⟨(λj d h=>by simp at h),rfl⟩
 |k::is,[],δ,i,hi,hl=>by cases hl
 | k :: is,s :: ss,δ,i,hi,hl => by
  have a:is.length=ss.length:=by simpa using hl
  cases s with
  |ow d=>
   simp only[ZO];rcases QY (ix:=is) (ss:=ss) (δ:=δ.set k (.ow d)) i (by rw[By];exact hi) a with⟨j,d',h1,h2,b⟩|⟨h1,h2⟩
   ·exact .inl ⟨j+1,d',by simpa using h1,by simpa using h2,b⟩
   ·by_cases c:i=k
    ·subst c
     rw[Cd hi]at h2;exact .inl ⟨0,d,rfl,rfl,h2⟩
    ·rw[Ba (Dj c)]at h2
     refine .inr ⟨λj d' e=>?_,h2⟩;cases j with
     |zero=>cases e;exact absurd rfl c
     |succ j=>simpa using h1 j d' (by simpa using e)
  |va d=>
   simp only[ZO];rcases QY (ix:=is) (ss:=ss) (δ:=δ) i hi a with⟨j,d',h1,h2,b⟩|⟨h1,h2⟩
   ·exact .inl ⟨j+1,d',by simpa using h1,by simpa using h2,b⟩
   ·refine .inr ⟨λj d' e => ?_,h2⟩
    cases j with
    |zero=>simp
    |succ j=>simpa using h1 j d' (by simpa using e)
  |no=>
   simp only[ZO];rcases QY (ix:=is) (ss:=ss) (δ:=δ) i hi a with⟨j,d',h1,h2,b⟩|⟨h1,h2⟩
   ·exact .inl ⟨j+1,d',by simpa using h1,by simpa using h2,b⟩
   ·refine .inr ⟨λj d' e => ?_,h2⟩
    cases j with
    |zero=>simp
    |succ j=>simpa using h1 j d' (by simpa using e)
def Oc(ix:List Nat)(O:Nat->Option Ur):Nat->Option Ur:=λj=>(ix[j]?).bind O
def Bc(ix:List Nat)(B:Bs)(O:Nat->Option Ur)(H0:Hp)(D:Ur)(kp:List (V×cH)):Bs:=
 ⟨λa=>(B.Z a∨a=D)∨∃i,O i=b3 a/\i∉ix,OA (Oc ix O),H0,Oc ix O,kp⟩
def K1{D:Ur}{kp:List (V×cH)}:∀a,Nn (Bc ix B O H0 D kp) (Oc ix O) a->Nn B O a∨a=D:=λa h=>by
 rcases h with((h|h)|⟨i,h,_⟩)|⟨j,h⟩
 ·exact .inl (.inl h)
 ·exact .inr h
 ·exact .inl (.inr ⟨i,h⟩)
 ·unfold Oc at h
  cases q:ix[j]? with
  |none=>rw[q]at h;cases h
  |some i=>rw[q]at h;exact .inl (.inr ⟨i,h⟩)
def B6{D:Ur}{kp:List (V×cH)}:∀a,Nn (B.add D) O a->Nn (Bc ix B O H0 D kp) (Oc ix O) a:=λa h=>by
 rcases h with h|⟨i,h⟩
 ·exact .inl (.inl h)
 ·by_cases hi:i∈ix
  ·obtain⟨j,b⟩:=Js.mp hi
   exact .inr ⟨j,by unfold Oc;rw[b];exact h⟩
  ·exact .inl (.inr ⟨i,h,hi⟩)
def aP.withKp{kp:List (V×cH)}(S:aP K ml B O H σ δ)(h:∀p∈kp,aT K (Nn B O) H (Nn B O) p.1 p.2):aP K ml {B with kp:=kp} O H σ δ:=
 ⟨S.len,S.va,S.ow,S.dom,S.inj,S.old,S.zin,S.frm,S.par,S.pin,h⟩
def aP.writeZ{D:Ur}{o:HO}{acc:List V}(S:aP K ml B O H σ δ)(k:B.Z D)(hl:H D=b3 (.lst acc))(m:B.H0 D=b4):aP K ml B O (upd H D o) σ δ:=by
 have j:Fr (λb=>b=D) H (upd H D o):=λb u q n=>by
  by_cases c:b=D
  ·subst c
   rw[hl]at q;cases q;exact absurd (n rfl) λz=>z
  ·rw[bL c]
   exact q
 have g:∀b,b=D->Nn B O b:=λb z=>.inl (z▸k);have f:∀b,(∃u,H b=b3 u)->∃u,upd H D o b=b3 u:=λb q0=>by
  obtain⟨u,q⟩:=q0;by_cases c:b=D
  ·exact⟨o,by rw[c];exact bU⟩
  ·exact⟨u,by rw[bL c];exact q⟩
 refine⟨S.len,λi d q=>?_,λi d q=>?_,S.dom,S.inj,S.old,λb h=>f b (S.zin b h),λb u q n=>?_,S.par,λb h=>f b (S.pin b h),λp l=>(S.kep p l).fr j g g⟩
 ·obtain⟨v,e,r⟩:=S.va i d q
  exact⟨v,e,r.fr j g g⟩
 ·obtain⟨a,e,s,w⟩:=S.ow i d q
  exact⟨a,e,s,w.fr j g λz=>(S.old i a e).1 (z▸k)⟩
 ·have c : b ≠ D := λz => by rw [z,m]at q;cases q
  rw[bL c];exact S.frm b u q n
def HJ{j:Nat}{s:Sl}(h:(aI ix δ++IE nl)[j]?=b3 s):(∃i,ix[j]?=b3 i/\s=(δ[i]?).getD .no)∨s=.no:=by
 unfold aI IE at h;by_cases a:j<ix.length
 ·rw [Ar (by simpa using a),Bt]at h
  cases q:ix[j]? with
  |none=>rw[q]at h;cases h
  |some i=>rw[q]at h;cases h;exact .inl ⟨i,rfl,rfl⟩
 ·rw [Du (by simpa using a),Dt]at h
  split at h
  ·cases h;exact .inr rfl
  ·cases h
def DH{i j:Nat}{v:V}(hi:ix[j]?=b3 i)(h:σ[i]?=b3 (b3 v)):(YV ix σ++Az nl b4)[j]?=b3 (b3 v):=by have a:j<ix.length:=(Ah.mp hi).1;unfold YV;rw[Ar (by simpa using a),Bt,hi];show b3 ((σ[i]?).join)=_;rw[h];rfl
def aP.inner{D:Ur}(S:aP K ml B O H0 σ δ)(b:H0 D=b4)(hnd:ix.Nodup){m:List (V×cH)}(u:∀p∈m,aT K (Nn B O) H0 (Nn B O) p.1 p.2):
  aP K (As ix.length) (Bc ix B O H0 D m) (Oc ix O) (upd H0 D (.lst [])) (YV ix σ++Az nl b4) (aI ix δ++IE nl) where
 len:=by simp[YV,aI,IE]
 va := λj d e => by
  rcases HJ e with⟨i,hi,q⟩|q
  ·have q:δ[i]? =b3 (.va d):=by
    cases w:δ[i]? with
    |none=>rw[w]at q;cases q
    |some s=>rw[w]at q;rw[show s=.va d from q.symm]
   obtain⟨v,c,r⟩:=S.va i d q;exact⟨v,DH hi c,(r.away b _ _ K1 K1).same (b7 b)⟩
  ·cases q
 ow := λj d e => by
  rcases HJ e with⟨i,hi,q⟩|q
  ·have q:δ[i]? =b3 (.ow d):=by
    cases w:δ[i]? with
    |none=>rw[w]at q;cases q
    |some s=>rw[w]at q;rw[show s=.ow d from q.symm]
   obtain⟨a,c,f,w⟩:=S.ow i d q;refine⟨a,by unfold Oc;rw[hi];exact c,DH hi f,?_⟩;cases w with
   |lst l r=>exact .lst (b7 b _ _ l) ((r.away b _ _ K1).same (b7 b))
   |dct l r=>exact .dct (b7 b _ _ l) ((r.away b _ _ K1).same (b7 b))
   |dcn l r=>exact .dcn (b7 b _ _ l) ((r.away b _ _ K1).same (b7 b))
  ·cases q
 dom:=λj a e=>by unfold Oc at e;obtain⟨i,hi,e⟩:=Ac.mp e;obtain⟨d,q⟩:=S.dom i a e;refine⟨d,?_⟩;have y:j<ix.length:=(Ah.mp hi).1;unfold aI;rw[Ar (by simpa using y),Bt,hi];show b3 ((δ[i]?).getD .no)=_;rw[q];rfl
 inj:=λj k a c f=>by
  unfold Oc at c f;cases hi:ix[j]? with
  |none=>rw[hi]at c;cases c
  |some i=>
   cases u:ix[k]? with
   |none=>rw[u]at f;cases f
   |some t=>
    rw[hi]at c;rw[u]at f;have:i=t:=S.inj i t a c f
    subst this;obtain⟨C,q1⟩:=Ah.mp hi;obtain⟨A,q2⟩:=Ah.mp u;exact(Jt hnd).mp (q1.trans q2.symm)
 old:=λj a e=>by
  have g:=e;unfold Oc at g;cases hi:ix[j]? with
  |none=>rw[hi]at g;cases g
  |some i=>
   rw[hi]at g;refine⟨λz=>?_,.inl ⟨j,e⟩⟩;rcases z with(z|z)|⟨t,z,n⟩
   ·exact(S.old i a g).1 z
   ·obtain⟨o,q⟩:=S.nin (.inr ⟨i,g⟩)
    rw[z,b]at q;cases q
   ·have:i=t:=S.inj i t a g z
    subst this;exact n (Cw hi)
 zin:=λa h=>by
  rcases h with(h|h)|⟨i,h,_⟩
  ·obtain⟨o,q⟩:=S.zin a h
   exact⟨o,b7 b _ _ q⟩
  ·exact⟨_,by rw[h];exact bU⟩
  ·obtain⟨o,q⟩:=S.nin (.inr ⟨i,h⟩)
   exact⟨o,b7 b _ _ q⟩
 frm:=(b7 b).fr
 par:=⟨λj a e=>by
  have e:(ix[j]?).bind O=b3 a:=e;cases hi:ix[j]? with
  |none=>rw[hi]at e;cases e
  |some i=>exact Dh.mpr (Ah.mp hi).1,λj _=>rfl⟩
 pin:=λa q0=>by obtain⟨j,e⟩:=q0;unfold Oc at e;obtain⟨i,hi,e⟩:=Ac.mp e;obtain⟨o,q⟩:=S.nin (.inr ⟨i,e⟩);exact⟨o,b7 b _ _ q⟩
 kep:=λp x=>((u p x).away b _ _ K1 K1).same (b7 b)
def aP.turn{l:Nat->Option Ur}{f:St}{n:Nat}{m:St}(S:aP K (As n) B l H f δ)(C:∀j,n<=j->B.mu j=b4)(x:m.length=n)(o:f.take n=m)(D:n<=δ.length):aP K (As n) B B.mu H (m++Az nl b4) (δ.take n++IE nl):=by
 have z:∀j,j<n->l j=B.mu j:=λj b=>S.par.2 j (Dh.mpr b);have c:∀j a,B.mu j=b3 a->l j=b3 a:=λj a e=>by rw[z j (Dh.mp (S.par.1 j a e))];exact e
 have g:∀a,Nn B B.mu a->Nn B l a:=λa h=>by
  rcases h with h|⟨j,h⟩
  ·exact .inl h
  ·exact .inr ⟨j,c j a h⟩
 have y:∀(j:Nat) (s:Sl),(δ.take n++IE nl)[j]?=b3 s->(j<n/\δ[j]?=b3 s)∨s=.no:=λj s h=>by
  have hl:(δ.take n).length=n:=by rw[Cf];lia
  by_cases b:j<n
  ·rw [Ar (by rw [hl];exact b),Dr b]at h
   exact .inl ⟨b,h⟩
  ·unfold IE at h
   rw[Du (by rw[hl];lia),Dt]at h;split at h
   ·cases h;exact .inr rfl
   ·cases h
 have u:∀(j:Nat) (v:V),j<n->f[j]?=b3 (b3 v)->(m++Az nl b4)[j]?=b3 (b3 v):=λj v b e=>by rw[Ar (by rw[x];exact b),<-o,Dr b];exact e
 refine⟨?_,λj d e=>?_,λj d e=>?_,λj a e=>?_,λj k a i t=>S.inj j k a (c j a i) (c k a t),λj a e=>S.old j a (c j a e),S.zin,S.frm,⟨S.par.1,λj _=>rfl⟩,S.pin,λp A=>(S.kep p A).mono g g⟩
 ·simp[x,IE,Cf]
  lia
 ·rcases y j _ e with⟨b,e⟩|e
  ·obtain⟨v,i,r⟩:=S.va j d e
   exact⟨v,u j v b i,r.mono g g⟩
  ·cases e
 ·rcases y j _ e with⟨b,e⟩|e
  ·obtain⟨a,i,t,w⟩:=S.ow j d e
   exact⟨a,(z j b)▸i,u j _ b t,w.mono g⟩
  ·cases e
 ·have b:=Dh.mp (S.par.1 j a e)
  obtain⟨d,q⟩:=S.dom j a (c j a e);refine⟨d,?_⟩;rw[Ar (by rw[Cf];lia),Dr b];exact q
def WQ(ix:List Nat)(σ:St):(YV ix σ).length=ix.length:=by simp[YV]
def IW{a:St}(hl:ix.length<=a.length)(h:∀i∈As ix.length,a[i]?=(YV ix σ++Az nl b4)[i]?):a.take ix.length=YV ix σ:=by
 refine Hd λj=>?_;by_cases b:j<ix.length
 ·rw[Dr b,h j (Dh.mpr b),Ar (by rw[WQ];exact b)]
 ·rw[Ct (by rw[Cf];lia),Ct (by rw[WQ];lia)]
def Yh{a:St}(m3:∀i∈As ix.length,a[i]?=(YV ix σ++Az nl b4)[i]?):ix.length<=a.length:=by
 by_cases hz:ix.length=0
 ·lia
 ·have b : ix.length-1 < ix.length := by lia
  have:=m3 (ix.length-1) (Dh.mpr b)
  have c:(YV ix σ++Az nl b4)[ix.length-1]? ≠b4:=by rw[Ar (by rw[WQ];exact b)];simp[YV,b]
  rw[<-this]at c;have d:ix.length-1<a.length:=Nat.lt_of_not_le λz=>c (List.getElem?_eq_none_iff.mpr z);lia
def gK(K:Ai)(J:It)(a:List (V×cH))(ds:List cH)(H0:Hp)(b:Bool):Prop:=∀(N:Ur->Prop) (H:Hp),(∀p∈a,aT K N H N p.1 p.2)->(b=ba->aN H0 H)->
 (∀(i:Nat) (d:cH),ds[i]?=b3 d->J.go i H/\∀x H',J.yld i H x H'->aN H H'/\aT K N H' N x d)/\J.stop ds.length H
inductive TIVq(K:Ai)(ml:List Nat)(pu b:Bool)(f:VI)(σ:St)(H:Hp)(R:It->Hp->Prop):Prop
 |mk (B:_) (O:_) (δ:_) (ds:_) (δ':_) (h0:aP K ml B O H σ δ) (h1:f δ=b3 (ds,δ')) (h2:∀J kps H',aP K ml {B with kp:=kps++B.kp} O H' σ δ'->Fr (OA O) H H'->(pu=ba->aN H H')->gK K J kps ds H' b->R J H'):TIVq K ml pu b f σ H R
def DJ{B:Bs}{O:Nat->Option Ur}{H H0 H1:Hp}{σ:St}{δ1 c:Ev}{f:List (V×cH)}{D:Ur}{acc:List V}{res:List cH}{pi pr:Bool}{r:St}(l:aP K ml {B with kp:=f++B.kp} O H0 σ δ1)(s:H0 D=b4)(N:Fr (OA O) H H0)(I:pi=ba->aN H H0)(q:aP K (As ix.length) (Bc ix B O H0 D (f++acc.zip res)) (Oc ix O) H1 r (c++IE nl))(S:acc.length=res.length)(g:c.length=ix.length)(k:H1 D=b3 (.lst acc))(R:pr=ba->aN H0 H1):ResN K ml B O H σ (pi&&pr) H1 (ZO ix c δ1) D (.lst res):=by
 have E:Fr (OA (Oc ix O)) H0 H1:=q.frm;have h:∀a,OA (Oc ix O) a->OA O a:=λa q0=>by
  obtain⟨j,e⟩:=q0;unfold Oc at e;cases hi:ix[j]? with
  |none=>rw[hi]at e;cases e
  |some i=>rw[hi]at e;exact⟨i,e⟩
 have SL:=l.unkeep.laid (o:=.lst acc) s;have M:Fr (OA (Oc ix O)) (upd H0 D (.lst acc)) H1:=λb o e n=>by
  by_cases A:b=D
  ·subst A
   rw[bU]at e;cases e;exact k
  ·rw[bL A]at e
   exact E b o e n
 refine⟨SL.call (M7) (λi=>?_) M h,N.trans (E.mono h),λz=>?_,.lst k (T6 S λp J=>(q.kep p (Be _ J)).mono B6 B6),l.unkeep.new s,l.fresh s⟩
 ·by_cases C:i<δ1.length
  ·rcases QY (ix:=ix) (ss:=c) (δ:=δ1) i C g.symm with⟨j,x,v,m,Q⟩|⟨v,m⟩
   ·have P:(c++IE nl)[j]? =b3 (.ow x):=by rw[Ar (Ah.mp m).1];exact m
    obtain⟨a,u,_,w⟩:=q.ow j x P;refine .inr ⟨a,x,?_,Q,w.mono B6⟩;unfold Oc at u;rw[v]at u;exact u
   ·refine .inl ⟨m,λa t ⟨j,d⟩ => ?_⟩
    obtain⟨x,ex⟩:=q.dom j a d;unfold Oc at d;cases hi:ix[j]? with
    |none=>rw[hi]at d;cases d
    |some y=>
     rw[hi]at d;have:i=y:=l.inj i y a t d
     subst this;have L:j<c.length:=by rw[g];exact(Ah.mp hi).1
     rw[Ar L]at ex;exact v j x hi ex
  ·refine .inl ⟨?_,λa t => ?_⟩
   ·rw[Ct (by rw[M7];lia),Ct (by lia)]
   ·obtain⟨x,ex⟩:=l.dom i a t
    exact absurd (Ah.mp ex).1 C
 ·obtain⟨G,F⟩:=(Af _ _).mp z
  exact(I G).trans (R F)
def ER{fi:VI}{gg:VG}{tb:VB}{fe:VF}(hnd:ix.Nodup){Q:VK}(h:TN K ml (pi&&pt&&pe) (ZZ ix nl fi gg tb fe) σ H Q):Wk ix nl (TIVq K ml pi (pt&&pe) fi) (BE K (As ix.length) gg) (TB K (As ix.length) pt tb) (TV K (As ix.length) pe ba ba fe) σ H Q:=by
 obtain⟨B,O,δ,d,δ2,S,q,k⟩:=h;unfold ZZ at q;obtain⟨⟨ds,δ1⟩,h1,q⟩:=Ac.mp q;have q:((Y0 ix.length nl gg tb fe ds [] (aI ix δ1)).map λq=>(cH.lst q.1,ZO ix q.2 δ1))=b3 (d,δ2):=q;obtain⟨⟨res,E⟩,h2,q⟩:=Aj.mp q;cases q;refine⟨B,O,δ,ds,δ1,S,h1,λJ f H0 T f0 p0 wk D C=>?_⟩;have hDO:∀j,Oc ix O j≠b3 D:=λj e=>by unfold Oc at e;obtain⟨i,hi,e⟩:=Ac.mp e;obtain⟨o,q⟩:=T.nin (.inr ⟨i,e⟩);rw[C]at q;cases q
 have df:∀kp j,ix.length<=j->(Bc ix B O H0 D kp).mu j=b4:=λkp j Y=>by show(ix[j]?).bind O=b4;rw[Ct Y];rfl
 refine⟨λi m H1=>m=ds.length-i/\i<=ds.length/\∃(acc:List V) (g:List cH) (c:Ev),c.length=ix.length/\acc.length=g.length∧
   aP K (As ix.length) (Bc ix B O H0 D (f++acc.zip g)) (Oc ix O) H1 (YV ix σ++Az nl b4) (c++IE nl)/\H1 D=b3 (.lst acc)/\((pt&&pe)=ba->aN H0 H1)∧
   Y0 ix.length nl gg tb fe (ds.drop i) g c=b3 (res,E),
  ds.length,⟨rfl,Cn _,[],[],aI ix δ1,by simp[aI],rfl,by rw[Qf,Dk];exact T.unkeep.inner C hnd λp A=>T.kep p (Bf _ A),bU,λ_=>b7 C,h2⟩,?_⟩
 rintro i m H1 ⟨rfl,hi,acc,g,c,X,N,S1,L,R,hc⟩;have w:=wk (Nn (Bc ix B O H0 D (f++acc.zip g)) (Oc ix O)) H1 (λp A=>S1.kep p (Bf _ A)) R;by_cases u:i<ds.length
 ·obtain ⟨go,yl⟩ := w.1 i ds[i] (by simp [u])
  rw[Dn u]at hc;simp only[Y0]at hc;obtain⟨F,g1,hc⟩:=Ac.mp hc;obtain⟨⟨kk,n⟩,g2,hc⟩:=Ac.mp hc;refine .inr ⟨go,λH'=>∃(Z:List V) (g:List cH) (c:Ev),c.length=ix.length/\Z.length=g.length∧
   aP K (As ix.length) (Bc ix B O H0 D (f++Z.zip g)) (Oc ix O) H' (YV ix σ++Az nl b4) (c++IE nl)/\H' D=b3 (.lst Z)/\((pt&&pe)=ba->aN H0 H')∧
   Y0 ix.length nl gg tb fe (ds.drop (i+1)) g c=b3 (res,E),λH' w'=>⟨ds.length-(i+1),by lia,rfl,u,w'⟩,λx H2 hy=>?_⟩
  obtain⟨P,rx⟩:=yl x H2 hy;refine⟨_,_,_,ds[i],F,S1.same P,rx,g1,λσ3 O3 S3 m3=>?_⟩;have t:=Yh m3;have l:=IW t m3;refine⟨l,_,_,F,kk,n,S3,g2,λH4 y=>?_⟩;have I:H4 D=b3 (.lst acc):=y.frm _ _ (P _ _ L) λz=>by
   obtain⟨j,e⟩:=z;have:=(y.sta.old j D e).1
   exact absurd (.inl (.inr rfl)) this
  have W:ix.length<=n.length:=by rw[<-y.sta.len];exact t
  cases kk with
  |false=>
   rw[if_neg Ch]at hc;refine NG ⟨acc,g,n.take ix.length,by rw[Cf];lia,N,y.sta.turn (df _) (WQ ix σ) l W,I,λz=>?_,hc⟩;exact((R z).trans P).trans (y.pur ((Af _ _).mp z).1)
  |true=>
   rw[if_pos rfl]at hc;obtain⟨⟨M,s⟩,g3,hc⟩:=Ac.mp hc;split at hc
   ·rename_i hz
    refine NH ⟨_,_,n,M,s,y.sta,g3,λv H5 r=>?_⟩;have G:H5 D=b3 (.lst acc):=r.frm _ _ I λz=>by
     obtain⟨j,e⟩:=z;have:=(r.sta.old j D e).1
     exact absurd (.inl (.inr rfl)) this
    have U:ix.length<=s.length:=by rw[<-r.sta.len];exact t
    have S6:=r.sta.turn (nl:=nl) (df _) (WQ ix σ) l U;have hv:aT K (Nn (Bc ix B O H0 D (f++acc.zip g)) (Oc ix O)) H5 (Nn (Bc ix B O H0 D (f++acc.zip g)) (Oc ix O)) v M:=by
     have hN:∀a,Nn (Bc ix B O H0 D (f++acc.zip g)) (Oc ix O) a->av (Bc ix B O H0 D (f++acc.zip g)) O3 ba a:=λa h=>by
      rcases h with h|⟨j,h⟩
      ·exact .inl h
      ·refine .inr ⟨j,?_⟩
       have Y:j∈As ix.length:=r.sta.par.1 j a h;rw[r.sta.par.2 j Y];exact h
     exact r.rep.mono hN hN
    have S7:=S6.withKp (kp:=f++(acc++[v]).zip (g++[M])) λp A=>by
     rw[Na N,<-Df]at A;rcases Db.mp A with z|z
     ·exact S6.kep p z
     ·rw[Aw.mp (show p∈[(v,M)] from z)]
      exact hv
    refine⟨acc,G,by rw[N,Bv];exact hz,l,acc++[v],g++[M],s.take ix.length,by rw[Cf];lia,by simp[N],?_,bU,λz=>?_,hc⟩
    ·exact S7.writeZ (.inl (.inr rfl)) G C
    ·intro b o e
     have hb:b≠D:=λz=>by rw[z,C]at e;cases e
     rw[bL hb];obtain⟨z1,z2⟩:=(Af _ _).mp z;exact(((R z).trans P).trans ((y.pur z1).trans (r.pur z2))) b o e
   ·cases hc
 ·have e : i = ds.length := by lia
  subst e;rw[Gh]at hc;cases hc;refine .inl ⟨w.2,k D H1 ?_⟩;rw[Bool.and_assoc];exact DJ T C f0 p0 S1 N X L R
def A1{fi:VI}{gg:VG}{tb:VB}{fe:VF}(hnd:ix.Nodup){Q:VK}(h:TN K ml (pi&&pt&&pe) (ZZ ix nl fi gg tb fe) σ H Q):Wk ix nl (JV K ml pi fi) (BE K (As ix.length) gg) (TB K (As ix.length) pt tb) (TV K (As ix.length) pe ba ba fe) σ H Q:=
 let ⟨B,O,δ,ds,δ',S,e,k⟩:=ER hnd h
 ⟨B,O,δ,ds,δ',S,e,λJ a H' b f p w=>k J a H' b f p λN H1 z _=>w N H1 z⟩
def lZ{Q:Bool->Hp->Prop}(h:TB K ml ba X7 σ H Q):GX σ H Q:=by obtain⟨B,O,δ,k,δ',S,q,w⟩:=h;cases q;exact w H (ResB.refl S)
def NQ{Y:Cx}{t:VB}(h:PT Y c (TB K ml pt t)):PTs Y [c] (TB K ml pt t):=fK h
def ZH{Y:Cx}:PTs Y [] (TB K ml ba X7):=λaa s σ H Q I hw=>L9 aa s σ H Q I (lZ hw)
def A3{Q:VK}{o:Bool}(h:TX K ml (if o then xO f else xV f) σ H Q):TN K ml pu f σ H Q:=by
 obtain⟨B,O,δ,s,δ',S,q,k⟩:=h;have e:∃d,f δ=b3 (d,δ')/\s=if o then .ow d else .va d:=by
  cases o with
  |true=>
   have q:(f δ).map (λp=>(Sl.ow p.1,p.2))=b3 (s,δ'):=q;cases h1:f δ with
   |none=>rw[h1]at q;cases q
   |some p=>rw[h1]at q;cases q;exact⟨p.1,rfl,rfl⟩
  |false=>
   have q:(f δ).map (λp=>(Sl.va p.1,p.2))=b3 (s,δ'):=q;cases h1:f δ with
   |none=>rw[h1]at q;cases q
   |some p=>rw[h1]at q;cases q;exact⟨p.1,rfl,rfl⟩
 obtain⟨d,h1,a⟩:=e;refine⟨B,O,δ,d,δ',S,h1,λp H' R=>?_⟩;cases o with
 |true=>
  cases a;have w:=R.own;cases w with
  |lst q1 r=>exact k _ H' _ (R.sta.keepV (WF r)) (.ol q1 r.length R.nz R.h0) R.frm
  |dct q1 r=>exact k _ H' _ (R.sta.keepV (WF r)) (.od q1 (by simpa using r.length) R.nz R.h0) R.frm
  |dcn q1 r=>exact k _ H' _ (R.sta.keepV (WF r)) (.on q1 (by simpa using r.length) R.nz R.h0) R.frm
 |false=>
  cases a;exact k _ H' _ (R.sta.unadd.keepV (ps:=[(.ref p,d)]) λz hz=>by rw[Aw.mp hz];exact(R.own.mono QC).rep R.nz) .va R.frm
def G1{i:Nat}{x:VX}{te:TE}(a:∀σ H Q,TX K ml x σ H Q->te σ H Q)(c:i∉ml){D:M0}(h:WG K ml (aL i x) D σ H):tAsg te (WH i) D σ H:=by
 obtain⟨B,O,δ,o,S,q,k⟩:=h;unfold aL at q;obtain⟨⟨s,δ1⟩,h1,q⟩:=Ac.mp q;have q:(if i<δ1.length then b3 (Ou.nx (δ1.set i s))else b4)=b3 o:=q;split at q
 ·rename_i hl
  cases q;refine a _ _ _ ⟨B,O,δ,s,δ1,S,h1,λv H' B' d h' f=>?_⟩;obtain⟨e,b⟩:=h'.bind d c hl;exact k _ _ _ b
 ·cases q
end
abbrev ZQ(P:Av)(w:Uy)(K:Ai)(mg:Uv->Option Uq)(base:Vb)(x:Uv)(k:Nat)(ps:List Uv)(mF:List Nat)(F:aX)(f:Ur):Prop:=Def P w K mg base x k ps (spV K mF ps.length F) f
section
variable{X:Cx}{K:Ai}{ml:List Nat}{e a b c:Ux}{es:List Ux}{pa ta ia pb tb ib pc tc ic pu bt bi ps bs:Bool}{fa fb fc f:VF}{B B':Bs}{O:Nat->Option Ur}{H H0 H1 H':Hp}{σ:St}{δ δ':Ev}{v:V}{d:cH}{p:Ur}{pos:Pos}
def bJ{x:Uv}(a:Gl X x)(h:∃u v,X.mg x=b3 u/\aV v u/\∀N H M,aT K N H M v d)(b:ND x:=by decide):PE X (.Name x pos) (TV K ml ba ba ba (fC d)):=by obtain⟨u,v,h1,h2,c⟩:=h;exact ve_c (kr a h1 h2 b) c
def Yt(K:Ai):R2:=λx y H Q=>∃a b xs ys,x=.ref a/\y=.ref b/\VE K H a xs/\VE K H b ys/\xs.length+ys.length<=sizeLine∧
 (xs=[]->Q (.ref b) H)/\(xs≠[]->ys=[]->Q (.ref a) H)/\(xs≠[]->ys≠[]->∀p,H p=b4->Q (.ref p) (upd H p (.tup (xs++ys))))
def mU:WM X (Fo .Add) (Yt X.K):=by
 intro aa s σ H x y v u Q I t r h;obtain⟨a,b,xs,ys,rfl,rfl,C,B,hz,q0,q1,q2⟩:=h;cases t;cases r;obtain⟨k,g,p1,_⟩:=I.tuple C;obtain⟨E,f,p2,_⟩:=I.tuple B;by_cases i:xs=[]
 ·subst i
  have D:k=[]:=g.nil_iff.mpr rfl;subst D;obtain⟨⟨cls,dd,data,sl⟩,m,hc,n,p⟩:=id p1;obtain⟨⟨F,l,data2,j⟩,c,e,A,d⟩:=id p2;simp only at hc p e d;subst hc p e d;exact Mv ⟨_,m,rfl⟩ ⟨_,c,rfl⟩ Mk Pc Iw Il (Hx _ _)
   (tuple_addW0 a b _ E.toArray n A dd l sl j (by simp)) ⟨m,c,⟨.ref b,H,I,rfl,q0 rfl⟩⟩
 ·refine HT.zJ5 p1 p2 (λz => i (g.nil_iff.mp z)) (λz => ⟨.ref a,H,I,rfl,q1 i (f.nil_iff.mp z)⟩) (λz => ?_) (by rw [<- g.length,<- f.length];exact hz)
  refine⟨.ref s.heap.objs.size,_,I.laid (t':=s.toks) (o:=.tup (xs++ys)) (λb ob q=>Ad _ q) (Ao _) ?_,rfl,q2 i (λw=>z (f.nil_iff.mpr w)) _ (I.hok.fresh (Ao _))⟩;exact⟨by rw[Cc];exact hz,_,g.append f,Kj _ _⟩
def Zm(K:Ai):R2:=λx y H Q=>∃l b xs zs,x=.ref l/\y=.ref b/\XR K H l xs/\XR K H b zs/\xs.length+zs.length<=sizeLine/\∀p,H p=b4->Q (.ref p) (upd H p (.lst (xs++zs)))
def eR:WM X (Fo .Add) (Zm X.K):=by
 intro aa s σ H x y v u Q I t p h;obtain⟨l,b,xs,zs,rfl,rfl,z,A,hz,q⟩:=h;cases t;cases p;obtain⟨a,r,p1,_⟩:=I.list z;obtain⟨j,k,p2,_⟩:=I.list A;obtain⟨⟨cls,dd,data,sl⟩,n,m,hc,_,o⟩:=id p1;obtain⟨⟨C,i,data2,f⟩,w,c,e,_,d⟩:=id p2;simp only at hc o e d;subst hc o e d;have B:a.toArray++j.toArray=(a++j).toArray:=by simp
 have hl:=r.length;have g:=k.length;refine Mv ⟨_,m,rfl⟩ ⟨_,c,rfl⟩ noFill_list_add seq_list_add PySem.F.slot_list_add PySem.F.entry_list_add (PySem.F.args_list_add_2 _ _) (list_addW l b a.toArray j.toArray n w dd i sl f (by rw[Am,Am,<-hl,<-g];exact hz)) ⟨m,c,?_⟩;rw[B];exact⟨.ref _,_,I.lnew (t':=s.toks) (r.append k) (by rw[Cc];lia),rfl,q _ I.fresh⟩
def Yr(K:Ai):R2:=λx y H Q=>((CM (λi j=>.int (i+j)) x y H Q∨Yt K x y H Q)∨Zm K x y H Q)∨∃i j,x=.str i/\y=.str j/\i.length+j.length<=sizeLine/\Q (.str (i++j)) H
def X0(h:X.K=K:=by rfl):WM X (Fo .Add) (Yr K):=by subst h;exact((zM3.or mU).or eR).or CB
noncomputable def Y7:cH->cH->Option cH
 |.int i,.int j=>b3 (.int (i+j))
 |.tup ds,.tup es=>if ds.length+es.length<=16777216 then b3 (.tup (ds++es))else b4
 |.lst ds,.lst es=>if ds.length+es.length<=16777216 then b3 (.lst (ds++es))else b4
 |.str x,.str y=>if x.length+y.length<=16777216 then b3 (.str (x++y))else b4
 |_,_=>b4
def aT.tupE{N M:Ur->Prop}{ds:List cH}(h:aT K N H M v (.tup ds)):∃a xs,v=.ref a/\VE K H a xs/\bQ K N H xs ds:=by
 cases h.onT with
 |tup q r=>exact⟨_,_,rfl,q,r⟩
def aT.lstE{N M:Ur->Prop}{ds:List cH}(h:aT K N H M v (.lst ds)):∃a xs,v=.ref a/\XR K H a xs/\bQ K N H xs ds:=by
 cases h.onL with
 |lst q n r=>exact⟨_,_,rfl,XR.of q,r⟩
 |fzl q r=>exact⟨_,_,rfl,q.sq,r⟩
def Y4:OpC K (Yr K) Y7:=by
 intro H N M M' x y d e c Q n m h k;cases d with
 |int i=>
  cases e with
  |int j=>
   cases h;cases n.onI;cases m.onI;exact .inl (.inl (.inl ⟨_,_,rfl,rfl,k _ _ (aN.refl _) λ_ _=>.int _⟩))
  |_=>cases h
 |str i=>
  cases e with
  |str j=>
   simp only[Y7]at h;split at h
   ·cases h
    cases n.onS;cases m.onS;exact .inr ⟨_,_,rfl,rfl,by rw[Bv];assumption,k _ _ (aN.refl _) λ_ _=>.str _⟩
   ·cases h
  |_=>cases h
 |tup ds=>
  cases e with
  |tup es=>
   simp only[Y7]at h;split at h
   ·rename_i hz
    cases h;obtain⟨a,xs,rfl,q1,g⟩:=n.tupE;obtain⟨b,ys,rfl,q2,f⟩:=m.tupE;refine .inl (.inl (.inr ⟨a,b,xs,ys,rfl,rfl,q1,q2,by rw[g.length,f.length,Bv];exact hz,λz=>?_,λt s=>?_,λt s p l=>?_⟩))
    ·subst z
     have:ds=[]:=Gf.mp g.length.symm
     subst this;exact k _ _ (aN.refl _) λM r=>.tup q2 f
    ·subst s
     have:es=[]:=Gf.mp f.length.symm
     subst this;rw[Dk]at k;exact k _ _ (aN.refl _) λM r=>.tup q1 g
    ·exact k _ _ (b7 l) λM r=>.tup (VE.of bU) ((g.append f).same (b7 l))
   ·cases h
  |_=>cases h
 |lst ds=>
  cases e with
  |lst es=>
   simp only[Y7]at h;split at h
   ·rename_i hz
    cases h;obtain⟨a,xs,rfl,q1,g⟩:=n.lstE;obtain⟨b,ys,rfl,q2,f⟩:=m.lstE;exact .inl (.inr ⟨a,b,xs,ys,rfl,rfl,q1,q2,by rw[g.length,f.length,Bv];exact hz,λp l=>k _ _ (b7 l) λM r=>.lst bU (λz=>by obtain⟨o,q⟩:=r _ z;rw[l]at q;cases q) ((g.append f).same (b7 l))⟩)
   ·cases h
  |_=>cases h
 |_=>cases h
def Zc:Ai->R2:=λ_=>rI CMul λi j=>.int (i*j)
def F0(h:X.K=K:=by rfl):WM X (Fo .Mult) (Zc K):=mW
abbrev K3:=oMul
def LS:OpC K (Zc K) K3:=by intro H N M M' x y d e c Q b a h k;exact mh H N N M M' x y d e c Q b a h λv f=>k v H (aN.refl _) λM _=>f _ _ _
noncomputable def UM:cH->Option Z5
 |.int i=>b3 (.inl i)
 |.str x=>b3 (.inr x)
 |_=>b4
def aT.key{N M:Ur->Prop}{k:Z5}(h:aT K N H M v d)(e:UM d=b3 k):v=kV k:=by
 cases h<;>first
  |(cases e;rfl)
  |cases e
noncomputable def aD(ks:List Z5)(ds:List cH)(k:Z5):Option cH:=match ks,ds with
 |k'::ks,d::ds=>if k'=k then b3 d else aD ks ds k
 |_,_=>b4
theorem OR{N:Ur->Prop}{k:Z5}:∀{kvs:List (Z5×V)}{ds:List cH},bQ K N H (kvs.map Cz) ds->(∃v d,UV kvs k=b3 v/\aD (kvs.map Bw) ds k=b3 d/\aT K N H N v d)∨(UV kvs k=b4/\aD (kvs.map Bw) ds k=b4)
 |[],_,.nil=>.inr ⟨rfl,rfl⟩
 | (k',v) :: kvs,_,.cons h t => by
  by_cases a:k'=k
  ·refine .inl ⟨v,_,UW (p:=(k',v)) a,?_,h⟩
   simp[aD,a]
  ·rcases OR (k:=k) t with⟨b,d',h1,h2,c⟩|⟨h1,h2⟩
   ·exact .inl ⟨b,d',(VQ (p:=(k',v)) a).trans h1,by simpa[aD,a]using h2,c⟩
   ·exact .inr ⟨(VQ (p:=(k',v)) a).trans h1,by simpa[aD,a]using h2⟩
def Wn(f:X.A.units+1<cLine):IxR X (λx y H Q=>∃a v,x=.ref a/\U9 H a y (b3 v)/\Q v H):=by intro value b aa s σ H x y v u Q I e d h i;obtain⟨a,w,rfl,g,q⟩:=h;cases e;exact Td (DL I g) PySem.F.slot_dict_getitem.lookup (iQ f I g d λk s3 j c=>⟨w,H,j,c,q⟩) i
def rIxA(K:Ai):R2:=λx y H Q=>(rIx K x y H Q∨∃a v,x=.ref a/\U9 H a y (b3 v)/\Q v H)∨∃a k D v,x=.ref a/\y=.str k/\KTab K a D/\Fu k D=b3 v/\Q v H
def kIxA(a:X.A.units+1<cLine)(h:X.K=K:=by rfl):IxR X (rIxA K):=by subst h;exact(zMO.or (Wn a)).or nE
def bG:cH->cH->Option cH
 |.tup ds,.int i=>SJ ds i
 |.lst ds,.int i=>SJ ds i
 |.dct ks ds,e=>(UM e).bind (aD ks ds)
 |.str z,.int i=>if z.length<=16777216 then(SJ z.cps.toList i).map λc=>.str ⟨#[c]⟩else b4
 |_,_=>b4
theorem M9{N:Ur->Prop}{k:Uv}:∀{D:List (Uv×V)}{ds:List cH},bQ K N H (D.map Cz) ds->(∃v d,Fu k D=b3 v/\aD (D.map λp=>.inr p.1) ds (.inr k)=b3 d/\aT K N H N v d)∨(Fu k D=b4/\aD (D.map λp=>.inr p.1) ds (.inr k)=b4)
 |[],_,.nil=>.inr ⟨rfl,rfl⟩
 | (k',v) :: D,_,.cons h t => by
  by_cases a:k'=k
  ·subst a
   exact .inl ⟨v,_,by simp[Fu],by simp[aD],h⟩
  ·have b : ¬ k = k' := λz => a z.symm
   rcases M9 (k:=k) t with⟨c,d',h1,h2,e⟩|⟨h1,h2⟩
   ·exact .inl ⟨c,d',by simpa[Fu,a,b]using h1,by simpa[aD,a]using h2,e⟩
   ·exact .inr ⟨by simpa[Fu,a,b]using h1,by simpa[aD,a]using h2⟩
theorem DZ{i:Int}:∀{D:List (Uv×V)}{ds:List cH},aD (D.map λp=>.inr p.1) ds (.inl i)=b4
 |[],_=>by simp[aD]
 |_::_,[]=>by simp[aD]
 |p::D,d::ds=>by simpa[aD]using DZ (D:=D) (ds:=ds)
def eW:OpI K (rIxA K) bG:=by
 intro H N N' M M' x y d e c Q g f h k;have seq:∀ds i,XB d=b3 ds->e=.int i->SJ ds i=b3 c->rIxA K x y H Q:=λds i h1 h2 b=>by
  subst h2;cases f.onI;obtain⟨a,xs,rfl,sq,r⟩:=g.seq h1;obtain⟨v,m,l⟩:=eN r b;rcases sq with sq|sq
  ·exact .inl (.inl (.inl ⟨a,xs,i,v,rfl,rfl,sq,m,k v l⟩))
  ·exact .inl (.inl (.inr (.inl ⟨a,xs,i,v,rfl,rfl,sq,m,k v l⟩)))
 cases d with
 |tup ds=>
  cases e with
  |int i=>exact seq ds i rfl rfl h
  |_=>cases h
 |lst ds=>
  cases e with
  |int i=>exact seq ds i rfl rfl h
  |_=>cases h
 |str z=>
  cases e with
  |int i=>
   simp only[bG]at h;split at h
   ·obtain⟨ch,hc,h⟩:=Aj.mp h
    cases h;cases g.onS;cases f.onI;exact .inl (.inl (.inr (.inr ⟨z,i,ch,rfl,rfl,by rw[Bv];assumption,hc,k _ (.str _)⟩)))
   ·cases h
  |_=>cases h
 |dct ks ds=>
  simp only[bG]at h;obtain⟨kk,o,h⟩:=Ac.mp h;have h:aD ks ds kk=b3 c:=h;have p:=f.key o;subst p;cases g.onD with
  |dct q n r j=>
   subst j;rcases OR (k:=kk) r with⟨v,d',h1,h2,b⟩|⟨h1,h2⟩
   ·rw[h]at h2
    cases h2;exact .inl (.inr ⟨_,v,rfl,h1▸U9.k q,k v b⟩)
   ·rw[h]at h2;cases h2
  |ktb T r j=>
   subst j;cases kk with
   |inl i=>rw[DZ]at h;cases h
   |inr x=>
    rcases M9 (k:=x) r with⟨v,d',h1,h2,b⟩|⟨h1,h2⟩
    ·rw[h]at h2
     cases h2;exact .inr ⟨_,x,_,v,rfl,rfl,T,h1,k v b⟩
    ·rw[h]at h2;cases h2
 |_=>cases h
noncomputable def WK(δ:Ev)(i:Nat):Option (List Z5×List cH):=match δ[i]? with
 |some (.ow (.dct ks ds))=>b3 (ks,ds)
 |_=>b4
def Q5{i:Nat}{ks:List Z5}{ds:List cH}(h:WK δ i=b3 (ks,ds)):δ[i]?=b3 (.ow (.dct ks ds)):=by
 unfold WK at h;split at h
 ·cases h;assumption
 ·cases h
def FO(i:Nat)(fk fx:VF):VF:=λδ=>(WK δ i).bind λ_=>(fk δ).bind λp=>(fx p.2).bind λq=>(UM p.1).bind λk=>(WK q.2 i).map λz=>((aD z.1 z.2 k).getD q.1,q.2)
def rk{i:Nat}{fk fx:VF}{aj af:Pos}(M:X.A.units+1<cLine)(h:PE X a (VC i))(N:PE X b (TV K ml pa ta ia fk))(L:PE X c (TV K ml pb ba ba fx))(m:M2 X a "get" aj b c af):
  PE X (.Call (.Attribute a "get" aj) [b,c] [] af) (TV K ml (pa&&pb) ba ba (FO i fk fx)):=(gQ M h N L m).imp λσ H Q g=>by
 obtain⟨B,O,δ,d,E,S,q,k⟩:=g;unfold FO at q;cases p:WK δ i with
 |none=>rw[p]at q;cases q
 |some J=>
  obtain⟨f,x⟩:=J;rw[p]at q;cases h1:fk δ with
  |none=>simp[h1]at q
  |some p1=>
   obtain⟨y,δ1⟩:=p1;simp only[Ap,h1]at q;cases h2:fx δ1 with
   |none=>simp[h2]at q
   |some p2=>
    obtain⟨z,δ2⟩:=p2;simp only[Ap,h2]at q;cases n:UM y with
    |none=>simp[n]at q
    |some kk=>
     simp only[Ap,n]at q;cases j:WK δ2 i with
     |none=>simp[j]at q
     |some F=>
      obtain⟨ks,ds⟩:=F;simp only[j]at q;cases q;obtain⟨l,U,T,w⟩:=S.ow i _ (Q5 p);refine⟨.ref l,T,l,rfl,?_,B,O,δ,y,δ1,S,h1,λY H1 e=>⟨B,O,δ1,z,_,e.sta,h2,λW H2 R2=>?_⟩⟩
      ·generalize hw:cH.dct f x=dd at w
       cases w with
       |lst _ _=>cases hw
       |dct q _=>exact .inl ⟨_,.inl q⟩
       |dcn _ _=>cases hw
      ·have R:=e.rep.key n
       subst R;obtain⟨Z,D,_,C⟩:=R2.sta.ow i _ (Q5 j);rw[U]at D;cases D;have u:∀o,aT K (Nn B O) H2 (Nn B O) (o:V) ((aD ks ds kk).getD z)->Q o H2:=λo h=>k o H2 ⟨R2.sta,e.frm.trans R2.frm,λz=>by obtain⟨I,G⟩:=(Af _ _).mp z;exact(e.pur I).trans (R2.pur G),h⟩
       generalize hw:cH.dct ks ds=dd at C;cases C with
       |lst _ _=>cases hw
       |dcn _ _=>cases hw
       |dct q r=>
        cases hw;refine⟨_,U9.k q,u _ ?_⟩;rcases OR (k:=kk) r with⟨v,d',t,s,P⟩|⟨t,s⟩
        ·rw[t,s];exact P
        ·rw[t,s];exact R2.rep
noncomputable def X2:List Z5->List cH->Z5->cH->List Z5×List cH
 |k'::ks,d::ds,k,v=>if k'=k then(k'::ks,v::ds)else let r:=X2 ks ds k v;(k'::r.1,d::r.2)
 |_,_,k,v=>([k],[v])
def EF(i:Nat)(fk fv:VF):VS:=λδ=>(fv δ).bind λp=>(WK p.2 i).bind λ_=>(fk p.2).bind λq=>(UM q.1).bind λk=>(WK q.2 i).bind λz=>if z.1.length<16777216/\z.1.Nodup then b3 (.nx (q.2.set i (.ow (let r:=X2 z.1 z.2 k p.1;.dct r.1 r.2))))else b4
theorem IK{N:Ur->Prop}{k:Z5}{v:V}(h:aT K N H N v d):∀{kvs:List (Z5×V)}{ds:List cH},(kvs.map Bw).Nodup->bQ K N H (kvs.map Cz) ds->(X8 kvs k v).map Bw=(X2 (kvs.map Bw) ds k d).1/\bQ K N H ((X8 kvs k v).map Cz) (X2 (kvs.map Bw) ds k d).2
 |[],_,_,.nil=>⟨rfl,.cons h .nil⟩
 | (k',u) :: kvs,_,b,.cons g t => by
  obtain⟨f,c⟩:=De.mp b;by_cases a:k'=k
  ·subst a
   have e:X8 ((k',u)::kvs) k' v=(k',v)::kvs:=by
    unfold X8;rw[if_pos (by simp)];simp only[Bg,if_true];congr 1;refine(Oi λp i=>?_).trans (List.map_id _);have:p.1≠k':=λz=>f (Cv.mpr ⟨p,i,z⟩)
    simp[this]
   rw[e];exact⟨by simp[X2],by simpa[X2]using bQ.cons h t⟩
  ·obtain⟨h1,h2⟩:=IK (k:=k) h c t
   have e:X8 ((k',u)::kvs) k v=(k',u)::X8 kvs k v:=by
    unfold X8;simp only[Hc,a,decide_false,Tf];split
    ·simp[a]
    ·rfl
   rw[e];exact⟨by simpa[X2,a]using h1,by simpa[X2,a]using bQ.cons g h2⟩
def GO{N:Ur->Prop}{l:Ur}{o:HO}{xs:List V}{ds:List cH}{kvs:List (Z5×V)}(d:H l=b3 (.dK kvs))(e:N l)(h:bQ K N H xs ds):bQ K N (upd H l o) xs ds:=
 h.fr (P:=λb=>b=l) (λb u q n=>by
  by_cases c:b=l
  ·subst c
   rw[d]at q;cases q;exact absurd (n rfl) λz=>z
  ·rw[bL c]
   exact q) λa z=>z▸e
def A6{i:Nat}{fk fv:VF}{bh:Pos}(F:X.A.units+1<cLine)(I:PE X a (VC i))(J:PE X b (TV K ml pa ta ia fk))(E:PE X c (TV K ml pb ba ba fv))(G:Vc c (b3 (.Subscript a b bh)) pos.line X.env=pure bb):
  PS X (.Assign [.Subscript a b bh] c pos) (WG K ml (EF i fk fv)):=(AB F I J E G).imp λD σ H e=>by
 obtain⟨B,O,δ,o,S,q,k⟩:=e;unfold EF at q;obtain⟨⟨z,δ1⟩,h1,q⟩:=Ac.mp q;have q:((WK δ1 i).bind λ_=>(fk δ1).bind λq=>(UM q.1).bind λk=>(WK q.2 i).bind λd=>if d.1.length<16777216/\d.1.Nodup then b3 (Ou.nx (q.2.set i (.ow (let r:=X2 d.1 d.2 k z;.dct r.1 r.2))))else b4)=b3 o:=q;cases h:WK δ1 i with
 |none=>rw[h]at q;cases q
 |some v=>
 obtain⟨C,Q⟩:=v;rw[h]at q;cases h2:fk δ1 with
 |none=>simp[h2]at q
 |some p2=>
  obtain⟨y,δ2⟩:=p2;simp only[Ap,h2]at q;cases g:UM y with
  |none=>simp[g]at q
  |some kk=>
   simp only[Ap,g]at q;cases f:WK δ2 i with
   |none=>simp[f]at q
   |some u=>
    obtain⟨ks,ds⟩:=u;simp only[f,Ap]at q;split at q
    ·rename_i hz
     cases q;refine⟨B,O,δ,z,δ1,S,h1,λp H1 m=>?_⟩;obtain⟨l,j,P,_⟩:=m.sta.ow i _ (Q5 h);refine⟨.ref l,P,B,O,δ1,y,δ2,m.sta,h2,λR H2 R2=>?_⟩;have N:=R2.rep.key g;subst N;obtain⟨T,t,_,n⟩:=R2.sta.ow i _ (Q5 f);rw[j]at t;cases t;generalize hw:cH.dct ks ds=dd at n;cases n with
     |lst _ _=>cases hw
     |dcn _ _=>cases hw
     |dct s r=>
      cases hw;have x:=m.rep.fr R2.frm (λa z=>.inr z) λa z=>.inr z;obtain⟨M,L⟩:=IK (k:=kk) x hz.2 r;refine⟨l,_,rfl,JG.k s (by rw[Bv];simpa using hz.1),k σ _ O (R2.sta.wrote j (λz=>z) ?_)⟩;have w:NY K (Nn B O) (upd H2 l (.dK (X8 _ kk p))) l (.dct ((X8 _ kk p).map Bw) _):=.dct bU (GO s (.inr ⟨i,j⟩) L);rw[M]at w;exact w
    ·cases q
end
section
variable{X:Cx}{K:Ai}{ml:List Nat}{e a b c:Ux}{es:List Ux}{pa ta ia pb tb ib pc tc ic pu bt bi ps bs:Bool}{fa fb fc f:VF}{B B':Bs}{O:Nat->Option Ur}{H H0 H1 H':Hp}{σ:St}{δ δ':Ev}{v:V}{d:cH}{p:Ur}{pos:Pos}
def gZ(i j k:Nat)(ta:TA):TS:=λD σ H=>ta σ H λvs H1=>∃v w u,vs=[v,w,u]/\D.nx (((σ.set i (b3 v)).set j (b3 w)).set k (b3 u)) H1
def lF{i j k:Nat}{x y z:Uv}{a b c:Ux}{ta:TA}{r py n pt:Pos}{kt k2 pt2}(hc:X.calm=ba)(G:X.N.Nodup)(hi:X.N[i]?=b3 x)(U:X.N[j]?=b3 y)(T:X.N[k]?=b3 z)(F:i≠j)(E:i≠k)(C:j≠k)(K:X.env.scope.names.lookup x=b3 .local)(J:X.env.scope.names.lookup y=b3 .local)(hz:X.env.scope.names.lookup z=b3 .local)(V:PA X [a,b,c] ta)(hw:Gd [.Tuple [.Name x r,.Name y py,.Name z n] kt pt] (.Tuple [a,b,c] k2 pt2) X.env=pure (b3 [x,y,z]))(S:Gc [.Tuple [.Name x r,.Name y py,.Name z n] kt pt] (.Tuple [a,b,c] k2 pt2) pos.line X.env=pure bb:=by rfl):PS X (.Assign [.Tuple [.Name x r,.Name y py,.Name z n] kt pt] (.Tuple [a,b,c] k2 pt2) pos) (gZ i j k ta):=by
 intro aa s σ H D I h;rw[exec_Assign_arm];refine Aa (Dz ?_);rw[S];refine Aa (Ag ?_);rw[if_neg (by decide)];refine Aa (Tuple_ (Y3 (V _ aa s σ H _ I h) λM s1 ⟨vs,H1,I1,Q,q1⟩=>?_));obtain⟨v,w,u,W,q1⟩:=q1;subst W;obtain⟨g,f,d,rfl,O,l,P⟩:∃g f d,M=[g,f,d]/\aV v g/\aV w f/\aV u d:=by
  cases Q with
  |cons p q=>
   cases q with
   |cons p' R=>
    cases R with
    |cons t m=>
     cases m;exact⟨_,_,_,rfl,p,p',t⟩
 refine Cb ?_ (by show 3<=sizeLine;decide);have I2:bS X aa σ H1 {s1 with heap:=s1.heap.push {cls:=.type "tuple",data:=.seq [g,f,d].toArray}}:=I1.kept (t':=s1.toks) λb o e=>Ad _ e;rw[hw];refine Aa (Ag ?_);show Us (Ut X.prog X.w) X.A (do rule "assign.swapped-stores";let items<-Ki (.ref s1.heap.objs.size) 3 b4;Vi [λv=>Jk X.env z v,λv=>Jk X.env y v,λv=>Jk X.env x v] items.reverse;pure Flow.next) _ _ _;refine Aa (Jb (Aa (Pz (items:= #[g,f,d]) (I.ok.hd hc) (Kj s1.heap _) λh' B=>?_)));have I3:=I2.kept (h':=h') (t':=s1.toks) λb o e=>B b o (Au (Ak e)) e;show Us _ _ (Vi [λv=>Jk X.env z v,λv=>Jk X.env y v,λv=>Jk X.env x v] [d,f,g]>>=λ_=>pure Flow.next) _ _ _;refine Aa (Ei (Jl (YH I3 G T (.inl hz) P (λs2 Z=>?_) (.inr hz))));refine Ei (Jl (YH Z G U (.inl J) l (λs3 Y=>?_) (.inr J)));refine Ei (Jl (YH Y G hi (.inl K) O (λs4 L=>Ja (Ag ?_)) (.inr K)));rw[Er _ _ (Dj F),Er _ _ (Dj E),Er _ _ (Dj C)]at L;exact⟨_,H1,L,q1⟩
noncomputable def LD(i j k:Nat)(x y z:VX):VS:=λδ=>(x δ).bind λp=>(y p.2).bind λq=>(z q.2).bind λr=>if i<r.2.length/\j<r.2.length/\k<r.2.length then b3 (.nx (((r.2.set k r.1).set j q.1).set i p.1))else b4
def IP{i j k:Nat}{x y z:VX}{o:Ou}(h:LD i j k x y z δ=b3 o):∃s1 δ1 s2 δ2 s3 a,x δ=b3 (s1,δ1)/\y δ1=b3 (s2,δ2)/\z δ2=b3 (s3,a)/\(i<a.length/\j<a.length/\k<a.length)/\o=.nx (((a.set k s3).set j s2).set i s1):=by
 unfold LD at h;cases h1:x δ with
 |none=>rw[h1]at h;cases h
 |some p=>
  rw[h1]at h;cases h2:y p.2 with
  |none=>simp[h2]at h
  |some q=>
   simp only[Ap,h2]at h;cases b:z q.2 with
   |none=>simp[b]at h
   |some r=>
    simp only[Ap,b]at h;split at h
    ·cases h
     exact⟨p.1,p.2,q.1,q.2,r.1,r.2,rfl,h2,b,by assumption,rfl⟩
    ·cases h
def gF{i j k:Nat}{x y z:Uv}{fx A w:VX}{l py h pt:Pos}{kt k2 pt2}(hc:X.calm=ba)(W:X.N.Nodup)(hi:X.N[i]?=b3 x)(R:X.N[j]?=b3 y)(Q:X.N[k]?=b3 z)(f:i≠j)(e:i≠k)(d:j≠k)(M:X.env.scope.names.lookup x=b3 .local)(L:X.env.scope.names.lookup y=b3 .local)(hz:X.env.scope.names.lookup z=b3 .local)(V:PE X a (TX K ml fx))(U:PE X b (TX K ml A))(u:PE X c (TX K ml w))(hw:Gd [.Tuple [.Name x l,.Name y py,.Name z h] kt pt] (.Tuple [a,b,c] k2 pt2) X.env=pure (b3 [x,y,z]))(r:i∉ml:=by decide)(p:j∉ml:=by decide)(n:k∉ml:=by decide)(P:Gc [.Tuple [.Name x l,.Name y py,.Name z h] kt pt] (.Tuple [a,b,c] k2 pt2) pos.line X.env=pure bb:=by rfl)(T:SE X a [b,c]:=by rfl)(t:SE X b [c]:=by rfl)(s:SE X c []:=by rfl):
  PS X (.Assign [.Tuple [.Name x l,.Name y py,.Name z h] kt pt] (.Tuple [a,b,c] k2 pt2) pos) (WG K ml (LD i j k fx A w)):=(lF hc W hi R Q f e d M L hz (a9 V (a9 U (a9 u ZP s) t) T) hw P).imp λD σ H m=>by
 obtain⟨B,O,δ,o,S,q,k⟩:=m;obtain⟨s1,δ1,s2,δ2,s3,g,h1,h2,Y,hl,rfl⟩:=IP q;refine⟨B,O,δ,s1,δ1,S,h1,λv H1 B1 S1 G f1=>⟨B1,O,δ1,s2,δ2,S1,h2,λJ H2 B2 S2 F f2=>⟨B2,O,δ2,s3,g,S2,Y,λI H3 B3 S3 E f3=>⟨v,J,I,rfl,?_⟩⟩⟩⟩;obtain⟨O4,S4⟩:=E.bind S3 n hl.2.2;obtain⟨O5,Z⟩:=(F.fr f3).bind S4 p (by rw[By];exact hl.2.1);obtain⟨O6,C⟩:=((G.fr f2).fr f3).bind Z r (by rw[By,By];exact hl.1);rw[Er _ _ (Dj f),Er _ _ (Dj e),Er _ _ (Dj d)]at C;exact k _ _ _ C
def iW{i j k:Nat}{x y z:Uv}{fx Q P:VX}{e py d pt:Pos}{kt k2 pt2}(hK:X.K=K)(hc:X.calm=ba)(C:X.N.Nodup)(hi:X.N[i]?=b3 x)(hj:X.N[j]?=b3 y)(hk:X.N[k]?=b3 z)(t:i≠j)(s:i≠k)(r:j≠k)(Z:Loc X.env.scope x)(Y:Loc X.env.scope y)(hz:Loc X.env.scope z)(ha:PE X a (TX K ml fx))(hb:PE X b (TX K ml Q))(A:PE X c (TX K ml P))(n:i∉ml:=by decide)(m:j∉ml:=by decide)(l:k∉ml:=by decide)(hs:Gc [.Tuple [.Name x e,.Name y py,.Name z d] kt pt] (.Tuple [a,b,c] k2 pt2) pos.line X.env=pure bb:=by rfl)(hw:Gd [.Tuple [.Name x e,.Name y py,.Name z d] kt pt] (.Tuple [a,b,c] k2 pt2) X.env=pure b4:=by rfl)(hn:(Va [.Name x e,.Name y py,.Name z d] X.env).length=3:=by rfl)(g:(Va [.Name x e,.Name y py,.Name z d] X.env).findIdx? (·.1)=b4:=by rfl)(g1:(Va [.Name x e,.Name y py,.Name z d] X.env).map (·.2)=Gg (.Name x e) X.env::(Va [.Name y py,.Name z d] X.env).map (·.2):=by rfl)(g2:(Va [.Name y py,.Name z d] X.env).map (·.2)=Gg (.Name y py) X.env::(Va [.Name z d] X.env).map (·.2):=by rfl)(g3:(Va [.Name z d] X.env).map (·.2)=Gg (.Name z d) X.env::(Va [] X.env).map (·.2):=by rfl)(G:LO X x:=by first|exact .inl rfl|exact .inr rfl|assumption)(F:LO X y:=by first|exact .inl rfl|exact .inr rfl|assumption)(E:LO X z:=by first|exact .inl rfl|exact .inr rfl|assumption)(h1:(Va [.Tuple [.Name x e,.Name y py,.Name z d] kt pt] X.env).map (·.2)=[Gg (.Tuple [.Name x e,.Name y py,.Name z d] kt pt) X.env]:=by rfl)(he:SE X a [b,c]:=by rfl)(w:SE X b [c]:=by rfl)(u:SE X c []:=by rfl):PS X (.Assign [.Tuple [.Name x e,.Name y py,.Name z d] kt pt] (.Tuple [a,b,c] k2 pt2) pos) (WG K ml (LD i j k fx Q P)):=
 (CJ (Yl (a9 ha (a9 hb (a9 A ZP u) w) he)) (Zl (K:=K) hK hc (UP (WD C hi Z G) (UP (WD C hj Y F) (UP (WD C hk hz E) GG g3) g2) g1) hn g) hs hw h1).imp λD σ H h=>by obtain⟨B,O,δ,o,S,q,k⟩:=h;obtain⟨s1,δ1,s2,δ2,s3,f,h1,h2,h3,hl,rfl⟩:=IP q;refine⟨B,O,δ,s1,δ1,S,h1,λv H1 B1 S1 W f1=>⟨B1,O,δ1,s2,δ2,S1,h2,λL H2 B2 S2 V f2=>⟨B2,O,δ2,s3,f,S2,h3,λJ T B3 S3 U f3=>⟨(by show 3<=sizeLine;decide),λp M=>⟨p,_,rfl,VE.of bU,rfl,v,_,rfl,L,_,rfl,J,_,rfl,rfl,?_⟩⟩⟩⟩⟩;have I:Fr (OA O) T (upd T p (.tup [v,L,J])):=(b7 M).fr;obtain⟨O4,S4⟩:=(U.fr I).bind (S3.same (b7 M)) l hl.2.2;obtain⟨O5,S5⟩:=((V.fr f3).fr I).bind S4 m (by rw[By];exact hl.2.1);obtain⟨O6,R⟩:=(((W.fr f2).fr f3).fr I).bind S5 n (by rw[By,By];exact hl.1);rw[Er _ _ (Dj t),Er _ _ (Dj s),Er _ _ (Dj r)]at R;exact k _ _ _ R
def rIsB(neg:Bool):R2:=λx y H Q=>∃k,y=.bl k/\Q (.bl (if neg then !decide (x=.bl k)else decide (x=.bl k))) H
def GD:WM X (Cr .IsNot) (rIsB ba):=by
 intro aa s σ H x y v u Q I a b h;obtain⟨k,rfl,q⟩:=h;cases b;have e:(v==Gw k)=decide (x=V.bl k):=by
  cases x<;>first
   |(cases a;first|rfl|(rename_i z;cases z<;>cases k<;>rfl))
   |(obtain⟨t,rfl⟩:=a;rfl)
 exact wpAny_isNot_plain (by cases x<;>first|(cases a;cases k<;>rfl)|(obtain⟨t,rfl⟩:=a;cases k<;>rfl)) (by rw[e];exact⟨.bl _,H,I,rfl,q⟩)
noncomputable def isBl(k:Bool):cH->Bool
 |.bl x=>x==k
 |_=>bb
def RW:cH->cH->Option cH
 |d,.bl k=>b3 (.bl (!isBl k d))
 |_,_=>b4
def jR{N M:Ur->Prop}{k:Bool}(h:aT K N H M v d):decide (v=V.bl k)=isBl k d:=by
 cases h<;>simp[isBl];rename_i b;cases b<;>cases k<;>rfl
def CU:NX K (rIsB ba) RW:=by
  intro H N N' M M' x y d e c Q b a h k;cases a<;>first
    | (cases h
       refine⟨_,rfl,?_⟩;simp only[if_true];rw[jR b];exact k _ λ_ _ _=>.bl _)
    |(simp[RW]at h)
end
section
variable{prog:Av}{w:Uy}{A:Bz}{E:Uq->Ae->Prop}{s:Ae}
def QM{it t:Ur}{i:Nat}{items:Array Uq}{x:Uq}{Q:Uq->Ae->Prop}(a:s.heap.IsTupleIter it t i)(e:s.heap.IsTuple t items)(d:items[i]?=b3 x)(f:∀h',h'.IsTupleIter it t (i+1)->Es it s.heap h'->Q x {s with heap:=h'}):Us (Ut prog w) A (Ca (.ref it)) Q E s:=by obtain⟨l,c,j,b⟩:=id a;obtain⟨k,g,_,m,h⟩:=e;unfold Ca;refine Aa (Cs (name:=Bj "__next__") a.typeIs Fn (Dm Fn a.typeIs Km ?_ (Jy _)));show Us _ _ (field (Ay it) 0>>=_) _ _ s;refine Aa (Ek c b (x:=.ref t) rfl ?_);show Us _ _ (if(Ay t== .none)=ba then _ else _) _ _ s;rw[if_neg (show¬(Ay t==Value.none)=ba from Ch)];show Us _ _ (field (Ay it) 1>>=_) _ _ s;refine Aa (Ek c b (x:=.int i 0) rfl ?_);show Us _ _ (seqItems? (Ay t)>>=_) _ _ s;refine Aa (Fh g h ?_);simp only[d,Ha];refine Aa (Lf c b (by simp) (Ag ⟨x,rfl,Ag (f _ ⟨_,Gq _ c (Nb (Ip b _)),(Qg ..).trans j,?_⟩ (Ht ..))⟩));rw[Ip b];simp[rawInt]
def OS{it t:Ur}{i:Nat}{items:Array Uq}{Q:Uq->Ae->Prop}(f:A.handled=b4)(b:s.heap.IsTupleIter it t i)(h:s.heap.IsTuple t items)(g:items[i]?=b4)(j:∀h' e,Jf it s.heap h'->(∃o,h'.get? e=b3 o/\o.cls=.type "StopIteration")->E (.ref e) {s with heap:=h'}):Us (Ut prog w) A (Ca (.ref it)) Q E s:=by
 obtain⟨p,c,r,d⟩:=id b;obtain⟨n,k,_,q,l⟩:=h;unfold Ca;refine Aa (Cs (name:=Bj "__next__") b.typeIs Fn (Dm Fn b.typeIs Km ?_ (Jy _)));show Us _ _ (field (Ay it) 0>>=_) _ _ s;refine Aa (Ek c d (x:=.ref t) rfl ?_);show Us _ _ (if(Ay t== .none)=ba then _ else _) _ _ s;rw[if_neg (show¬(Ay t==Value.none)=ba from Ch)];show Us _ _ (field (Ay it) 1>>=_) _ _ s;refine Aa (Ek c d (x:=.int i 0) rfl ?_);show Us _ _ (seqItems? (Ay t)>>=_) _ _ s;refine Aa (Fh k l ?_);simp only[g,Ha];refine Aa (Jb (Aa (Lf c d (by simp) ?_)));show Us _ _ (newExc (Gx "StopIteration") []>>=_) _ _ _;refine Aa ?_;unfold newExc newTuple;refine Aa (Cb ?_ (by size_fits));refine Aa (m:=Lg _ _) (Oj (a:=Value.none) (by first|rfl|(unfold Lg;rfl)) (Cb ?_ (by size_fits)));unfold raiseNew;refine Aa (wpAny_handled ?_);first|rw[f]|rw[show A.in1.handled=b4 from f]
 refine Aa (Ag (wpAny_throw (j _ _ (((Ht ..).extBut.push _).push _) ⟨_,An _ rfl,rfl⟩)))
end
def o7{prog:Av}{w:Uy}{A:Bz}(g:A.handled=b4)(it t:Ur)(d:t≠it)(items:Array Uq):
  Draws prog w A it [it,t] items.size (λi v=>items[i]?=b3 v) (λi h=>h.IsTupleIter it t i/\h.IsTuple t items) where
 live:=λ_ _ st=>let ⟨o,c,_⟩:=st.1;⟨o,c⟩
 frame:=λ_ _ _ st f=>⟨st.1.at λo e=>f it (by simp) o e,by obtain⟨o,c,r⟩:=st.2;exact⟨o,f t (by simp) o c,r⟩⟩
 item:=λi s Q E hi st j=>QM st.1 st.2 (x:=items[i]) (by simp[hi]) λh' a b=>j _ h' s.toks (by simp[hi]) ⟨a,st.2.extBut b.extBut d⟩ b
 done:=λs Q E st k=>OS g st.1 st.2 (by simp) k
section
variable{X:Cx}{aa:List (Ur×Ve)}{σ:St}{H:Hp}{s:Ae}{h':Vb}
def bS.turnedL{t':Nat}{fp:List Ur}(I:bS X aa σ H s)(k:∀b o,b∉fp->s.heap.get? b=b3 o->h'.get? b=b3 o)(there:∀b∈fp,∃o,h'.get? b=b3 o)(d:∀b∈fp,J1 X aa H b):bS X aa σ H {s with heap:=h',toks:=t'}:=by
 have a:∀b u,H b=b3 u->b∉fp:=λb u e z=>by rw[(d b z).1]at e;cases e
 have i:X.env.locals∉fp:=λz=>(d _ z).2.1 rfl;refine I.step (g':=s.gens) (d':=s.drawn) (ch:=fp) (λb h=>?_) (λb o _ _ hc e _=>k b o hc e) (λb o _ _ hc e _=>⟨o.slots,k b o hc e⟩) (λ_ _ _ _ n=>n)
  (λb o hc e=>⟨o,k b o hc e⟩) (λ_ _ e=>e) (λ_ _ _ e=>e) (λb ps e=>⟨#[],by rw[e];simp⟩) (λm g=>?_) (λb u e=>?_) I.bare
 ·obtain⟨_,f1,f2,f3,l,j⟩:=d b h
  exact⟨f3,f1,l,j⟩
 ·obtain⟨o,es,ep,f,r⟩:=g
  exact⟨o,es,ep,k _ o i f,r⟩
 ·refine (I.hok b u e).stay (λc v hc q => k c v ?_ q) (λ_ q => q) λ_ _ q => q
  rcases hc with z|z
  ·rw[z];exact a b u e
  ·exact a c _ z
end
section
variable{X:Cx}{aa:List (Ur×Ve)}{σ:St}{H:Hp}{s:Ae}{h':Vb}
def bS.turnedL'{t':Nat}{fp:List Ur}(I:bS X aa σ H s)(k:∀b o,b∉fp->s.heap.get? b=b3 o->h'.get? b=b3 o)(d:∀b∈fp,J1 X aa H b):bS X aa σ H {s with heap:=h',toks:=t'}:=by
 have a:∀b u,H b=b3 u->b∉fp:=λb u e z=>by rw[(d b z).1]at e;cases e
 have i:X.env.locals∉fp:=λz=>(d _ z).2.1 rfl;refine I.step (g':=s.gens) (d':=s.drawn) (ch:=fp) (λb h=>?_) (λb o _ _ hc e _=>k b o hc e) (λb o _ _ hc e _=>⟨o.slots,k b o hc e⟩) (λ_ _ _ _ n=>n)
  (λb o hc e=>⟨o,k b o hc e⟩) (λ_ _ e=>e) (λ_ _ _ e=>e) (λb ps e=>⟨#[],by rw[e];simp⟩) (λm g=>?_) (λb u e=>?_) I.bare
 ·obtain⟨_,f1,f2,f3,l,j⟩:=d b h
  exact⟨f3,f1,l,j⟩
 ·obtain⟨o,es,ep,f,r⟩:=g
  exact⟨o,es,ep,k _ o i f,r⟩
 ·refine (I.hok b u e).stay (λc v hc q => k c v ?_ q) (λ_ q => q) λ_ _ q => q
  rcases hc with z|z
  ·rw[z];exact a b u e
  ·exact a c _ z
end
def HB(K:Ai)(tup:Bool)(H:Hp)(a:Ur)(xs:List V):Prop:=if tup=ba then VE K H a xs else XR K H a xs
def N8(tup:Bool)(h:Vb)(a:Ur)(items:Array Uq):Prop:=if tup=ba then h.IsTuple a items else h.IsList a items
def SK(tup:Bool)(h:Vb)(it a:Ur)(i:Nat):Prop:=if tup=ba then h.IsTupleIter it a i else h.IsListIter it a i
def eA{prog:Av}{w:Uy}{A:Bz}(b:A.handled=b4)(tup:Bool)(it t:Ur)(a:t≠it)(items:Array Uq):Draws prog w A it [it,t] items.size (λi v=>items[i]?=b3 v) (λi h=>SK tup h it t i/\N8 tup h t items):=by
 cases tup with
 |true=>exact o7 b it t a items
 |false=>exact Draws.list b it t a items
def N8.lt{tup:Bool}{h:Vb}{a:Ur}{items:Array Uq}(s:N8 tup h a items):a<h.objs.size:=by
 cases tup with
 |true=>obtain⟨o,e,_⟩:=s;exact Ak e
 |false=>obtain⟨o,e,_⟩:=s;exact Ak e
def bS.srcA{X:Cx}{aa:List (Ur×Ve)}{σ:St}{H:Hp}{s:Ae}{a:Ur}{xs:List V}{tup:Bool}(I:bS X aa σ H s)(h:HB X.K tup H a xs):∃b:List Uq,aY xs b/\N8 tup s.heap a b.toArray/\xs.length<=sizeLine:=by
 cases tup with
 |true=>
  obtain⟨b,r,p,z⟩:=I.tuple h;exact⟨b,r,p,z⟩
 |false=>
  obtain⟨b,r,p,z⟩:=I.list h;exact⟨b,r,p.isList,z⟩
def bS.sq_inj{X:Cx}{aa:List (Ur×Ve)}{σ:St}{H:Hp}{s:Ae}{a:Ur}{xs ys:List V}{tup:Bool}(I:bS X aa σ H s)(h:HB X.K tup H a xs)(h':HB X.K tup H a ys):xs=ys:=by
 cases tup with
 |true=>exact I.tuple_inj h h'
 |false=>exact I.list_inj h h'
def SK.at{tup:Bool}{h h':Vb}{it a:Ur}{i:Nat}(st:SK tup h it a i)(k:∀o,h.get? it=b3 o->h'.get? it=b3 o):SK tup h' it a i:=by
 cases tup with
 |true=>exact Heap.IsTupleIter.at st k
 |false=>exact Heap.IsListIter.at st k
def SK.obj{tup:Bool}{h:Vb}{it a:Ur}{i:Nat}(st:SK tup h it a i):∃o,h.get? it=b3 o/\∀v,o.data≠ .cell v:=by
 cases tup with
 |true=>
  obtain⟨o,e,c,d⟩:=st;exact⟨o,e,λv z=>by rw[d]at z;cases z⟩
 |false=>
  obtain⟨o,e,c,d⟩:=st;exact⟨o,e,λv z=>by rw[d]at z;cases z⟩
def Ite(K:Ai)(tup:Bool)(a:Ur):It:=
 ⟨λi H=>∃xs x,HB K tup H a xs/\xs[i]?=b3 x,λi H v H'=>∃p x,(∀xs,HB K tup H a xs->xs[i]?=b3 x)/\H p=b4/\H'=upd H p (.tup [.int i,x])/\v=.ref p,λi H=>∃xs,HB K tup H a xs/\xs.length=i⟩
def nM{P:Av}{w:Uy}{K:Ai}{es:List Ux}{k:Nat}{pos:Pos}(tup:Bool)(a e it:Ur)(j:e≠it)(Q:a≠e)(D:a≠it):
  BF P w K (.Tuple es k pos) (Ite K tup a) [e,it] e (λi h=>(∃f,IsEnum h e it i f)/\SK tup h it a i) where
 mem:=by simp
 obj:=λi h st b c=>by
  obtain⟨⟨f,l⟩,hi⟩:=st;rcases Al.mp c with z|z
  ·subst z
   exact⟨_,l,λv z=>by cases z⟩
  ·have:=Aw.mp z
   subst this;exact hi.obj
 keep:=λi h h' st kk=>by obtain⟨⟨f,l⟩,hi⟩:=st;exact⟨⟨f,kk e (by simp) _ l⟩,hi.at λo q=>kk it (by simp) o q⟩
 item:=by
  intro X R hw S hc i aa s σ H E I y st O;subst R hw S;obtain⟨⟨f,l⟩,hi⟩:=st;obtain⟨xs,x,J,t⟩:=O;obtain⟨g,G,m,hz⟩:=I.srcA J;have M:i<g.toArray.size:=by
   have:=(Ah.mp t).1
   have:=G.length
   simp only[Am];lia
  have N:X.A.in1.handled=b4:=I.ok.hd hc;refine wpAny_pyNext_enum_itemD (eA N tup it a D g.toArray) l ⟨hi,m⟩ M j (by simp[j,Dj Q]) λu h1 tk n ho r Z hsz hk=>⟨_,rfl,?_⟩;refine wpAny_letOwnedTupleGo_enum (s:={s with heap:=h1,toks:=tk+1}) ho λh2 B d=>?_;have d:Es e h1 h2:=d;obtain⟨p,L,W⟩:=G.get t;have n:g.toArray[i]?=b3 u:=n;rw[List.getElem?_toArray,L]at n;have n:=Cq n;subst n;have kk:∀b o,b∉[e,it]->s.heap.get? b=b3 o->h2.get? b=b3 o:=λb o c q=>by have F:b≠e:=λz=>c (by simp[z]);have T:b≠it:=λz=>c (by simp[z]);exact(d.2 b F).trans (hk b o F T q)
  have c7:h2.get? s.heap.objs.size=b3 {cls:=.type "tuple",data:=.seq #[.int i tk,p]}:=(d.2 _ (Hu (Ak l))).trans Z;have bu:H s.heap.objs.size=b4:=I.hok.fresh (Ao _);have U:∀b∈[e,it],b<s.heap.objs.size:=λb c=>by
   rcases Al.mp c with z|z
   ·rw[z];exact Ak l
   ·rw[Aw.mp z]
    obtain⟨o,q,_⟩:=hi.obj;exact Ak q
  have I0:bS X aa σ (upd H s.heap.objs.size (.tup [.int i,x])) {s with heap:=s.heap.push {cls:=.type "tuple",data:=.seq #[.int i tk,p]},toks:=tk}:=
   I.laid (λb o q=>Ad _ q) (Ao _) ⟨by show 2<=sizeLine;decide,[.int i tk,p],.cons ⟨tk,rfl⟩ (.cons W .nil),Kj _ _⟩
  have I1:bS X aa σ (upd H s.heap.objs.size (.tup [.int i,x])) {s with heap:=h2,toks:=tk+1}:=by
   refine bS.turnedL (s:={s with heap:=s.heap.push {cls:=.type "tuple",data:=.seq #[.int i tk,p]},toks:=tk}) (h':=h2) (t':=tk+1) (fp:=[e,it]) I0 (λb o c q=>?_) (λb c=>?_) λb c=>⟨by rw[bL (Au (U b c))];exact(y b c).1,(y b c).2⟩
   ·by_cases C:b=s.heap.objs.size
    ·subst C
     have q:(s.heap.push {cls:=.type "tuple",data:=.seq #[.int i tk,p]}).get? s.heap.objs.size=b3 o:=q;rw[An _ rfl]at q;cases q;exact c7
    ·exact kk b o c ((Jh _ _ _ C).symm.trans q)
   ·rcases Al.mp c with z|z
    ·rw[z];exact⟨_,B⟩
    ·rw[Aw.mp z]
     obtain⟨o,q,_⟩:=r.1.obj;exact⟨o,(d.2 it (Dj j)).trans q⟩
  refine⟨.ref s.heap.objs.size,upd H s.heap.objs.size (.tup [.int i,x]),?_,rfl,⟨_,x,λys Y=>by rw[I.sq_inj Y J];exact t,bu,rfl,rfl⟩,⟨⟨_,by simpa using B⟩,r.1.at λo q=>(d.2 it (Dj j)).trans q⟩,λb c=>?_⟩
  ·exact I1
  ·rw[bL (Au (U b c))]
   exact(y b c).1
 done:=by
  intro X R hw S hc i aa s σ H E I y st O;subst R hw S;obtain⟨⟨f,l⟩,hi⟩:=st;obtain⟨xs,J,t⟩:=O;obtain⟨g,G,m,hz⟩:=I.srcA J;have N:X.A.in1.handled=b4:=I.ok.hd hc;have hn:g.toArray.size=i:=by rw[Am,<-G.length];exact t
  refine wpAny_pyNext_enum_endD (eA N tup it a D g.toArray) l ⟨by rw[hn];exact hi,m⟩ λh1 V=>⟨rfl,?_⟩;obtain⟨f0,f1,f2,f3,f4,f5⟩:=y it (by simp);exact I.turned (t':=s.toks) (λb o c q=>V b o c q) f0 f1 f3 f4 f5
 self:=λ_ i _ _ _ st h=>Qh st.1.choose_spec h
def jX(a:Ur)(items:Array Uq)(n:Nat)(dd:Option Ur)(sl:Array (Option Uq)):Meets (Fa.«enumerate.__new__» ⟨[.type "enumerate",.ref a],[]⟩) (λ_ R s=>s.heap.get? a=b3 {cls:=.type "tuple",dict:=dd,data:=.seq items n,slots:=sl}∧R (.ok (.ret (.ref (s.heap.push {cls:=.type "tuple_iterator",data:=.fields #[.ref a,.int 0 0]}).objs.size))) {s with heap:=(s.heap.push {cls:=.type "tuple_iterator",data:=.fields #[.ref a,.int 0 0]}).push {cls:=.type "enumerate",data:=.fields #[.none,.bool bb,.ref s.heap.objs.size,rawInt 0,.none,.none]}}):=by
 refine .of_wp λprog w A R s h=>?_;obtain⟨f,g,d,tk,os⟩:=s;obtain⟨b,h⟩:=h;have i:=sub_enumerate;have e:Heap.IsTuple (Sd ⟨f,g,d,tk,os⟩) a items:=⟨_,b,rfl,n,rfl⟩;wp_walk using Dg b
 refine wpAny_stack_any λst=>Ag ?_;split
 ·rename_i c _ _ _ _ _
  cases (c==Gx "enumerate")<;>(wp_walk using Dg b,Ig e;exact⟨_,rfl,h⟩)
 ·wp_walk using Dg b,Ig e
  exact⟨_,rfl,h⟩
def BK{prog:Av}{w:Uy}{A:Bz}{E:Uq->Ae->Prop}{s:Ae}{a:Ur}{items:Array Uq}{tup:Bool}{Q:Uq->Ae->Prop}(e:N8 tup s.heap a items)(h:∀h',IsEnum h' (s.heap.objs.size+1) s.heap.objs.size 0 .none->SK tup h' s.heap.objs.size a 0->(∀b o,s.heap.get? b=b3 o->h'.get? b=b3 o)->Q (.ref (s.heap.objs.size+1)) {s with heap:=h'}):Us (Ut prog w) A (call (.type "enumerate") [.ref a]) Q E s:=by
 cases tup with
 |false=>exact call_enumerate_list e λh' k j _ a4=>h h' k j a4
 |true=>
  obtain⟨⟨i,dd,g,sl⟩,f,hc,n,d⟩:=e;replace hc:i=.type "tuple":=hc
  replace d:g=.seq items n:=d
  subst hc d;have hz:(s.heap.push {cls:=.type "tuple_iterator",data:=.fields #[.ref a,.int 0 0]}).objs.size=s.heap.objs.size+1:=Dq ..;refine callType_new F.called_enumerate (by decide) (F.typeCall_enumerate_1 _) (F.newCall_enumerate_1 _) (λobj=>F.args_object_init_2 obj _) F.entry_enumerate_new (jX a items n dd sl) ⟨f,?_⟩;show _/\_;rw[hz];have c:=An (s.heap.push {cls:=.type "tuple_iterator",data:=.fields #[.ref a,.int 0 0]}) (o:={cls:=.type "enumerate",data:=.fields #[.none,.bool bb,.ref s.heap.objs.size,rawInt 0,.none,.none]}) rfl;rw[hz]at c;exact⟨⟨_,c,rfl⟩,h _ c ⟨_,Ad _ (An _ rfl),rfl,rfl⟩ λb o x=>Ad _ (Ad _ x)⟩
def FD:Bo "enumerate"=b3 (.type "enumerate"):=by decide+kernel
def pZ:Bo "zip"=b3 (.type "zip"):=by decide+kernel
section
variable{X:Cx}{K:Ai}{ml:List Nat}{l:Ux}{pu:Bool}{f:VF}{p pos cg:Pos}{es:List Ux}{tk:Nat}{δ:Ev}
def iEnu(K:Ai)(tl:TE):TI:=λσ H R=>tl σ H λx H1=>∃a tup,x=.ref a/\(∃xs,HB K tup H1 a xs)/\R (Ite K tup a) H1
def rD{tl:TE}(t:Gl X "enumerate")(r:X.mg "enumerate"=b4)(hl:PE X l tl)(k:SE X l []:=by rfl):PI X (.Tuple es tk cg) (.Call (.Name "enumerate" p) [l] [] pos) (iEnu X.K tl):=by
 intro aa s σ H R I h;refine Ey (P9 I t r FD ?_ (by decide) (by decide));refine Ej (Y3 (a9 hl ZP k pos aa s σ H (λvs H1=>match vs with
  |[x]=>∃a tup,x=.ref a/\(∃xs,HB X.K tup H1 a xs)/\R (Ite X.K tup a) H1
  |_=>False) I h) λy s1 ⟨vs,H1,f,g,q1⟩=>?_) k (by rfl)
 match vs,g,q1 with
 |[x],g,q1=>
  obtain⟨a,tup,rfl,⟨xs,o⟩,v⟩:=q1;obtain⟨u,rfl,m⟩:=VR g;cases m;obtain⟨n,A,c,_⟩:=f.srcA o;refine BK c λh' d i kp=>?_;have w:bS X aa σ H1 {s1 with heap:=h'}:=f.kept (t':=s1.toks) kp;have q:∀b,s1.heap.objs.size<=b->H1 b=b4:=λb j=>f.hok.fresh j;refine Qh d ⟨s1.heap.objs.size+1,[s1.heap.objs.size+1,s1.heap.objs.size],_,Ite X.K tup a,H1,rfl,w,nM tup a (s1.heap.objs.size+1) s1.heap.objs.size (Nat.succ_ne_self _) (λz=>?_) (λz=>?_),⟨⟨_,d⟩,i⟩,λb j=>?_,v⟩
  ·have:=c.lt
   rw[z]at this;exact absurd this (Nat.not_lt_of_le (Gr _))
  ·have:=c.lt
   rw[z]at this;exact absurd this (Ci _)
  ·have e:s1.heap.objs.size<=b:=by
    rcases Al.mp j with z|z
    ·rw[z];exact Gr _
    ·rw[Aw.mp z];exact Ao _
   exact f.fpOk e (q b e)
def lN(h:X.K=K){tl:TE}(b:Gl X "enumerate")(a:X.mg "enumerate"=b4)(hl:PE X l tl)(c:SE X l []:=by rfl):PI X (.Tuple es tk cg) (.Call (.Name "enumerate" p) [l] [] pos) (iEnu K tl):=by subst h;exact rD b a hl c
noncomputable def XW:Nat->List cH->List cH
 |_,[]=>[]
 |i,d::ds=>.tup [.int i,d]::XW (i+1) ds
def KQ(f:VF):VI:=λδ=>(f δ).bind λp=>(XB p.1).map λds=>(XW 0 ds,p.2)
theorem J9:∀{ds:List cH}{n i:Nat}{d:cH},(XW n ds)[i]?=b3 d->∃x,ds[i]?=b3 x/\d=.tup [.int (n+i:Nat),x]
 |[],_,_,_,h=>by simp[XW]at h
 |x::ds,n,0,d,h=>by simp[XW]at h;exact⟨x,rfl,h.symm⟩
 |x::ds,n,i+1,d,h=>by
  have h:(XW (n+1) ds)[i]?=b3 d:=by simpa[XW]using h
  obtain⟨y,h1,h2⟩:=J9 h;exact⟨y,by simpa using h1,by rw[h2,show n+1+i=n+(i+1) by lia]⟩
theorem KA:∀(ds:List cH) (n:Nat),(XW n ds).length=ds.length
 |[],_=>rfl
 |_::ds,n=>congrArg (· +1) (KA ds (n+1))
def JE{a:Ur}{tup:Bool}{ds:List cH}:Walk K (Ite K tup a) [(.ref a,if tup=ba then .tup ds else .lst ds)] (XW 0 ds):=by
 intro N H h;have r:=h _ (Aw.mpr rfl);have b:∀xs,HB K tup H a xs->bQ K N H xs ds->(∀(i:Nat) (d:cH),(XW 0 ds)[i]?=b3 d->(Ite K tup a).go i H/\∀x H',(Ite K tup a).yld i H x H'->aN H H'/\aT K N H' N x d)/\(Ite K tup a).stop (XW 0 ds).length H:=λxs sq r=>by
  refine⟨λi d e=>?_,xs,sq,by rw[r.length,KA]⟩;obtain⟨z,l,rfl⟩:=J9 e;obtain⟨x,f,g⟩:=r.get l;refine⟨⟨xs,x,sq,f⟩,λy H' j=>?_⟩;obtain⟨p,m,k,c,rfl,rfl⟩:=j;have:=k xs sq
  rw[f]at this;cases this;refine⟨b7 c,.tup (VE.of bU) (.cons ?_ (.cons (g.same (b7 c)) .nil))⟩;rw[Jn];exact .int _
 cases tup with
 |true=>
  have r:aT K N H N (.ref a) (.tup ds):=r;cases r.onT with
  |tup sq r=>exact b _ sq r
 |false=>
  have r:aT K N H N (.ref a) (.lst ds):=r;cases r.onL with
  |lst q n r=>exact b _ (XR.of q) r
  |fzl q r=>exact b _ q.sq r
def G3(m:X.K=K)(i:Gl X "enumerate")(g:X.mg "enumerate"=b4)(h:PE X l (TV K ml pu ba ba f))(j:SE X l []:=by rfl):
  PI X (.Tuple es tk cg) (.Call (.Name "enumerate" p) [l] [] pos) (JV K ml pu (KQ f)):=(lN (K:=K) m i g h j).imp λσ H R d=>by
 obtain⟨B,O,δ,ds,δ',S,q,k⟩:=d;unfold KQ at q;obtain⟨⟨x,δ1⟩,h1,q⟩:=Ac.mp q;refine⟨B,O,δ,x,δ1,S,h1,λv H1 b=>?_⟩;cases x with
 |lst c=>
  cases q;obtain⟨a,xs,rfl,sq,r⟩:=b.rep.lstE;exact⟨a,bb,rfl,⟨xs,sq⟩,k _ [(.ref a,.lst c)] H1 (b.sta.keepV λp e=>by rw[Aw.mp e];exact b.rep) b.frm b.pur (JE (tup:=bb))⟩
 |tup c=>
  cases q;obtain⟨a,xs,rfl,sq,r⟩:=b.rep.tupE;exact⟨a,ba,rfl,⟨xs,sq⟩,k _ [(.ref a,.tup c)] H1 (b.sta.keepV λp e=>by rw[Aw.mp e];exact b.rep) b.frm b.pur (JE (tup:=ba))⟩
 |_=>cases q
end
section
variable{prog:Av}{w:Uy}{A:Bz}{E:Uq->Ae->Prop}{s:Ae}
def SK.ext{tup:Bool}{h h':Vb}{it a b:Ur}{i:Nat}(x:SK tup h it a i)(d:Jf b h h')(c:it≠b):SK tup h' it a i:=x.at λo e=>d _ _ c e
def N8.ext{tup:Bool}{h h':Vb}{a b:Ur}{xs:Array Uq}(x:N8 tup h a xs)(d:Jf b h h')(c:a≠b):N8 tup h' a xs:=by
 cases tup with
 |true=>obtain⟨o,e,r⟩:=x;exact⟨o,d _ _ c e,r⟩
 |false=>obtain⟨o,e,r⟩:=x;exact⟨o,d _ _ c e,r⟩
def QB{tup:Bool}{it a:Ur}{i:Nat}{xs:Array Uq}{x:Uq}{Q:Uq->Ae->Prop}(hi:SK tup s.heap it a i)(c:N8 tup s.heap a xs)(b:xs[i]?=b3 x)(d:∀h',SK tup h' it a (i+1)->Es it s.heap h'->Q x {s with heap:=h'}):Us (Ut prog w) A (Ca (.ref it)) Q E s:=by
 cases tup with
 |true=>exact QM hi c b d
 |false=>exact wpAny_nextOf_list_item hi c b d
def IC{tup:Bool}{it a:Ur}{i:Nat}{xs:Array Uq}{Q:Uq->Ae->Prop}(d:A.handled=b4)(hi:SK tup s.heap it a i)(c:N8 tup s.heap a xs)(b:xs[i]?=b4)(f:∀h' e,Jf it s.heap h'->(∃o,h'.get? e=b3 o/\o.cls=.type "StopIteration")->E (.ref e) {s with heap:=h'}):Us (Ut prog w) A (Ca (.ref it)) Q E s:=by
 cases tup with
 |true=>exact OS d hi c b f
 |false=>exact wpAny_nextOf_list_end d hi c b f
structure ZSt(t1 t2:Bool)(h:Vb)(z p q i1 i2 a b:Ur)(k:Nat)(f0:Uq):Prop where
 zip:IsZip h z p q f0
 its:IsPair h p (.ref i1) (.ref i2)
 res:∃u v,IsPair h q u v
 one:SK t1 h i1 a k
 two:SK t2 h i2 b k
def kB{H G:Bool}{z p q i1 i2 a b:Ur}{k:Nat}{xs ys:Array Uq}{x y:Uq}{Q:Uq->Ae->Prop}(D:No z p q i1 i2 a b)(S:ZSt H G s.heap z p q i1 i2 a b k .none)(s1:N8 H s.heap a xs)(s2:N8 G s.heap b ys)(hx:xs[k]?=b3 x)(hy:ys[k]?=b3 y)(hQ:∀h',ZSt H G h' z p q i1 i2 a b (k+1) (rawInt s.heap.objs.size)->IsPair h' s.heap.objs.size x y->h'.objs.size=s.heap.objs.size+1->(∀c o,c≠z->c≠q->c≠i1->c≠i2->s.heap.get? c=b3 o->h'.get? c=b3 o)->Q (.ref s.heap.objs.size) {s with heap:=h'}):Us (Ut prog w) A (Fa.«zip.__next__» ⟨[.ref z],[]⟩) (λN s'=>∃v,N=.done (.ret v)/\Q v s') E s:=by
 obtain⟨t,X,⟨u,v,gr⟩,g1,g2⟩:=S;show Us _ _ (field (Ay z) 2>>=_) _ _ _;refine Aa (Ek t rfl (x:=.bool bb) rfl ?_);show Us _ _ (field (Ay z) 3>>=_) _ _ _;refine Aa (Ek t rfl (x:=.ref p) rfl (Aa (Fh X rfl ?_)));show Us _ _ (Ec (Ay z)>>=_) _ _ _;refine Aa ?_
 (unfold Ec)
 refine Aa (Ek t rfl (x:=.none) rfl (Ag ?_));simp only[if_true];refine Aa (Jb (Aa (Ek t rfl (x:=.ref q) rfl (Aa (Fq t (by simp) λha L h=>Aa ?_)))));have L:IsZip ha z p q .ellipsis:=L;simp only[Se,Rc,Oa,Kl];refine Aa (Aa (Mc ?_));show Us _ _ (Ca (Ay i1)>>=_) _ _ _;refine Aa (QB (g1.ext h.extBut D.i1z) (s1.ext h.extBut D.l1z) hx λhb n1 j=>Ag ?_);have V:IsPair hb q u v:=j.extBut _ _ D.TOi1 (h.extBut _ _ D.TOz gr);refine Aa (Fh V rfl (Aa (Jx V λhc M i=>Aa (Ol (Ag ?_)))));have M:IsPair hc q x v:=M;refine Aa (Aa (Mc ?_));show Us _ _ (Ca (Ay i2)>>=_) _ _ _;refine Aa (QB (((g2.ext h.extBut D.i2z).ext j.extBut D.i12.symm).ext i.extBut D.TOi2.symm) (((s2.ext h.extBut D.l2z).ext j.extBut D.l2i1).ext i.extBut D.l2TO) hy λhd Z C=>Ag ?_);have U:IsPair hd q x v:=C.extBut _ _ D.TOi2 M;refine Aa (Fh U rfl (Aa (Jx U λd I B=>Aa (Ol (Ag (Ag ?_))))));have I:IsPair d q x y:=I;refine Aa (Fh I rfl (Aa (wpAny_newTuple ?_)));have e:d.objs.size=s.heap.objs.size:=by rw[B.1,C.1,i.1,j.1,h.1]
 have T:IsZip d z p q .ellipsis:=B.extBut _ _ D.TOz.symm (C.extBut _ _ D.i2z.symm (i.extBut _ _ D.TOz.symm (j.extBut _ _ D.i1z.symm L)));have W:∀c o,c≠z->c≠q->c≠i1->c≠i2->s.heap.get? c=b3 o->d.get? c=b3 o:=λc o f J P O g=>B.extBut _ _ J (C.extBut _ _ O (i.extBut _ _ J (j.extBut _ _ P (h.extBut _ _ f g))));have e1:SK H d i1 a (k+1):=((n1.ext i.extBut D.TOi1.symm).ext C.extBut D.i12).ext B.extBut D.TOi1.symm;have e2:SK G d i2 b (k+1):=Z.ext B.extBut D.TOi2.symm;have ie:IsPair d p (.ref i1) (.ref i2):=W _ _ D.TIz D.TITO D.TIi1 D.TIi2 X;have l:z<d.objs.size:=Ak T;show Us _ _ (Hm (Ay z) (.ref d.objs.size)>>=_) _ _ _;refine Aa ?_
 (unfold Hm)
 have Y:IsZip (d.push {cls:=.type "tuple",data:=.seq #[x,y]}) z p q .ellipsis:=Ad _ T;refine Aa (Fq Y (by simp) λhg K R=>?_);have K:IsZip hg z p q (rawInt d.objs.size):=K;refine Fq K (by simp) λr F bk=>?_;have F:IsZip r z p q (rawInt d.objs.size):=F;have m:∀c o,c≠z->d.get? c=b3 o->r.get? c=b3 o:=λc o f g=>bk.extBut _ _ f (R.extBut _ _ f (Ad _ g));have tk:IsPair r d.objs.size x y:=bk.extBut _ _ (Hu l) (R.extBut _ _ (Hu l) (An _ rfl));have n:r.objs.size=d.objs.size+1:=by rw[bk.1,R.1,Dq]
 rw[e]at F tk n;refine Ag ⟨_,rfl,?_⟩;show Q (.ref d.objs.size) _;rw[e];exact hQ r ⟨F,m _ _ D.TIz ie,⟨x,y,m _ _ D.TOz I⟩,e1.at λo g=>m _ o D.i1z g,e2.at λo g=>m _ o D.i2z g⟩ tk n λc o f J P O g=>m c o f (W c o f J P O g)
def iK{I H:Bool}{z p q i1 i2 a b:Ur}{k:Nat}{xs ys:Array Uq}{Q:Fin->Ae->Prop}(K:A.handled=b4)(D:No z p q i1 i2 a b)(S:ZSt I H s.heap z p q i1 i2 a b k .none)(s1:N8 I s.heap a xs)(s2:N8 H s.heap b ys)(Y:xs[k]?=b4∨ys[k]?=b4)(L:∀h' e,(∀c o,c≠z->c≠q->c≠i1->c≠i2->s.heap.get? c=b3 o->h'.get? c=b3 o)->(∃o,h'.get? e=b3 o/\o.cls=.type "StopIteration")->E (.ref e) {s with heap:=h'}):Us (Ut prog w) A (Fa.«zip.__next__» ⟨[.ref z],[]⟩) Q E s:=by
 obtain⟨j,W,⟨u,v,V⟩,M,X⟩:=S;show Us _ _ (field (Ay z) 2>>=_) _ _ _;refine Aa (Ek j rfl (x:=.bool bb) rfl ?_);show Us _ _ (field (Ay z) 3>>=_) _ _ _;refine Aa (Ek j rfl (x:=.ref p) rfl (Aa (Fh W rfl ?_)));show Us _ _ (Ec (Ay z)>>=_) _ _ _;refine Aa ?_
 (unfold Ec)
 refine Aa (Ek j rfl (x:=.none) rfl (Ag ?_));simp only[if_true];refine Aa (Jb (Aa (Ek j rfl (x:=.ref q) rfl (Aa (Fq j (by simp) λU n d=>Aa ?_)))));have n:IsZip U z p q .ellipsis:=n;simp only[Se,Rc,Oa,Kl];refine Aa (Aa (Mc ?_));show Us _ _ (Ca (Ay i1)>>=_) _ _ _;cases y:xs[k]? with
 |none=>
  refine Aa (IC K (M.ext d.extBut D.i1z) (s1.ext d.extBut D.l1z) y λB e f ⟨r,h,l⟩=>?_);have G:IsZip B z p q .ellipsis:=f _ _ D.i1z.symm n;have t:e≠z:=λw=>by subst w;rw[G]at h;cases h;simp at l
  exact Fq G (by simp) λhc _ i=>L hc e (λc o m _ C _ g=>i.extBut _ _ m (f _ _ C (d.extBut _ _ m g))) ⟨r,i.extBut _ _ t h,l⟩
 |some x=>
  have P:ys[k]?=b4:=Y.resolve_left λw=>by rw[y]at w;cases w
  refine Aa (QB (M.ext d.extBut D.i1z) (s1.ext d.extBut D.l1z) y λB n1 f=>Ag ?_);have J:IsPair B q u v:=f.extBut _ _ D.TOi1 (d.extBut _ _ D.TOz V);refine Aa (Fh J rfl (Aa (Jx J λhc rc i=>Aa (Ol (Ag (Aa (Aa (Mc ?_))))))));show Us _ _ (Ca (Ay i2)>>=_) _ _ _;refine Aa (IC K (((X.ext d.extBut D.i2z).ext f.extBut D.i12.symm).ext i.extBut D.TOi2.symm) (((s2.ext d.extBut D.l2z).ext f.extBut D.l2i1).ext i.extBut D.l2TO) P λT e O ⟨r,h,l⟩=>?_);have F:IsZip T z p q .ellipsis:=O _ _ D.i2z.symm (i.extBut _ _ D.TOz.symm (f.extBut _ _ D.i1z.symm n));have t:e≠z:=λw=>by subst w;rw[F]at h;cases h;simp at l
  exact Fq F (by simp) λR _ N=>L R e (λc o m c2 C Z g=>N.extBut _ _ m (O _ _ Z (i.extBut _ _ c2 (f.extBut _ _ C (d.extBut _ _ m g))))) ⟨r,N.extBut _ _ t h,l⟩
def B4{e d:Bool}{z p q i1 i2 a b:Ur}{k:Nat}{xs ys:Array Uq}{x y:Uq}{Q:Option Uq->Ae->Prop}(D:No z p q i1 i2 a b)(S:ZSt e d s.heap z p q i1 i2 a b k .none)(s1:N8 e s.heap a xs)(s2:N8 d s.heap b ys)(g:xs[k]?=b3 x)(f:ys[k]?=b3 y)(h:∀h',ZSt e d h' z p q i1 i2 a b (k+1) (rawInt s.heap.objs.size)->IsPair h' s.heap.objs.size x y->h'.objs.size=s.heap.objs.size+1->(∀c o,c≠z->c≠q->c≠i1->c≠i2->s.heap.get? c=b3 o->h'.get? c=b3 o)->Q (b3 (.ref s.heap.objs.size)) {s with heap:=h'}):Us (Ut prog w) A (pyNext (.ref z)) Q E s:=by
 have ty:s.TypeIs (.ref z) "zip":=⟨_,S.zip,rfl⟩
 (unfold pyNext)
 exact Aa (Md (Cs (name:=Bj "__next__") ty Kn (Dm Kn ty Rf (kB D S s1 s2 g f λh' l j i a4=>Ag (h h' l j i a4)) (Qi _))))
def jV{f d:Bool}{z p q i1 i2 a b:Ur}{k:Nat}{xs ys:Array Uq}{Q:Option Uq->Ae->Prop}(g:A.handled=b4)(D:No z p q i1 i2 a b)(S:ZSt f d s.heap z p q i1 i2 a b k .none)(s1:N8 f s.heap a xs)(s2:N8 d s.heap b ys)(j:xs[k]?=b4∨ys[k]?=b4)(h:∀h',(∀c o,c≠z->c≠q->c≠i1->c≠i2->s.heap.get? c=b3 o->h'.get? c=b3 o)->Q b4 {s with heap:=h'}):Us (Ut prog w) A (pyNext (.ref z)) Q E s:=by
 have ty:s.TypeIs (.ref z) "zip":=⟨_,S.zip,rfl⟩
 (unfold pyNext)
 refine Aa (Md (Cs (name:=Bj "__next__") ty Kn (Dm Kn ty Rf (iK g D S s1 s2 j λh' e kk ⟨o,i,l⟩=>?_) (Qi _))));exact Aa (wpAny_isInstance (T:= "StopIteration") (b:=ba) ⟨o,i,l⟩ isSubtype_stop (Ag (h _ kk)))
end
def oZ(tup:Bool):String:=if tup=ba then "tuple_iterator" else "list_iterator"
noncomputable abbrev zO(tup:Bool)(a:Ur):Ve:={cls:=.type (oZ tup),data:=.fields #[.ref a,.int 0 0]}
def cJ{prog:Av}{w:Uy}{A:Bz}{E:Uq->Ae->Prop}{s:Ae}{tup:Bool}{a:Ur}{xs:Array Uq}{Q:Uq->Ae->Prop}(h:N8 tup s.heap a xs)(b:Q (.ref s.heap.objs.size) {s with heap:=s.heap.push (zO tup a)}):Us (Ut prog w) A (Rz (.ref a)) Q E s:=by
 cases tup with
 |true=>exact Ig h b
 |false=>exact Fx h b
def N8.push{tup:Bool}{h:Vb}{a:Ur}{xs:Array Uq}(x:N8 tup h a xs)(o:Ve):N8 tup (h.push o) a xs:=by
 cases tup with
 |true=>obtain⟨o,e,r⟩:=x;exact⟨o,Ad _ e,r⟩
 |false=>obtain⟨o,e,r⟩:=x;exact⟨o,Ad _ e,r⟩
def eU(c e:Bool)(a b:Ur)(xs ys:Array Uq):Meets (Fa.«zip.__new__» ⟨[.type "zip",.ref a,.ref b],[]⟩) (λ_ R s=>N8 c s.heap a xs/\N8 e s.heap b ys/\∀h1 h2 i f k,h1=s.heap.push (zO c a)->h2=h1.push (zO e b)->i=h2.push {cls:=.type "tuple",data:=.seq #[.ref s.heap.objs.size,.ref h1.objs.size]}->f=i.push {cls:=.type "tuple",data:=.seq #[.none,.none]}->k=f.push {cls:=.type "zip",data:=.fields #[.none,.bool bb,.bool bb,.ref h2.objs.size,.ref i.objs.size]}->R (.ok (.ret (.ref f.objs.size))) {s with heap:=k}):=by
 refine .of_wp λprog w A R s h=>?_;obtain⟨j,g,d,tk,os⟩:=s;obtain⟨m,l,h⟩:=h;have n:=sub_zip;have k1:N8 c (Sd ⟨j,g,d,tk,os⟩) a xs:=m;have k2:N8 e (Sd ⟨j.push (zO c a),g,d,tk,os⟩) b ys:=N8.push l _;wp_walk using cJ k1,cJ k2
 exact⟨_,rfl,h _ _ _ _ _ rfl rfl rfl rfl rfl⟩
def gD{prog:Av}{w:Uy}{A:Bz}{E:Uq->Ae->Prop}{s:Ae}{f e:Bool}{a b:Ur}{xs ys:Array Uq}{Q:Uq->Ae->Prop}(K:N8 f s.heap a xs)(J:N8 e s.heap b ys)(h:∀h',ZSt f e h' (s.heap.objs.size+4) (s.heap.objs.size+2) (s.heap.objs.size+3) s.heap.objs.size (s.heap.objs.size+1) a b 0 .none->(∀c o,s.heap.get? c=b3 o->h'.get? c=b3 o)->Q (.ref (s.heap.objs.size+4)) {s with heap:=h'}):Us (Ut prog w) A (call (.type "zip") [.ref a,.ref b]) Q E s:=by
 refine callType_new F.called_zip (by decide) (F.typeCall_zip_2 _ _) (F.newCall_zip_2 _ _) (λobj=>F.args_object_init_3 obj _ _) F.entry_zip_new (eU f e a b xs ys) ⟨K,J,?_⟩;rintro h1 h2 g n d u t r p H;have k:h1.objs.size=s.heap.objs.size+1:=by rw[u,Dq]
 have j:h2.objs.size=s.heap.objs.size+2:=by rw[t,Dq,k]
 have i:g.objs.size=s.heap.objs.size+3:=by rw[r,Dq,j]
 have v:n.objs.size=s.heap.objs.size+4:=by rw[p,Dq,i]
 have x:∀c o,n.get? c=b3 o->d.get? c=b3 o:=λc o q=>by rw[H];exact Ad _ q
 have y:∀c o,g.get? c=b3 o->d.get? c=b3 o:=λc o q=>x c o (by rw[p];exact Ad _ q);have z:∀c o,h2.get? c=b3 o->d.get? c=b3 o:=λc o q=>y c o (by rw[r];exact Ad _ q);have B:∀c o,h1.get? c=b3 o->d.get? c=b3 o:=λc o q=>z c o (by rw[t];exact Ad _ q);have I:∀c o,s.heap.get? c=b3 o->d.get? c=b3 o:=λc o q=>B c o (by rw[u];exact Ad _ q);have l:d.get? n.objs.size=b3 {cls:=.type "zip",data:=.fields #[.none,.bool bb,.bool bb,.ref h2.objs.size,.ref g.objs.size]}:=by rw[H];exact An _ rfl
 have C:d.get? g.objs.size=b3 {cls:=.type "tuple",data:=.seq #[.none,.none]}:=x _ _ (by rw[p];exact An _ rfl);have D:d.get? h2.objs.size=b3 {cls:=.type "tuple",data:=.seq #[.ref s.heap.objs.size,.ref h1.objs.size]}:=y _ _ (by rw[r];exact An _ rfl);have m:d.get? h1.objs.size=b3 (zO e b):=z _ _ (by rw[t];exact An _ rfl);have G:d.get? s.heap.objs.size=b3 (zO f a):=B _ _ (by rw[u];exact An _ rfl);show _/\_;rw[j,i,v]at l;rw[i]at C;rw[k,j]at D;rw[k]at m;rw[v];refine⟨⟨_,l,rfl⟩,h _ ⟨l,D,⟨_,_,C⟩,?_,?_⟩ I⟩
 ·cases f with
  |true=>exact⟨_,G,rfl,rfl⟩
  |false=>exact⟨_,G,rfl,rfl⟩
 ·cases e with
  |true=>exact⟨_,m,rfl,rfl⟩
  |false=>exact⟨_,m,rfl,rfl⟩
def fG(n a b:Nat)(d:a<n)(c:b<n):No (n+4) (n+2) (n+3) n (n+1) a b:=by
 have f:∀x y:Nat,x<y∨y<x->x≠y:=λx y h=>by lia
 exact⟨f _ _ (by lia),f _ _ (by lia),f _ _ (by lia),f _ _ (by lia),f _ _ (by lia),f _ _ (by lia),f _ _ (by lia),f _ _ (by lia),f _ _ (by lia),f _ _ (by lia),f _ _ (by lia),f _ _ (by lia),f _ _ (by lia),f _ _ (by lia),f _ _ (by lia),f _ _ (by lia),f _ _ (by lia),f _ _ (by lia)⟩
def Itz(K:Ai)(d c:Bool)(a b:Ur):It:=
  ⟨λi H=>∃xs ys x y,HB K d H a xs/\HB K c H b ys/\xs[i]?=b3 x/\ys[i]?=b3 y,λi H v H'=>∃p x y,(∀xs,HB K d H a xs->xs[i]?=b3 x)/\(∀ys,HB K c H b ys->ys[i]?=b3 y)/\H p=b4/\H'=upd H p (.tup [x,y])/\v=.ref p,λi H=>∃xs ys,HB K d H a xs/\HB K c H b ys/\(xs.length<=i∨ys.length<=i)⟩
def lx{P:Av}{w:Uy}{K:Ai}{es:List Ux}{k:Nat}{pos:Pos}(A t:Bool)(z p q i1 i2 a b:Ur)(D:No z p q i1 i2 a b):
  BF P w K (.Tuple es k pos) (Itz K A t a b) [z,p,q,i1,i2] z (λi h=>ZSt A t h z p q i1 i2 a b i .none) where
 mem:=by simp
 obj:=λi h st c hc=>by
  simp only[Al,Bi,or_false]at hc;rcases hc with rfl|rfl|rfl|rfl|rfl
  ·exact⟨_,st.zip,λv e=>by cases e⟩
  ·exact⟨_,st.its,λv e=>by cases e⟩
  ·obtain⟨u,v,g⟩:=st.res
   exact⟨_,g,λv e=>by cases e⟩
  ·exact st.one.obj
  ·exact st.two.obj
 keep:=λi h h' st kk=>by obtain⟨u,v,g⟩:=st.res;exact⟨kk z (by simp) _ st.zip,kk p (by simp) _ st.its,⟨u,v,kk q (by simp) _ g⟩,st.one.at λo e=>kk i1 (by simp) o e,st.two.at λo e=>kk i2 (by simp) o e⟩
 item:=by
  intro X M hw N hc i aa s σ H E I n st J;subst M hw N;obtain⟨xs,ys,x,y,l,j,T,S⟩:=J;obtain⟨R,F,Q,_⟩:=I.srcA l;obtain⟨vs,C,O,_⟩:=I.srcA j;obtain⟨u,hu,Z⟩:=F.get T;obtain⟨v,hv,Y⟩:=C.get S;refine B4 D st Q O (by simpa using hu) (by simpa using hv) λh1 f hp hsz G=>⟨_,rfl,?_⟩;refine wpAny_letOwnedTupleGo_zip (s:={s with heap:=h1}) f.zip λh2 U B=>?_;have B:Es z h1 h2:=B;have lt:∀c∈[z,p,q,i1,i2],c<s.heap.objs.size:=λc hc=>by
   simp only[Al,Bi,or_false]at hc;rcases hc with rfl|rfl|rfl|rfl|rfl
   ·exact Ak st.zip
   ·exact Ak st.its
   ·obtain⟨u,v,g⟩:=st.res
    exact Ak g
   ·obtain⟨o,e,_⟩:=st.one.obj
    exact Ak e
   ·obtain⟨o,e,_⟩:=st.two.obj
    exact Ak e
  have m:∀c o,c≠z->h1.get? c=b3 o->h2.get? c=b3 o:=λc o L e=>(B.2 c L).trans e;have d:ZSt A t h2 z p q i1 i2 a b (i+1) .none:=by obtain⟨W,V,g⟩:=f.res;exact⟨U,m _ _ D.TIz f.its,⟨W,V,m _ _ D.TOz g⟩,f.one.at λo e=>m _ o D.i1z e,f.two.at λo e=>m _ o D.i2z e⟩
  have c7:h2.get? s.heap.objs.size=b3 {cls:=.type "tuple",data:=.seq #[u,v]}:=m _ _ (Hu (lt z (by simp))) hp;have bu:H s.heap.objs.size=b4:=I.hok.fresh (Ao _);have I0:bS X aa σ (upd H s.heap.objs.size (.tup [x,y])) {s with heap:=s.heap.push {cls:=.type "tuple",data:=.seq #[u,v]},toks:=s.toks}:=
   I.laid (λc o e=>Ad _ e) (Ao _) ⟨by show 2<=sizeLine;decide,[u,v],.cons Z (.cons Y .nil),Kj _ _⟩
  have I1:bS X aa σ (upd H s.heap.objs.size (.tup [x,y])) {s with heap:=h2,toks:=s.toks}:=by
   refine bS.turnedL (s:={s with heap:=s.heap.push {cls:=.type "tuple",data:=.seq #[u,v]},toks:=s.toks}) (h':=h2) (t':=s.toks) (fp:=[z,p,q,i1,i2]) I0 (λc o hc e=>?_) (λc hc=>?_) λc hc=>⟨by rw[bL (Au (lt c hc))];exact(n c hc).1,(n c hc).2⟩
   ·by_cases r:c=s.heap.objs.size
    ·subst r
     have e:(s.heap.push {cls:=.type "tuple",data:=.seq #[u,v]}).get? s.heap.objs.size=b3 o:=e;rw[An _ rfl]at e;cases e;exact c7
    ·have e':=(Jh _ _ _ r).symm.trans e
     exact m c o (λw=>hc (by simp[w])) (G c o (λw=>hc (by simp[w])) (λw=>hc (by simp[w])) (λw=>hc (by simp[w])) (λw=>hc (by simp[w])) e')
   ·simp only[Al,Bi,or_false]at hc
    rcases hc with rfl|rfl|rfl|rfl|rfl
    ·exact⟨_,d.zip⟩
    ·exact⟨_,d.its⟩
    ·obtain⟨u,v,g⟩:=d.res
     exact⟨_,g⟩
    ·obtain⟨o,e,_⟩:=d.one.obj
     exact⟨o,e⟩
    ·obtain⟨o,e,_⟩:=d.two.obj
     exact⟨o,e⟩
  exact⟨.ref s.heap.objs.size,_,I1,rfl,⟨_,x,y,λzs hz=>by rw[I.sq_inj hz l];exact T,λzs hz=>by rw[I.sq_inj hz j];exact S,bu,rfl,rfl⟩,d,λc hc=>by rw[bL (Au (lt c hc))];exact(n c hc).1⟩
 done:=by
  intro X M hw N hc i aa s σ H E I n st J;subst M hw N;obtain⟨xs,ys,l,j,dh⟩:=J;obtain⟨R,F,Q,_⟩:=I.srcA l;obtain⟨vs,C,O,_⟩:=I.srcA j;have l1:=F.length;have l2:=C.length;have he:R.toArray[i]?=b4∨vs.toArray[i]?=b4:=by
   rcases dh with z|z
   ·exact .inl (by simp;lia)
   ·exact .inr (by simp;lia)
  refine jV (I.ok.hd hc) D st Q O he λh1 G=>⟨rfl,?_⟩;have fq:∀c∈[z,q,i1,i2],c∈[z,p,q,i1,i2]:=λc hc=>by simp only[Al,Bi,or_false]at hc⊢;rcases hc with w|w|w|w<;>simp[w]
  have I':=bS.turnedL' (s:=s) (h':=h1) (t':=s.toks) (fp:=[z,q,i1,i2]) I (λc o hc e=>G c o (λw=>hc (by simp[w])) (λw=>hc (by simp[w])) (λw=>hc (by simp[w])) (λw=>hc (by simp[w])) e) λc hc=>n c (fq c hc);exact I'
 self:=λ_ i _ _ _ st h=>wpAny_pyIter_zip st.zip h
section
variable{X:Cx}{K:Ai}{ml:List Nat}{l m:Ux}{pa ta ia pb tb ib:Bool}{f g:VF}{p pos cg:Pos}{es:List Ux}{tk:Nat}{δ:Ev}
def iZp(K:Ai)(tl tm:TE):TI:=λσ H R=>tl σ H λx H1=>tm σ H1 λy H2=>∃a b d c,x=.ref a/\y=.ref b/\(∃xs,HB K d H2 a xs)/\(∃ys,HB K c H2 b ys)/\R (Itz K d c a b) H2
def oP{tl tm:TE}(F:Gl X "zip")(E:X.mg "zip"=b4)(hl:PE X l tl)(C:PE X m tm)(q:SE X l [m]:=by rfl)(o:SE X m []:=by rfl)(n:(Dx pos (Uu [m] X.env)).any (·.1)=bb:=by rfl):PI X (.Tuple es tk cg) (.Call (.Name "zip" p) [l,m] [] pos) (iZp X.K tl tm):=by
 intro aa s σ H R I h;refine Ey (P9 I F E pZ ?_ (by decide) (by decide));refine Ej (Y3 (a9 hl (a9 C ZP o) q pos aa s σ H (λvs H1=>match vs with
  |[x,y]=>∃a b e d,x=.ref a/\y=.ref b/\(∃xs,HB X.K e H1 a xs)/\(∃ys,HB X.K d H1 b ys)/\R (Itz X.K e d a b) H1
  |_=>False) I h) λz s1 ⟨vs,H1,g,i,q1⟩=>?_) q n
 match vs,i,q1 with
 |[x,y],i,q1=>
  obtain⟨a,b,e,d,rfl,rfl,⟨xs,k⟩,⟨ys,j⟩,L⟩:=q1;obtain⟨u,v,rfl,B,A⟩:=ES i;cases B;cases A;obtain⟨z,O,t,_⟩:=g.srcA k;obtain⟨vs,N,r,_⟩:=g.srcA j;refine gD t r λh' st kp=>?_;have M:bS X aa σ H1 {s1 with heap:=h'}:=g.kept (t':=s1.toks) kp;have J:=t.lt;have G:=r.lt;have D:No (s1.heap.objs.size+4) (s1.heap.objs.size+2) (s1.heap.objs.size+3) s1.heap.objs.size (s1.heap.objs.size+1) a b:=by exact fG _ a b J G
  refine wpAny_pyIter_zip st.zip ⟨s1.heap.objs.size+4,[s1.heap.objs.size+4,s1.heap.objs.size+2,s1.heap.objs.size+3,s1.heap.objs.size,s1.heap.objs.size+1],_,Itz X.K e d a b,H1,rfl,M,lx e d _ _ _ _ _ a b D,st,λc hc=>?_,L⟩;have f:s1.heap.objs.size<=c:=by simp only[Al,Bi,or_false]at hc;rcases hc with w|w|w|w|w<;>rw[w]<;>first|exact Nat.le_add_right _ _|exact Ao _
  exact g.fpOk f (g.hok.fresh f)
def rC(h:X.K=K){tl tm:TE}(e:Gl X "zip")(d:X.mg "zip"=b4)(hl:PE X l tl)(c:PE X m tm)(f:SE X l [m]:=by rfl)(b:SE X m []:=by rfl)(a:(Dx pos (Uu [m] X.env)).any (·.1)=bb:=by rfl):PI X (.Tuple es tk cg) (.Call (.Name "zip" p) [l,m] [] pos) (iZp K tl tm):=by subst h;exact oP e d hl c f b a
noncomputable def QU:List cH->List cH->List cH
 |d::ds,e::es=>.tup [d,e]::QU ds es
 |_,_=>[]
def iZip(f g:VF):VI:=λδ=>(f δ).bind λp=>(g p.2).bind λq=>(XB p.1).bind λds=>(XB q.1).map λes=>(QU ds es,q.2)
theorem E3:∀{ds es:List cH}{i:Nat}{d:cH},(QU ds es)[i]?=b3 d->∃x y,ds[i]?=b3 x/\es[i]?=b3 y/\d=.tup [x,y]
 |[],_,_,_,h=>by simp[QU]at h
 |_::_,[],_,_,h=>by simp[QU]at h
 |x::ds,y::es,0,d,h=>by simp[QU]at h;exact⟨x,y,rfl,rfl,h.symm⟩
 |x::ds,y::es,i+1,d,h=>by obtain⟨b,a,h1,h2,c⟩:=E3 (ds:=ds) (es:=es) (i:=i) (d:=d) (by simpa[QU]using h);exact⟨b,a,by simpa using h1,by simpa using h2,c⟩
theorem E4:∀{ds es:List cH},ds.length<=(QU ds es).length∨es.length<=(QU ds es).length
 |[],_=>.inl (Cn _)
 |_::_,[]=>.inr (Cn _)
 |x::ds,y::es=>by
  rcases E4 (ds:=ds) (es:=es)with h|h
  ·exact .inl (Rg h)
  ·exact .inr (Rg h)
def eI:cH->Bool
 |.tup _=>ba
 |_=>bb
def aT.sqA{N M:Ur->Prop}{H:Hp}{v:V}{d:cH}{ds:List cH}(h:aT K N H M v d)(e:XB d=b3 ds):∃a tup xs,v=.ref a/\HB K tup H a xs/\bQ K N H xs ds/\tup=eI d:=by
  cases d<;>first
    | (cases e
       obtain⟨a,xs,h1,h2,b⟩:=h.tupE;exact⟨a,ba,xs,h1,h2,b,rfl⟩)
    | (cases e
       obtain⟨a,xs,h1,h2,b⟩:=h.lstE;exact⟨a,bb,xs,h1,h2,b,rfl⟩)
    |cases e
def C5(hK:X.K=K)(hg:Gl X "zip")(hm:X.mg "zip"=b4)(h:PE X l (TV K ml pa ba ba f))(h':PE X m (TV K ml pb ba ba g))(he:SE X l [m]:=by rfl)(E:SE X m []:=by rfl)
  (C:(Dx pos (Uu [m] X.env)).any (·.1)=bb:=by rfl):PI X (.Tuple es tk cg) (.Call (.Name "zip" p) [l,m] [] pos) (JV K ml (pa&&pb) (iZip f g)):=(rC (K:=K) hK hg hm h h' he E C).imp λσ H R A=>by
 obtain⟨B,O,δ,ds,δ2,S,q,k⟩:=A;unfold iZip at q;obtain⟨⟨x,δ1⟩,h1,q⟩:=Ac.mp q;cases h2:g δ1 with
 |none=>simp[h2]at q
 |some p2=>
  obtain⟨y,r⟩:=p2;simp only[Ap,h2]at q;obtain⟨xs,Q,q⟩:=Ac.mp q;have q:(XB y).map (λes=>(QU xs es,r))=b3 (ds,δ2):=q;obtain⟨ys,P,q⟩:=Aj.mp q;cases q;refine⟨B,O,δ,x,δ1,S,h1,λt H1 o=>⟨B,O,δ1,y,_,o.sta,h2,λs H2 R2=>?_⟩⟩;have M:=o.rep.fr R2.frm (λa z=>.inr z) λa z=>.inr z;obtain⟨a,L,us,W,q1,w1,I⟩:=M.sqA Q;obtain⟨b,J,vs,V,q2,w2,G⟩:=R2.rep.sqA P;refine⟨a,b,L,J,W,V,⟨us,q1⟩,⟨vs,q2⟩,k _ [(t,x),(s,y)] H2 (R2.sta.keepV λz hz=>?_) (o.frm.trans R2.frm) (λz=>?_) ?_⟩
  ·simp only[Al,Bi,or_false]at hz
   rcases hz with rfl|rfl
   ·exact M
   ·exact R2.rep
  ·obtain⟨z1,z2⟩:=(Af _ _).mp z
   exact(o.pur z1).trans (R2.pur z2)
  ·intro N H h
   obtain⟨a',v,j,f1,f2,f3,f4⟩:=(h (t,x) (by simp)).sqA Q;obtain⟨b',u,c,n,F,T,g4⟩:=(h (s,y) (by simp)).sqA P;have f1:t=.ref a':=f1;have n:s=.ref b':=n;rw[W]at f1;rw[V]at n;cases f1;cases n;have:v=L:=f4.trans I.symm
   subst this;have:u=J:=g4.trans G.symm
   subst this;refine⟨λi d e=>?_,j,c,f2,F,?_⟩
   ·obtain⟨dx,dy,hx,hy,rfl⟩:=E3 e
    obtain⟨ux,ex,rx⟩:=f3.get hx;obtain⟨uy,U,ry⟩:=T.get hy;refine⟨⟨j,c,ux,uy,f2,F,ex,U⟩,λz H' hz=>?_⟩;obtain⟨pp,x',y',c1,c2,D,rfl,rfl⟩:=hz;have Z:=c1 j f2;have Y:=c2 c F;rw[ex]at Z;rw[U]at Y;cases Z;cases Y;exact⟨b7 D,.tup (VE.of bU) (.cons (rx.same (b7 D)) (.cons (ry.same (b7 D)) .nil))⟩
   ·rcases E4 (ds:=xs) (es:=ys)with w|w
    ·exact .inl (by rw[f3.length];exact w)
    ·exact .inr (by rw[T.length];exact w)
end
end L2
namespace L2
open PySem PySem.Spec PyProof.Rows PySem.W
section
variable{prog:Av}{w:Uy}{A:Bz}{E:Uq->Ae->Prop}{s:Ae}
def CZ{t:Ur}{items:Array Uq}{Q:List Uq->Ae->Prop}(n:A.handled=b4)(f:IsTup s.heap t items)(h1:1<=items.size)(hz:items.size<=16777216)(p:∀(x:Uq) (c:Vb) (tk:Nat),items[0]?=b3 x->(∀b o,s.heap.get? b=b3 o->c.get? b=b3 o)->Q [x,.ref c.objs.size] {s with heap:=c.push {cls:=.type "list",data:=.seq (items.toList.drop 1).toArray},toks:=tk}):Us (Ut prog w) A (Ki (.ref t) 2 (b3 1)) Q E s:=by
 have a:t≠s.heap.objs.size:=by obtain⟨o,e,_⟩:=f;exact Au (Ak e)
 (unfold Ki)
 refine Aa ?_
 (unfold notIterableAtAll)
 refine Aa (wpAny_specialOf f.typeIs slot_tuple_iter.lookup (Ag ?_));simp only[El,if_false];refine Aa (Bp (iter_tuple f (Aa (Bp (draw_tuple a 1 0 _ _ ⟨_,An _ rfl,rfl,rfl⟩ (f.push _) (by lia) λg ia h=>?_)))));have ta:IsTup g t items:=(f.push _).extBut h.extBut a;have ia:g.IsTupleIter s.heap.objs.size t 1:=ia;obtain⟨F,v,_⟩:=id ia;obtain⟨D,q,_⟩:=id ta;have hsz:g.objs.size=s.heap.objs.size+1:=by rw[h.1,Dq]
 have m:((items.toList.drop 0).take 1).length=1:=by simp;lia
 rw[if_neg (show¬((items.toList.drop 0).take 1).length<1 by rw[m];exact Ci _)];refine Aa (Bp (kun_collect (s:={s with heap:=g}) (T:= "tuple_iterator") (.inr (.inr (.inr rfl))) (Walks.tuple (A:=A.in1) n s.heap.objs.size t a items) (λj u st=>st.1.typeIs) (k:=1) h1 ⟨ia,ta⟩ (Ak v) (Ak q) (λc tk l=>?_) (by rw[Bv];exact hz)));have G:(items.toList.drop 1).length=items.size-1:=by simp
 show Us _ _ (if(items.toList.drop 1).length<2-1-1 then _ else _) _ _ _;rw[if_neg (Nc _)];show Us _ _ (newList ((items.toList.drop 1).take ((items.toList.drop 1).length-(2-1-1)))>>=λd=>pure ((items.toList.drop 0).take 1++[d]++(items.toList.drop 1).drop ((items.toList.drop 1).length-(2-1-1)))) _ _ _;have C:(items.toList.drop 1).take ((items.toList.drop 1).length-(2-1-1))=items.toList.drop 1:=Ce (Ao _);have B:(items.toList.drop 1).drop ((items.toList.drop 1).length-(2-1-1))=[]:=Gh;rw[C,B];refine Aa (Cb (Ag ?_) (by show _<=sizeLine;rw[Bv];simp;lia));obtain⟨x,i⟩:∃x,items[0]?=b3 x:=⟨items[0],by simp[show 0<items.size by lia]⟩;have z:(items.toList.drop 0).take 1=[x]:=by
  rw[Nz];have:items.toList[0]?=b3 x:=by simpa using i
  cases hl:items.toList with
  |nil=>rw[hl]at this;cases this
  |cons y r=>rw[hl]at this;cases this;rfl
 rw[z];have keep:∀b o,s.heap.get? b=b3 o->c.get? b=b3 o:=λb o e=>l b o (Au (Ak e)) (h.extBut b o (Au (Ak e)) (Ad _ e));exact p x c tk i keep
end
section
variable{X:Cx}{K:Ai}{ml:List Nat}{e a b c:Ux}{es:List Ux}{pa ta ia pb tb ib pc tc ic pu bt bi ps bs:Bool}{fa fb fc f:VF}{B B':Bs}{O:Nat->Option Ur}{H H0 H1 H':Hp}{σ:St}{δ δ':Ev}{v:V}{d:cH}{p:Ur}{pos:Pos}
def kF(K:Ai)(i j:Nat):TG:=λv σ H Q=>∃a x xs,v=.ref a/\VE K H a (x::xs)/\∀p,H p=b4->Q ((σ.set i (b3 x)).set j (b3 (.ref p))) (upd H p (.lst xs))
def l6{i j:Nat}{x y:Uv}{c py ps p:Pos}{k:Nat}(hc:X.calm=ba)(n:X.N.Nodup)(hi:X.N[i]?=b3 x)(E:X.N[j]?=b3 y)(A:Loc X.env.scope x)(t:Loc X.env.scope y)(fx:X.fn x=ba∨X.env.scope.names.lookup x=b3 .local)(F:X.fn y=ba∨X.env.scope.names.lookup y=b3 .local)(hl:(Va [.Name x c,.Starred (.Name y py) ps] X.env).map (·.2)=[Gg (.Name x c) X.env,Gg (.Name y py) X.env])(D:(Va [.Name x c,.Starred (.Name y py) ps] X.env).length=2)(g:(Va [.Name x c,.Starred (.Name y py) ps] X.env).findIdx? (·.1)=b3 1):PG X (.Tuple [.Name x c,.Starred (.Name y py) ps] k p) (kF X.K i j):=by
 intro aa s σ H v u Q I r hw;obtain⟨a,z,zs,G,C,q⟩:=hw;subst G;cases r;obtain⟨e,m,B,hz⟩:=I.tuple C;rw[assign_Tuple];refine Aa (Dz ?_)
 (unfold unpack)
 rw[D,g];have l:=m.length;rw[Cg]at l;have d:e.length<=16777216:=by rw[<-Bv,<-l];exact hz
 refine Aa (Bp (CZ (I.ok.hd hc) B (by rw[Am];lia) (by rw[Am];exact d) λu h tk f kp=>?_));rw[hl];cases m with
 | @cons _ w _ O rz b=>
  have f:b3 w=b3 u:=by simpa using f
  cases f;have o:bS X aa σ H {s with heap:=h,toks:=tk}:=I.kept kp;have M:=bS.lnew (s:={s with heap:=h,toks:=tk}) (t':=tk) o b (by rw[Bv];simp only[Cg]at d l;have:=b.length;lia);refine Ei (Iz (YH M n hi A rz (λs3 L=>?_) fx));refine Ei (Iz (YH L n E t (v:=.ref h.objs.size) rfl (λs4 J=>Ja ⟨_,_,J,q _ (o.hok.fresh (Ao _))⟩) F))
noncomputable def IQ(i j:Nat)(f:VF):VS:=λδ=>(f δ).bind λp=>match p.1 with
 |.tup (d::ds)=>b3 (.nx ((p.2.set i (.va d)).set j (.va (.lst ds))))
 |_=>b4
def A9{i j:Nat}{x y:Uv}{b py sp g:Pos}{k:Nat}(P:X.K=K)(hc:X.calm=ba)(M:X.N.Nodup)(hi:X.N[i]?=b3 x)(I:X.N[j]?=b3 y)(J:i≠j)(E:Loc X.env.scope x)(C:Loc X.env.scope y)(L:PE X e (TV K ml pu ba ba f))(s:i∉ml:=by decide)(n:j∉ml:=by decide)(fx:LO X x:=by first|exact .inl rfl|exact .inr rfl|assumption)(Q:LO X y:=by first|exact .inl rfl|exact .inr rfl|assumption)(hl:(Va [.Name x b,.Starred (.Name y py) sp] X.env).map (·.2)=[Gg (.Name x b) X.env,Gg (.Name y py) X.env]:=by rfl)(G:(Va [.Name x b,.Starred (.Name y py) sp] X.env).length=2:=by rfl)(l:(Va [.Name x b,.Starred (.Name y py) sp] X.env).findIdx? (·.1)=b3 1:=by rfl)(F:Gc [.Tuple [.Name x b,.Starred (.Name y py) sp] k g] e pos.line X.env=pure bb:=by rfl)(hw:Gd [.Tuple [.Name x b,.Starred (.Name y py) sp] k g] e X.env=pure b4:=by rfl)(h1:(Va [.Tuple [.Name x b,.Starred (.Name y py) sp] k g] X.env).map (·.2)=[Gg (.Tuple [.Name x b,.Starred (.Name y py) sp] k g) X.env]:=by rfl):PS X (.Assign [.Tuple [.Name x b,.Starred (.Name y py) sp] k g] e pos) (WG K ml (IQ i j f)):=by
 subst P;refine(CJ L (l6 hc M hi I E C fx Q hl G l) F hw h1).imp λD σ H m=>?_;obtain⟨B,O,δ,o,S,q,k⟩:=m;unfold IQ at q;obtain⟨⟨z,δ1⟩,h1,q⟩:=Ac.mp q;refine⟨B,O,δ,z,δ1,S,h1,λv H1 R=>?_⟩;cases z with
 |tup ds=>
  cases ds with
  |nil=>cases q
  |cons d ds=>
   cases q;obtain⟨a,xs,rfl,sq,r⟩:=R.rep.tupE;cases r with
   | @cons u vs _ _ A w=>
    refine⟨a,u,vs,rfl,sq,λp h=>?_⟩;have T:=(R.sta.same (b7 (o:=.lst vs) h)).setVa s (A.same (b7 (o:=.lst vs) h));have t:∀c,Nn B (λj=>if j=i then b4 else O j) c->Nn B O c:=QN (o:=b4);refine k _ _ _ (T.setVa n (.lst bU (λz=>R.sta.new h (t _ z)) ((w.same (b7 h)).mono t)))
 |_=>cases q
end
end L2
namespace L2
open PySem PySem.Spec PyProof.Rows
section
variable{X:Cx}{K:Ai}{ml:List Nat}{e a b c:Ux}{es:List Ux}{pa ta ia pb tb ib pc tc ic pu bt bi ps bs:Bool}{fa fb fc f:VF}{B B':Bs}{O:Nat->Option Ur}{H H0 H1 H':Hp}{σ:St}{δ δ':Ev}{v:V}{d:cH}{p:Ur}{pos:Pos}
def rInD(K:Ai)(neg:Bool):R2:=λx y H Q=>∃d e ds,Dp K H x d/\Dp K H y e/\(e=.list ds∨e=.tuple ds)/\Et d=ba/\Et e=ba/\Q (.bl (if neg then !ds.any (λz=>Ka z d)else ds.any λz=>Ka z d)) H
def PB{d:Ny}(h:Et d=ba):d.canLay0=ba/\d.depth<=64:=by unfold Et at h;simp only[Af,decide_eq_true_eq]at h;exact h
def Zj(neg:Bool)(t:X.A.units+64<cLine):WM X (Cr (if neg then .NotIn else .In)) (rInD X.K neg):=by
 intro aa s σ H x y v u Q I n m h;obtain⟨d,e,ds,p,o,f,l,j,q⟩:=h;obtain⟨as,h1⟩:=I.reads p n;obtain⟨bs,h2⟩:=I.reads o m;obtain⟨c,w⟩:=PB l;obtain⟨i,g⟩:=PB j;have a:∀k,(k=if neg then !ds.any (λz=>Ka z d)else ds.any λz=>Ka z d)->EP X aa σ Q (.bool k) s:=λk f=>by subst f;exact⟨.bl _,H,I,rfl,q⟩
 rcases f with rfl|rfl
 ·have hc : Ji ds = ba := by simpa [Gj]using i
  have r:Fj ds<=63:=by simp only[Jr]at g;lia
  have b:X.A.units+1+min (Fj ds) d.depth<cLine:=by have:=Sf (Fj ds) d.depth;lia
  cases neg with
  |false=>exact SeqAt.in_list_reads h2 h1 hc c b (a _ rfl)
  |true=>exact SeqAt.notIn_list_reads h2 h1 hc c b (a _ rfl)
 ·have hc : Ji ds = ba := by simpa [Gj]using i
  have r:Fj ds<=63:=by simp only[Jr]at g;lia
  have b:X.A.units+1+min (Fj ds) d.depth<cLine:=by have:=Sf (Fj ds) d.depth;lia
  cases neg with
  |false=>exact SeqAt.in_tuple_reads h2 h1 hc c b (a _ rfl)
  |true=>exact SeqAt.notIn_tuple_reads h2 h1 hc c b (a _ rfl)
def UL(a:X.A.units+64<cLine)(h:X.K=K:=by rfl):WM X (Cr .In) (rInD K bb):=by subst h;exact Zj bb a
def ON(a:X.A.units+64<cLine)(h:X.K=K:=by rfl):WM X (Cr .NotIn) (rInD K ba):=by subst h;exact Zj ba a
def HS(d:cH)(ds:List cH):Bool:=(pds ds).any λz=>Ka z d.pd
def ZN(neg:Bool)(d e:cH):Option cH:=(XB e).bind λds=>if(IF d&&IF e)=ba then b3 (.bl (if neg then !HS d ds else HS d ds))else b4
def Y2{neg:Bool}:NX K (rInD K neg) (ZN neg):=by
 intro H N N' M M' x y d e c Q g f h k;unfold ZN at h;obtain⟨ds,b,h⟩:=Ac.mp h;have h:(if(IF d&&IF e)=ba then b3 (cH.bl (if neg then !HS d ds else HS d ds))else b4)=b3 c:=h;split at h
 ·rename_i a
  cases h;simp only[IF,Af]at a;refine⟨d.pd,e.pd,pds ds,g.dp a.1.1,f.dp a.2.1,?_,a.1.2,a.2.2,k _ λ_ _ _=>.bl _⟩;cases e<;>first
   |(cases b;exact .inr rfl)
   |(cases b;exact .inl rfl)
   |cases b
 ·cases h
def md(K:Ai)(td ty:TE):TE:=λσ H Q=>td σ H λx H1=>∃a,x=.ref a/\((IsD H1 a/\ty σ H1 λy H2=>∃o,U9 H2 a y o/\Q (o.getD .non) H2)∨∃D,KTab K a D/\ty σ H1 λy H2=>∃k,y=.str k/\Q ((Fu k D).getD .non) H2)
def nC{aj af:Pos}{td ty:TE}(E:X.A.units+1<cLine)(F:PE X a td)(n:PE X e ty)(m:M1 X a "get" aj e af):PE X (.Call (.Attribute a "get" aj) [e] [] af) (md X.K td ty):=by
 intro aa s σ H Q I h;refine Qc m.base m.few m.line Mb Eg My (Y3 (F aa s σ H _ I h) λu s1 ⟨x,H1,d,w,l,ex,q1⟩=>?_);subst ex;obtain rfl:u=Ay l:=w;rcases q1 with⟨J,q1⟩|⟨D,T,q1⟩
 ·obtain⟨v,r,_⟩:=cX d J
  refine⟨v,r,?_⟩;rw[m.trees];refine Fl rfl (Em (Ex (Y3 (n aa s1 σ H1 _ d q1) λz s2 ⟨y,H2,c,f,R,g,q2⟩=>Gz ?_)));exact jN E c g f λP s3 O i=>⟨_,H2,O,i,q2⟩
 ·obtain⟨B,o,S,ep,j,hex,U,_⟩:=id T
  refine⟨⟨o,d.kIn _ _ j,hex.1⟩,λb q=>?_,?_⟩
  ·cases q
   exact⟨o,d.kIn _ _ j,hex.2.1⟩
  rw[m.trees];refine Fl rfl (Em (Ex (Y3 (n aa s1 σ H1 _ d q1) λz s2 ⟨y,H2,c,f,k,N,q2⟩=>Gz ?_)));subst N;obtain⟨t,rfl⟩:=f;have M:s2.TypeIs (.ref l) "dict":=⟨o,c.kIn _ _ j,hex.1⟩;refine Dm Eg M Fm ?_ (Im _ _);show Us _ _ (dictGet l (.str k t)>>=_) _ _ s2;refine Aa (DU c.kIn T (λd' p L C=>Ag ⟨p,rfl,?_⟩) λG=>?_)
  ·rw[L]at q2
   exact⟨d',H2,c.tok _,C,q2⟩
  ·rw[G]at q2
   show Us _ _ (Om l (.str k t)>>=_) _ _ _;unfold Om;rw[if_neg (by rw[B];exact Ch)];exact Aa (Ag (Ag ⟨.none,rfl,.non,H2,c.tok _,rfl,q2⟩))
def dI:cH->cH->Option cH
 |.dct ks ds,.str x=>b3 ((aD ks ds (.inr x)).getD .non)
 |_,_=>b4
def nH{aj af:Pos}(P:X.K=K)(J:X.A.units+1<cLine)(N:PE X a (TV K ml pa ta ia fa))(M:PE X b (TV K ml pb tb ib fb))(m:M1 X a "get" aj b af)(f:(pb || (ta&&ia))=ba:=by rfl):PE X (.Call (.Attribute a "get" aj) [b] [] af) (TV K ml (pa&&pb) ia ia (f2 dI fa fb)):=by
 subst P;refine(nC J N M m).imp λσ H Q u=>?_;obtain⟨B,O,δ,d,δ2,S,q,k⟩:=u;obtain⟨x,δ1,y,h1,h2,C⟩:=PY q;refine⟨B,O,δ,x,δ1,S,h1,λR H1 j=>?_⟩;have i:∀p H2 (R2:Res X.K ml B O H1 σ pb tb ib H2 δ2 p y) o,aT X.K (av B O ia) H2 (av B O ia) o d->Q o H2:=λp H2 R2 o L=>k o H2 ⟨R2.sta,j.frm.trans R2.frm,λz=>by obtain⟨h,g⟩:=(Af _ _).mp z;exact(j.pur h).trans (R2.pur g),L.mono (λ_ z=>z) Xf⟩
 cases x with
 |dct ks ds=>
  cases y with
  |str z=>
   cases C;have I:=j.rep;cases I.onD with
   | @dct l kvs t n r F=>
    subst F;refine⟨l,rfl,.inl ⟨.inl ⟨_,.inl t⟩,B,O,δ1,_,δ2,j.sta,h2,λp H2 R2=>?_⟩⟩;have s:=R2.rep;cases s.onS;have G:H2 l=b3 (.dK kvs)/\bQ X.K (av B O ia) H2 (kvs.map Cz) ds:=by
     cases pb with
     |true=>exact⟨R2.pur rfl _ _ t,r.same (R2.pur rfl)⟩
     |false=>
      have f:(ta&&ia)=ba:=by simpa using f
      obtain⟨h,g⟩:=(Af _ _).mp f;subst h g;exact⟨R2.frm _ _ t λw=>absurd (.inr w) n,r.fr R2.frm λa z=>.inr z⟩
    refine⟨_,U9.k (k:=.inr z) G.1,i _ _ R2 _ ?_⟩;rcases OR (k:=.inr z) G.2 with⟨v,d',e,c,E⟩|⟨e,c⟩
    ·rw[e,c];exact E
    ·rw[e,c];exact .non
   | @ktb l D T r F=>
    subst F;refine⟨l,rfl,.inr ⟨D,T,B,O,δ1,_,δ2,j.sta,h2,λp H2 R2=>?_⟩⟩;have s:=R2.rep;cases s.onS;refine⟨z,rfl,i _ _ R2 _ ?_⟩;have r':bQ X.K (av B O ia) H2 (D.map Cz) ds:=by
     cases pb with
     |true=>exact r.same (R2.pur rfl)
     |false=>
      have f:(ta&&ia)=ba:=by simpa using f
      obtain⟨h,g⟩:=(Af _ _).mp f;subst h g;exact r.fr R2.frm λa z=>.inr z
    rcases M9 (k:=z) r' with⟨v,d',e,c,E⟩|⟨e,c⟩
    ·rw[e,c];exact E
    ·rw[e,c];exact .non
  |_=>cases C
 |_=>cases C
end
def J5:Bo "all"=b3 (.builtin "all"):=by decide+kernel
def fM:Bo "any"=b3 (.builtin "any"):=by decide+kernel
def ll:Bo "dict"=b3 (.type "dict"):=by decide+kernel
section
variable{X:Cx}{K:Ai}{ml:List Nat}{e a b c:Ux}{es:List Ux}{pa ta ia pb tb ib pc tc ic pu bt bi ps bs:Bool}{fa fb fc f:VF}{B B':Bs}{O:Nat->Option Ur}{H H0 H1 H':Hp}{σ:St}{δ δ':Ev}{v:V}{d:cH}{p:Ur}{pos:Pos}
def kI{ks:List Bool}{a:List Uq}(r:aY (ks.map V.bl) a){i:Nat}{u:Uq}(h:a[i]?=b3 u):∃k,ks[i]?=b3 k/\u=.bool k:=by
 have hl:=r.length;rw[Bm]at hl;have hi:i<a.length:=(Ah.mp h).1;have e:(ks.map V.bl)[i]?=b3 (.bl ks[i]):=by simp[hl▸hi]
 obtain⟨w,h1,h2⟩:=r.get e;rw[h]at h1;cases h1;exact⟨ks[i],by simp[hl▸hi],h2⟩
def hV{ks:List Bool}:(As ks.length).all (λi=>(ks[i]?).getD ba)=ks.all id:=by
 induction ks with
 |nil=>rfl
 |cons k ks a=>
  rw[Cg,Ix,Tg,Tz,Tg,<-a];rfl
def kJ{ks:List Bool}:(As ks.length).any (λi=>(ks[i]?).getD ba)=ks.any id:=by
 induction ks with
 |nil=>rfl
 |cons k ks a=>
  rw[Cg,Ix,Hc,Ua,Hc,<-a];rfl
def LA(K:Ai)(g:List Bool->Bool):RC:=λxs H Q=>∃p ks,xs=[.ref p]/\XR K H p (ks.map V.bl)/\Q (.bl (g ks)) H
def EN{prog:Av}{w:Uy}{A:Bz}{ks:List Bool}{b:List Uq}(r:aY (ks.map V.bl) b):TruthOf prog w A (λi v=>b.toArray[i]?=b3 v) λi=>(ks[i]?).getD ba:=by intro i v s Q E c a;obtain⟨k,h1,rfl⟩:=kI r (by simpa using c);have a:Q ((ks[i]?).getD ba) s:=a;rw[h1]at a;exact Ee a
def lh(hc:X.calm=ba):Z4 X (.builtin "all") (LA X.K λks=>ks.all id):=by
 intro aa s σ H xs k Q I r h;obtain⟨l,ks,rfl,i,q⟩:=h;obtain⟨u,rfl,f⟩:=VR r;cases f;obtain⟨a,d,pl,hz⟩:=I.list i;have hl:=pl.isList;have c:l≠s.heap.objs.size:=by obtain⟨o,g,_⟩:=hl;exact Au (Ak g)
 have e:=d.length;rw[Bm]at e;refine call_all_walk (Fx hl ⟨_,_,_,_,_,_,_,rfl,Sy (show X.A.in1.handled=b4 from I.ok.hd hc) s.heap.objs.size l c a.toArray,⟨⟨_,An _ rfl,rfl,rfl⟩,?_⟩,EN d,λh' tk j=>?_⟩)
 ·obtain⟨o,g,r⟩:=hl
  exact⟨o,Ad _ g,r⟩
 ·rw[Am,<- e,hV]
  exact⟨.bl _,H,I.kept (t':=tk) λb o g=>j b o (by simp;exact Au (Ak g)) (Ad _ g),rfl,q⟩
def kH(hc:X.calm=ba):Z4 X (.builtin "any") (LA X.K λks=>ks.any id):=by
 intro aa s σ H xs k Q I r h;obtain⟨l,ks,rfl,i,q⟩:=h;obtain⟨u,rfl,f⟩:=VR r;cases f;obtain⟨a,d,pl,hz⟩:=I.list i;have hl:=pl.isList;have c:l≠s.heap.objs.size:=by obtain⟨o,g,_⟩:=hl;exact Au (Ak g)
 have e:=d.length;rw[Bm]at e;refine call_any_walk (Fx hl ⟨_,_,_,_,_,_,_,rfl,Sy (show X.A.in1.handled=b4 from I.ok.hd hc) s.heap.objs.size l c a.toArray,⟨⟨_,An _ rfl,rfl,rfl⟩,?_⟩,EN d,λh' tk j=>?_⟩)
 ·obtain⟨o,g,r⟩:=hl
  exact⟨o,Ad _ g,r⟩
 ·rw[Am,<- e,kJ]
  exact⟨.bl _,H,I.kept (t':=tk) λb o g=>j b o (by simp;exact Au (Ak g)) (Ad _ g),rfl,q⟩
def kAll(hc:X.calm=ba)(h:X.K=K:=by rfl):Z4 X (.builtin "all") (LA K λks=>ks.all id):=by subst h;exact lh hc
def kAny(hc:X.calm=ba)(h:X.K=K:=by rfl):Z4 X (.builtin "any") (LA K λks=>ks.any id):=by subst h;exact kH hc
noncomputable def JM:List cH->Option (List Bool)
 |[]=>b3 []
 |.bl k::ds=>(JM ds).map λks=>k::ks
 |_=>b4
theorem Yo{N:Ur->Prop}:∀{xs:List V}{ds:List cH}{ks:List Bool},bQ K N H xs ds->JM ds=b3 ks->xs=ks.map V.bl
 |_,_,_,.nil,h=>by cases h;rfl
 | _,_,_,@bQ.cons _ _ _ v vs d ds h t,e => by
  cases d with
  |bl k=>
   cases h;have e:(JM ds).map (λks=>k::ks)=b3 _:=e;cases h2:JM ds with
   |none=>rw[h2]at e;cases e
   |some a=>
    rw[h2]at e;cases e;rw[Yo t h2,Bg]
  |_=>cases e
def Wc(g:List Bool->Bool):cH->Option cH
 |.lst ds=>(JM ds).map λks=>.bl (g ks)
 |_=>b4
abbrev oAll:=Wc λks=>ks.all id
abbrev oAny:=Wc λks=>ks.any id
def Yv{g:List Bool->Bool}:BA K (LA K g) (Wc g):=by
 intro H N M x d c Q b h k;cases d with
 |lst ds=>
  have h:(JM ds).map (λks=>cH.bl (g ks))=b3 c:=h;obtain⟨ks,h1,h⟩:=Aj.mp h;cases h;obtain⟨a,xs,rfl,sq,r⟩:=b.lstE;have:=Yo r h1
  subst this;exact⟨a,ks,rfl,sq,k _ λ_ _ _=>.bl _⟩
 |_=>cases h
def EI:BA K (LA K λks=>ks.all id) oAll:=Yv
def oh:BA K (LA K λks=>ks.any id) oAny:=Yv
noncomputable def WS:List cH->Option (List Int)
 |[]=>b3 []
 |.int i::ds=>(WS ds).map λns=>i::ns
 |_=>b4
theorem UJ{N:Ur->Prop}:∀{xs:List V}{ds:List cH}{ns:List Int},bQ K N H xs ds->WS ds=b3 ns->xs=ns.map V.int
 |_,_,_,.nil,h=>by cases h;rfl
 | _,_,_,@bQ.cons _ _ _ v vs d ds h t,e => by
  cases d with
  |int k=>
   cases h;have e:(WS ds).map (λks=>k::ks)=b3 _:=e;cases h2:WS ds with
   |none=>rw[h2]at e;cases e
   |some a=>
    rw[h2]at e;cases e;rw[UJ t h2,Bg]
  |_=>cases e
theorem LC{N:Ur->Prop}:∀ns:List Int,bQ K N H (ns.map V.int) (ns.map cH.int)
 |[]=>.nil
 |i::ns=>.cons (.int i) (LC ns)
def rngI{a:Int}{n:Nat}{acc:Array Uq}(h:ItemsOf (λi v=>∃t,v=.int (a+i*1) t) acc n):aY ((As n).map λi:Nat=>V.int (a+i)) acc.toList:=by
 obtain⟨h1,h2⟩:=h;have g:∀(m:Nat) (b:List Uq),b.length=m->∀k:Nat,(∀(i:Nat) (v:Uq),b[i]?=b3 v->∃t,v=.int (a+((k+i:Nat):Int)*1) t)->aY ((As m).map λi:Nat=>V.int (a+((k+i:Nat):Int))) b:=by
  intro m;induction m with
  |zero=>intro b hl k _;rw[Gf.mp hl];exact .nil
  |succ m d=>
   intro b hl k c;cases b with
   |nil=>cases hl
   |cons u b=>
    rw[Ix,Bg,Lc];obtain⟨t,f⟩:=c 0 u rfl;refine .cons ⟨t,by rw[f];simp⟩ ?_
    have:=d b (by simpa using hl) (k+1) λi v e=>by obtain⟨t,h⟩:=c (i+1) v (by simpa using e);exact⟨t,by rw[h,show k+(i+1)=k+1+i by lia]⟩
    have e:((λi:Nat=>V.int (a+((k+i:Nat):Int)))∘Nat.succ)=λi:Nat=>V.int (a+((k+1+i:Nat):Int)):=by funext i;simp only[Th,Nat.succ_eq_add_one];rw[show k+(i+1)=k+1+i by lia]
    rw[e];exact this
 have:=g n acc.toList (by simpa using h1) 0 λi v e=>by
  have:=h2 i v (by simpa using e)
  simpa using this
 simpa using this
def DG:Z4 X (.type "range") (λxs H Q=>∃j,xs=[.int j]/\∀p,H p=b4->Q (.ref p) (upd H p (.ext (rngP p 0 j 1)))):=by intro aa s σ H xs us Q I r h;obtain⟨j,rfl,q⟩:=h;obtain⟨u,rfl,t,rfl⟩:=VR r;refine call_range_1 ?_;have b:=I.hok.fresh (Ao s.heap.objs.size);refine⟨.ref s.heap.objs.size,_,I.laid (a:=s.heap.objs.size) (o:=.ext (rngP s.heap.objs.size 0 j 1)) (t':=s.toks+1+1) (λ_ _ z=>Ad _ z) (Ao _) ?_,rfl,q _ b⟩;exact⟨⟨_,_,_,Ui ..⟩,⟨_,An _ rfl⟩,λh1 h2 ⟨t,u,v,z⟩ k=>⟨t,u,v,k _ z⟩⟩
def JP(hc:X.calm=ba):Z4 X (.type "list") (λxs H Q=>∃(p:Ur) (j:Int),xs=[.ref p]/\H p=b3 (.ext (rngP p 0 j 1))/\(0<=j/\j<=16777216)/\∀l,H l=b4->Q (.ref l) (upd H l (.lst ((As j.toNat).map λi:Nat=>V.int (0+i))))):=by
 intro aa s σ H xs y Q I r h;obtain⟨p,j,rfl,m,A,q⟩:=h;obtain⟨u,rfl,g⟩:=VR r;cases g;obtain⟨⟨t,u,v,z⟩,_⟩:=I.hok p _ m;have n:Ih 0 j 1=(j.toNat:Int):=by
  unfold Ih;rw[if_pos (by decide)];split
  ·rw[Int.ediv_one]
   lia
  ·lia
 have d:(2:Int) ^ 62=4611686018427387904:=by decide
 have e:(2:Nat) ^ 24=16777216:=by decide
 have f:Uk 0 j 1=ba:=small_one (a:=0) (b:=j) (by rw[d];decide) (by rw[d];decide) (by rw[d];lia) (by rw[d];lia);refine call_list_range (I.ok.hd hc) z f n (by rw[e];lia) λh' tk acc c kp w x=>?_;have k:=rngI x;refine⟨.ref s.heap.objs.size,_,I.laid (a:=s.heap.objs.size) (o:=.lst ((As j.toNat).map λi:Nat=>V.int (0+i))) (t':=tk) kp (Ao _) ⟨?_,acc.toList,c,k,by simpa using w⟩,rfl,q _ (I.hok.fresh (Ao _))⟩;rw[Bm,Jg,Bv];lia
noncomputable def Q1(f:VF):VF:=λδ=>(f δ).bind λp=>match p.1 with
 |.int j=>if 0<=j/\j<=16777216 then b3 (.lst (YR 0 j.toNat),p.2)else b4
 |_=>b4
def jH{N:Ur->Prop}(lo:Int)(n:Nat):bQ K N H ((As n).map λi:Nat=>V.int (lo+i)) (YR lo n):=by
 unfold YR;induction (As n)with
 |nil=>exact .nil
 |cons x xs a=>exact .cons (.int _) a
def lA{p1 p2 m:Pos}(hc:X.calm=ba)(v:Gl X "list")(t:X.mg "list"=b4)(r:Bo "list"=b3 (.type "list"))(i:Gl X "range")(h:X.mg "range"=b4)(f:Bo "range"=b3 (.type "range"))(w:PE X a (TV K ml pa ta ia fa))(n:SE X a []:=by rfl)(b:Uu (.Call (.Name "range" p2) [a] [] m::[]) X.env=(bb,eval (.Call (.Name "range" p2) [a] [] m) X.env)::Uu [] X.env:=by rfl):PE X (.Call (.Name "list" p1) [.Call (.Name "range" p2) [a] [] m] [] pos) (TN K ml pa (Q1 fa)):=
 (V1 (JP hc) v t r (a9 (V1 DG i h f (a9 w ZP n) (by decide) (by decide) n) ZP b) (by decide) (by decide) b).imp λσ H Q g => by
  obtain⟨B,O,δ,d,δ',S,q,k⟩:=g;unfold Q1 at q;obtain⟨⟨x,δ1⟩,h1,q⟩:=Ac.mp q;cases x with
  |int j=>
   have q:(if 0<=j/\j<=16777216 then b3 (cH.lst (YR 0 j.toNat),δ1)else b4)=b3 (d,δ'):=q;split at q
   ·rename_i u
    cases q;refine⟨B,O,δ,_,_,S,h1,λy H1 c=>?_⟩;have o:=c.rep;cases o.onI;refine⟨j,rfl,λp s=>⟨p,j,rfl,bU,u,λl hl=>?_⟩⟩;have e:aN H1 (upd H1 p (.ext (rngP p 0 j 1))):=b7 s;exact k l _ (mkN (c.sta.same e) (c.frm.trans e.fr) (λz=>(c.pur z).trans e) hl (jH 0 j.toNat))
   ·cases q
  |_=>cases q
end
section
variable{X:Cx}{K:Ai}{ml:List Nat}{e a b c:Ux}{es:List Ux}{pa ta ia pb tb ib pc tc ic pu bt bi ps bs:Bool}{fa fb fc f:VF}{B B':Bs}{O:Nat->Option Ur}{H H0 H1 H':Hp}{σ:St}{δ δ':Ev}{v:V}{d:cH}{p:Ur}{pos:Pos}
noncomputable def T4(n:Int):List Int->Option Nat
 |[]=>b4
 |i::ns=>if i=n then b3 0 else(T4 n ns).map (· +1)
theorem IJ{n:Int}:∀{ns:List Int}{j:Nat},T4 n ns=b3 j->ns[j]?=b3 n/\∀m,m<j->ns[m]? ≠b3 n
 |[],_,h=>by cases h
 | i :: ns,j,h => by
  unfold T4 at h;split at h
  ·rename_i hi
   cases h;exact⟨by rw[hi];rfl,λm a=>absurd a (Nc _)⟩
  ·rename_i hi
   obtain⟨k,h1,h⟩:=Aj.mp h;cases h;obtain⟨h2,b⟩:=IJ h1;refine⟨by simpa using h2,λm a=>?_⟩;cases m with
   |zero=>simpa using hi
   |succ m=>simpa using b m (Mp a)
def ET{ns:List Int}{a:List Uq}(r:aY (ns.map V.int) a){m:Nat}{u:Uq}(h:a[m]?=b3 u):∃i t,ns[m]?=b3 i/\u=.int i t:=by
 have hl:=r.length;rw[Bm]at hl;have b:m<a.length:=(Ah.mp h).1;have e:(ns.map V.int)[m]?=b3 (.int ns[m]):=by simp[hl▸b]
 obtain⟨f,c,t,d⟩:=r.get e;rw[h]at c;cases c;exact⟨ns[m],t,by simp[hl▸b],d⟩
noncomputable def KS(n:Int):Uq->Bool
 |.int i _=>i==n
 |_=>bb
def Zy{ns:List Int}{a:List Uq}{n:Int}{j:Nat}(r:aY (ns.map V.int) a)(h:T4 n ns=b3 j):∃f:j<a.toArray.size,KS n a.toArray[j]=ba/\(∀m (b:m<a.toArray.size),m<j->KS n a.toArray[m]=bb):=by
 obtain⟨h1,h2⟩:=IJ h;have hl:=r.length;rw[Bm]at hl;have f:j<ns.length:=(Ah.mp h1).1;have at_:∀(m:Nat) (b:m<a.toArray.size),∃i t,ns[m]?=b3 i/\a.toArray[m]=.int i t:=λm b=>by
  have e:m<a.length:=by simpa using b
  exact ET r (u:=a.toArray[m]) (by simp[e])
 refine⟨by simpa[<-hl]using f,?_,λm b d=>?_⟩
 ·obtain ⟨i,t',c,g⟩ := at_ j (by simpa [<- hl]using f)
  rw[h1]at c;cases c;rw[g];simp[KS]
 ·obtain⟨i,t',c,g⟩:=at_ m b
  have:=h2 m d
  rw[c]at this;rw[g];exact beq_eq_false_iff_ne.mpr λz=>this (by rw[z])
def Xh{ns:List Int}{a:List Uq}(r:aY (ns.map V.int) a){y:Uq}(c:y∈a.toArray):∃i t,y=.int i t:=by
 obtain⟨m,d,rfl⟩:=Array.mem_iff_getElem.mp c;have b:m<a.length:=by simpa using d
 obtain⟨i,t,_,e⟩:=ET r (m:=m) (u:=a.toArray[m]) (by simp[b]);exact⟨i,t,e⟩
def cQ(K:Ai):V->List V->Hp->VK->Prop:=λx vs H Q=>∃(l:Ur) (ns:List Int) (n:Int) (j:Nat),x=.ref l/\vs=[.int n]/\XR K H l (ns.map V.int)/\T4 n ns=b3 j/\Q (.int j) H
def kz:MtM X "list.index" (cQ X.K):=by
 intro aa s σ H x vs v z Q I g k h;obtain⟨l,ns,n,j,rfl,rfl,p,w,q⟩:=h;cases g;obtain⟨u,rfl,t,rfl⟩:=k.one;obtain⟨a,r,⟨o,c,e,hc,d,f⟩,hz⟩:=I.list p;obtain⟨cls,dd,data,sl⟩:=o;simp only at hc d f;subst hc d f;obtain⟨b,h1,h2⟩:=Zy r w;have hl:=r.length;refine Ga Qj ⟨_,e,rfl⟩ Pf (Oo _ _) (Pg l a.toArray c b4 sl (.int n t) (KS n) j b (by
  have B:a.length<=16777216:=by rw[<-hl,<-Bv];exact hz
  have A:j<a.length:=by simpa using b
  lia) h1 h2) ⟨e,?_,?_⟩
 ·intro y m
  obtain⟨i,t',rfl⟩:=Xh r m;exact SeqAt.EqAt.int_int i t' n t
 ·exact⟨.int j,H,I.tok _,⟨_,rfl⟩,q⟩
def eO(h:X.K=K:=by rfl):MtM X "list.index" (cQ K):=by subst h;exact kz
def B9:cH->cH->Option cH
 |.lst ds,.int n=>(WS ds).bind λns=>(T4 n ns).map λj=>.int j
 |_,_=>b4
def iM{aj af:Pos}(m:X.K=K)(u:PE X a (TV K ml pa ta ia fa))(t:PE X b (TV K ml pb tb ib fb))(C:Ff a "index" X.env (eval a X.env)=eval a X.env:=by rfl)(A:((Dx af (Uu (b::[]) X.env)).all (λx=> !x.1)&&(Ho af (Fb [] X.env)).all (λx=>x.1.isSome)&&decide ((b::([]:List Ux)).length+([]:List Hr).length+(if([]:List Hr).isEmpty then 0 else 1)<30))=ba:=by rfl)(D:(aj.endLine==af.line)=ba:=by rfl)(i:SE X b []:=by rfl)(E:(Dx af (Uu [] X.env)).any (·.1)=bb:=by rfl)(hl:(pb || (ta&&ia))=ba:=by rfl):PE X (.Call (.Attribute a "index" aj) [b] [] af) (TV K ml (pa&&pb) ba ba (f2 B9 fa fb)):=
 (kBm (K := K) m Ge Me Mf (eO m) u (a9 t ZP i) C A D i E).imp λσ H Q g => by
  obtain⟨B,O,δ,d,δ2,S,q,k⟩:=g;obtain⟨x,δ1,y,h1,h2,c⟩:=PY q;refine⟨B,O,δ,x,δ1,S,h1,λG H1 e=>?_⟩;cases x with
  |lst ds=>
   cases y with
   |int n=>
    have c:((WS ds).bind λns=>(T4 n ns).map λj=>cH.int j)=b3 d:=c;obtain⟨ns,v,c⟩:=Ac.mp c;have c:(T4 n ns).map (λj=>cH.int j)=b3 d:=c;cases h:T4 n ns with
    |none=>rw[h]at c;cases c
    |some j=>
     rw[h]at c;cases c;obtain⟨l,xs,rfl,sq,_⟩:=e.rep.lstE;refine⟨.inl ⟨rfl,xs,sq⟩,B,O,δ1,_,δ2,e.sta,h2,λF H2 R2=>?_⟩;have s:=R2.rep;cases s.onI;obtain⟨I,r,w,f,r'⟩:=(R2.live hl e.rep).lstE;cases w;have:=UJ r' v
     subst this;exact⟨l,ns,n,j,rfl,rfl,f,h,k _ H2 ⟨R2.sta,e.frm.trans R2.frm,λz=>by obtain⟨p,o⟩:=(Af _ _).mp z;exact(e.pur p).trans (R2.pur o),.int _⟩⟩
   |_=>cases c
  |_=>cases c
def AG:V->List V->Hp->VK->Prop:=λx vs H Q=>∃(l:Ur) (ns:List Int) (n:Int) (j:Nat),x=.ref l/\vs=[.int n]/\H l=b3 (.lst (ns.map V.int))/\T4 n ns=b3 j/\Q .non (upd H l (.lst ((ns.eraseIdx j).map V.int)))
theorem HP{α β:Type}(g:α->β):∀(l:List α) (j:Nat),(l.map g).eraseIdx j=(l.eraseIdx j).map g
 |[],_=>by simp
 |_::_,0=>by simp
 |x::l,j+1=>by simp[HP g l j]
def nZ:MtM X "list.remove" AG:=by
 intro aa s σ H x vs v p Q I g k h;obtain⟨l,ns,n,j,rfl,rfl,f,o,q⟩:=h;cases g;obtain⟨u,rfl,t,rfl⟩:=k.one;obtain⟨z,a,c,r,hl,e⟩:=I.lstM f;obtain⟨b,h1,h2⟩:=Zy r o;refine Ga F.slot_list_remove ⟨_,e,rfl⟩ F.entry_list_remove (F.args_list_remove_2 _ _) (MeetsSeq.list_remove l a.toArray c (.int n t) (KS n) (λy m=>?_) j b h1 h2 (by rw[Am,<-hl];exact z)) ⟨e,?_⟩
 ·obtain⟨i,t',rfl⟩:=Xh r m
  exact Uf i n t' t
 ·have d : j < a.length := by simpa using b
  refine⟨.non,_,I.lset (its':=a.eraseIdx j) f e (by simp[Array.eraseIdxIfInBounds,d]) (ys:=(ns.eraseIdx j).map V.int) ?_ ?_,rfl,q⟩
  ·have:=aY.eraseIdx j r
   rwa[HP]at this
  ·rw[Bm]
   have h1:=List.length_eraseIdx_le ns j;rw[Bm]at z;lia
def mRem:List cH->List cH->Option (List cH)
 |ds,[.int n]=>(WS ds).bind λns=>(T4 n ns).map λj=>(ns.eraseIdx j).map cH.int
 |_,_=>b4
def kU:MuV K AG mRem:=by
 intro H N l xs vs ds es a Q hl i b c h k;cases c with
 |nil=>cases h
 | @cons v vs d es e t=>
  cases t with
  |cons _ _=>cases d<;>cases h
  |nil=>
   cases d with
   |int n=>
    cases e;have h:((WS ds).bind λns=>(T4 n ns).map λj=>(ns.eraseIdx j).map cH.int)=b3 a:=h;obtain⟨ns,g,h⟩:=Ac.mp h;have h:(T4 n ns).map (λj=>(ns.eraseIdx j).map cH.int)=b3 a:=h;obtain⟨j,f,h⟩:=Aj.mp h;cases h;have:=UJ b g
    subst this;exact⟨l,ns,n,j,rfl,rfl,hl,f,k _ _ (LC _)⟩
   |_=>cases h
end
section
variable{X:Cx}{K:Ai}{ml:List Nat}{e:Ux}{es:List Ux}{pu bt bi bs:Bool}{f:VF}{fs:MC}
def b6(h:PE X e (TV K ml pu bt bi f))(a:(bt&&bi)=ba:=by rfl):PE X e (TV K ml pu ba ba f):=by obtain⟨h1,h2⟩:=(Af _ _).mp a;subst h1 h2;exact h
def EW(h:PE X e (TV K ml pu bt bi f))(a:bi=ba:=by rfl):PE X e (TV K ml pu bt ba f):=by subst a;exact h
def bK(h:PA X es (TAV K ml pu bs fs))(a:bs=ba:=by rfl):PA X es (TAV K ml pu ba fs):=by subst a;exact h
def VU{st:Vd}:PS X st (WG K ml λ_=>b4):=λ_ _ _ _ _ _ ⟨_,_,_,_,_,q,_⟩=>nomatch q
variable{a b c:Ux}{pa ta ia pb tb ib pc tc ic:Bool}{fa fb fc:VF}{pos:Pos}{δ:Ev}
end
section
variable{X:Cx}{K:Ai}{ml:List Nat}{e a b c:Ux}{pa ta ia pb tb ib pu:Bool}{fa fb fc f:VF}{B:Bs}{O:Nat->Option Ur}{H H':Hp}{σ:St}{δ δ':Ev}{v:V}{d:cH}{p:Ur}{pos:Pos}{ks:List (Option Ux)}{vs:List Ux}
theorem IB:∀{more acc:List (Z5×V)},((acc++more).map Bw).Nodup->KY acc more=acc++more
 |[],acc,_=>by simp[KY]
 |(k,v)::more,acc,a=>by
  have d:∀q∈acc,q.1≠k:=λq b z=>by rw[Cu,Bg]at a;exact(Lo.mp a).2.2 q.1 (Op b) k (by simp) z
  have c:UV acc k=b4:=by unfold UV;rw[List.find?_eq_none.mpr λq b=>by simpa using d q b];rfl
  show KY (X8 acc k v) more=_;rw[gU v c,IB (by simpa using a)];simp
end
theorem PQ:∀(names:List (Uv×Vh)) (n:Nat) (acc:List (Uv×Ur)),Vg n names acc=Vg n names []++acc
 |[],_,_=>rfl
 | (x,k) :: r,n,acc => by
  unfold Vg;split
  ·rw[PQ r (n+1) ((x,n)::acc),PQ r (n+1) [(x,n)]]
   simp
  ·exact PQ r n acc
theorem BM:∀{names:List (Uv×Vh)}{n:Nat}{x:Uv}{c:Ur},(x,c)∈Vg n names []->(x,Ck)∈names
 |[],_,_,_,h=>nomatch h
 | (y,k) :: r,n,x,c,h => by
  unfold Vg at h;split at h
  ·rename_i a
   rw[PQ]at h;rcases Db.mp h with h|h
   ·exact Aq _ (BM h)
   ·cases Aw.mp h
    rw[show k=Ck from beq_iff_eq.mp a];exact At
  ·exact Aq _ (BM h)
theorem BL:∀{names:List (Uv×Vh)}{n:Nat}{x:Uv},(x,Ck)∈names->∃c,(x,c)∈Vg n names []
 | (y,k) :: r,n,x,h => by
  unfold Vg;rcases Al.mp h with e|h
  ·cases e
   rw[if_pos (by decide),PQ];exact⟨n,Be _ (Aw.mpr rfl)⟩
  ·split
   ·rw[PQ]
    obtain⟨c,hc⟩:=BL (n:=n+1) h;exact⟨c,Bf _ hc⟩
   ·exact BL h
theorem KW:∀{l:List (Uv×Ur)}{x:Uv}{c:Ur},(x,c)∈l->∃b,l.lookup x=b3 b
 | (y,d) :: r,x,c,h => by
  rw[Co];cases a:x==y with
  |true=>exact⟨d,rfl⟩
  |false=>
   rcases Al.mp h with e|h
   ·cases e
    simp at a
   ·exact KW h
theorem YB:∀{l m:List (Uv×Ur)}{x:Uv}{c:Ur},(l++m).lookup x=b3 c->l.lookup x=b3 c∨(l.lookup x=b4/\m.lookup x=b3 c)
 |[],_,_,_,h=>.inr ⟨rfl,h⟩
 |(y,d)::r,m,x,c,h=>by
  rw[Jv,Co]at h;rw[Co];cases a:x==y with
  |true=>rw[a]at h;exact .inl h
  |false=>rw[a]at h;exact YB h
theorem PP:∀{l m:List (Uv×Ur)}{x:Uv},l.lookup x=b4->(l++m).lookup x=m.lookup x
 |[],_,_,_=>rfl
 |(y,d)::r,m,x,h=>by
  rw[Co]at h;rw[Jv,Co];cases a:x==y with
  |true=>rw[a]at h;cases h
  |false=>rw[a]at h;exact PP h
def D3{M:Vl}{A:Bz}{E:Uq->Ae->Prop}{s:Ae}{scope:Vf}{globals:Ur}{c:List (Uv×Ur)}{qual:Uv}{outer:Env}{Q:Env->Ae->Prop}(d:Q (newEnv scope s.heap.objs.size globals (Vg (s.heap.objs.size+1) scope.names c) qual b4 .none (b3 outer) builtinsNs) {s with heap:=Sg (s.heap.push {cls:=.type "dict",data:=.dict #[]}) scope.names}):Us M A (Ob scope globals c [] qual b4 .none (b3 outer)) Q E s:=by simp only[Ob,Pd,if_true];refine Aa (wpAny_alloc ?_);refine Aa (wpAny_layCells _ (λname kind b=>by cases a:kind==Ck<;>simp[a]) _ _ _ _ ?_);rw[show({s with heap:=s.heap.push {cls:=.type "dict",data:=.dict #[]}}:Ae).heap.objs.size=s.heap.objs.size+1 from Dq ..];rw[Oa];exact Aa (Ag (Ag d))
theorem RU:∀{l m:List (Uv×Ur)}{x:Uv}{c:Ur},l.lookup x=b3 c->(l++m).lookup x=b3 c
 |(y,d)::r,m,x,c,h=>by
  rw[Co]at h;rw[Jv,Co];cases a:x==y with
  |true=>rw[a]at h;exact h
  |false=>rw[a]at h;exact RU h
structure N0(X:Cx)(N':List Uv)(ix:List Nat)(scope:Vf):Prop where
 kind:scope.kind=.function
 cel:∀y∈scope.names,y.2=.cell->scope.names.lookup y.1=b3 .cell
 names:∀y∈scope.names,y.2=.local->scope.names.lookup y.1=b3 .local
 free:∀y∈scope.names,y.2=.free->X.env.kindOf y.1=b3 .cell∨X.env.kindOf y.1=b3 .free
 nd:N'.Nodup
 cap:∀j,j<ix.length->N'[j]?=(ix[j]?).bind λi=>X.N[i]?
 capf:∀x∈N'.take ix.length,scope.names.lookup x=b3 .free
noncomputable def Z8(X:Cx)(N':List Uv)(scope:Vf)(cl:List (Uv×Ur))(s1:Ae)(H1:Hp)(fp:List Ur):Cx:=
 {X with N:=N',s₀:=s1,H₀:=H1,env:=compEnvC scope cl s1.heap.objs.size X.env,outer:=X.stack,stack:=X.stack,ex:=fp,fn:=λx=>scope.names.lookup x==b3 Ck,pn:=[],xe:=λ_ _=>False}
theorem T5{env:Env}{x:Uv}:∀{l:List (Uv×Vh)},((l.map λ(n,k)=>if(k==Bu&&env.scope.kind== .function&&env.kindOf n==b3 .cell)then(n,Ck)else(n,k)).lookup x=b3 .cell∨(l.map λ(n,k)=>if(k==Bu&&env.scope.kind== .function&&env.kindOf n==b3 .cell)then(n,Ck)else(n,k)).lookup x=b3 .free)->(x,Bu)∈l∨(x,Ck)∈l
 |[],h=>by rcases h with z|z<;>cases z
 | (n,k) :: r,h => by
  have h:Hs x ((if(k==Bu&&env.scope.kind== .function&&env.kindOf n==b3 .cell)=ba then(n,Ck)else(n,k))::r.map λ(n,k)=>if(k==Bu&&env.scope.kind== .function&&env.kindOf n==b3 .cell)then(n,Ck)else(n,k))=b3 .cell∨
   Hs x ((if(k==Bu&&env.scope.kind== .function&&env.kindOf n==b3 .cell)=ba then(n,Ck)else(n,k))::r.map λ(n,k)=>if(k==Bu&&env.scope.kind== .function&&env.kindOf n==b3 .cell)then(n,Ck)else(n,k))=b3 .free:=h
  by_cases hc:(k==Bu&&env.scope.kind== .function&&env.kindOf n==b3 .cell)=ba
  ·rw[if_pos hc]at h
   by_cases a:x=n
   ·subst a
    have c:k=.free:=by simp only[Af]at hc;exact beq_iff_eq.mp hc.1.1
    subst c;exact .inl At
   ·have b:(x==n)=bb:=beq_eq_false_iff_ne.mpr a
    simp only[Co,b]at h;rcases T5 (env:=env) h with z|z
    ·exact .inl (Aq _ z)
    ·exact .inr (Aq _ z)
  ·rw[if_neg hc]at h
   by_cases a:x=n
   ·subst a
    rw[Eh]at h;rcases h with z|z
    ·cases z;exact .inr At
    ·cases z;exact .inl At
   ·have b:(x==n)=bb:=beq_eq_false_iff_ne.mpr a
    simp only[Co,b]at h;rcases T5 (env:=env) h with z|z
    ·exact .inl (Aq _ z)
    ·exact .inr (Aq _ z)
noncomputable def Wv(p:Pos)(tg:Ux)(ifs:List Ux)(em:Vk Unit)(e:Ux)(lv:Nat)(it acc:Uq)(env:Env):Vk Ph:=do
 Ly p
 match<-pyNext it with
 |none=>pure (.done .next)
 |some v=>
  Go tg it v
  Gg tg env v
  let mut ok:=ba
  for c in ifs do
   if ok then ok<-isTrue c env (eval c env)
  if ok then em
  Ul (.compLoop e lv it acc env)
structure JI(e:Ux)(lv:Nat)(tg:Ux)(ifs:List Ux)(em:Vk Unit)(acc:Uq)(env:Env):Prop where
 turn:∃p,∀it,compTurn e lv it acc env=Wv p tg ifs em e lv it acc env
 den:∀(prog:Av) (w:Uy) (A:Bz) (it:Uq) (Q:Ph->Ae->Prop) (E:Uq->Ae->Prop) (s:Ae),Us (Ut prog w) A ((compTurn e lv it acc env).onRaise (λx=>do Sh x env;theTreesLotGoes x)) Q E s->Us (Ut prog w) (A.under (.compLoop e lv it acc env)) ((Ut prog w).den (.compLoop e lv it acc env)) Q E s
 dens:∀(prog:Av) (w:Uy) (A:Bz) (it:Uq) (Q:Ph->Ae->Prop) (E:Uq->Ae->Prop) (s:Ae),Us (Ut prog w) A ((compStart e lv it acc env).onRaise (λx=>do Sh x env;Ly theWindowsPlace)) Q E s->Us (Ut prog w) (A.under (.compStart e lv it acc env)) ((Ut prog w).den (.compStart e lv it acc env)) Q E s
 quiet:∀it,(Code.compLoop e lv it acc env).quiet=ba
 cl:∃g,(clausesOf e)[lv]?=b3 g/\g.is_async=0
section
variable{prog:Av}{w:Uy}{A:Bz}{s:Ae}{e tg:Ux}{lv:Nat}{ifs:List Ux}{em:Vk Unit}{it acc:Uq}{env:Env}{R:Tv->Ae->Prop}
def cM(L:JI e lv tg ifs em acc env)(I:Nat->Ae->Prop)(turn:∀n s,I n s->Us (Ut prog w) A (pyNext it) (λr b=>match r with
   |none=>R (.ok .next) b
   | some v => Us (Ut prog w) A (Go tg it v) (λ_ s₀ => Us (Ut prog w) A (Gg tg env v) (λ_ f =>
     Us (Ut prog w) A (forIn ifs ba λc r=>if r=ba then do let ok<-isTrue c env (eval c env);pure (Fi ok)else pure (Fi r)) (λok a=>if ok=ba then
      Us (Ut prog w) A em (λ_ d=>∃m,m<n/\I m d) (λ_ _=>False) a else∃m,m<n/\I m a) (λ_ _=>False) f)
     (λ_ _=>False) s₀) (λ_ _=>False) b) (λ_ _=>False) s)
  (n:Nat) (h:I n s):Hj (Ut prog w) A (.compLoop e lv it acc env) R s:=by
 refine codeAny_loop (L.quiet it) I (λn s t=>L.den _ _ _ _ _ _ _ (wpAny_noted ?_)) n h;obtain⟨p,q⟩:=L.turn;rw[q];refine Aa (Dz (Aa (Ax (turn n s t) (λr b i=>?_) λ_ _ h'=>h'.elim)));cases r with
 |none=>exact Ag i
 |some v=>
  refine Aa (Ax i (λ_ s₀ j=>?_) λ_ _ h'=>h'.elim);refine Aa (Ax j (λ_ f l=>?_) λ_ _ h'=>h'.elim);refine Aa (Ax l (λo a g=>?_) λ_ _ h'=>h'.elim);cases o with
  |false=>exact Ag ⟨rfl,g⟩
  |true=>exact Aa (Ax g (λ_ d k=>Ag ⟨rfl,k⟩) λ_ _ h'=>h'.elim)
def dH(L:JI e lv tg ifs em acc env)(f:Hj (Ut prog w) A (.compLoop e lv it acc env) R s)(h:Us (Ut prog w) A (Rz it) (λa s'=>Hj (Ut prog w) A (.compLoop e lv a acc env) R s') (notedBy (Ut prog w) A env λx s'=>R (.error x) s') s):Hj (Ut prog w) A (.compStart e lv it acc env) R s:=by
 refine codeAny_of_tree (L.dens _ _ _ _ _ _ _ (wpAny_notedAt ?_));obtain⟨g,c,d⟩:=L.cl;have b:=L.quiet;unfold compStart;simp only[c,Option.elim_some,d,bne_self_eq_false,El,if_false];refine Aa (wpAny_askSetting (wpAny_ite ?_));split
 ·exact Aa (Ag (Ag ⟨b _,f⟩))
 ·exact Aa (Jb (Aa (Dz (Aa (Ax h (λa s' h'=>Ag ⟨b _,h'⟩) λ_ _ x=>x)))))
end
def PM(Y:Cx)(em:Vk Unit)(tm:TM):Prop:=∀(aa:List (Ur×Ve)) (s:Ae) (σ:St) (H:Hp) (N:St->Hp->Prop),bS Y aa σ H s->tm σ H N->Us (Ut Y.prog Y.w) Y.A em (λ_ s'=>∃a H',bS Y aa a H' s'/\N a H') (λ_ _=>False) s
structure BlkG(Y:Cx)(e:Ux)(tg:Ux)(ifs:List Ux)(g:TG)(tt:TT)(tm:Ur->TM):Prop where
 pg:PG Y tg g
 ts:PTs Y ifs tt
 em:∀D,∃em,JI e 0 tg ifs em (.ref D) Y.env/\PM Y em (tm D)
def PU{X:Cx}{aa:List (Ur×Ve)}{σ:St}{H2:Hp}{s2:Ae}{E:Uq->Ae->Prop}{e tg:Ux}{ifs:List Ux}{scope:Vf}{N':List Uv}{ix:List Nat}{nl:Nat}{g:TG}{tt:TT}{tm:Ur->TM}{mkA:Vk Uq}{ob:Ve}{o0:HO}{cl:List (Uv×Ur)}{J:It}{fp:List Ur}{it:Ur}{tn:Nat->Vb->Prop}{Q:V->Hp->Prop}{RR:Uq->Ur->Tv->Ae->Prop}(hmk:∀{Q:Uq->Ae->Prop},Q (.ref s2.heap.objs.size) {s2 with heap:=s2.heap.push ob}->Us (Ut X.prog X.w) X.A mkA Q E s2)(hob:ZV X.prog X.w (upd H2 s2.heap.objs.size o0) (s2.heap.push ob) s2.heap.objs.size o0)(hc:X.calm=ba)(S:N0 X N' ix scope)(hnl:N'.length=ix.length+nl)(cv:∀x c,cl.lookup x=b3 c->X.env.cells.lookup x=b3 c)(gn:∀x,(x,Bu)∈scope.names->∃c,cl.lookup x=b3 c)(blk:∀(cl:List (Uv×Ur)) (s1:Ae) (H1:Hp) (fp:List Ur),BlkG (Z8 X N' scope cl s1 H1 fp) e tg ifs g tt tm)(I2:bS X aa σ H2 s2)(T:BF X.prog X.w X.K tg J fp it tn)(st2:tn 0 s2.heap)(f2:∀b∈fp,J1 X aa H2 b)(h:∀D,H2 D=b4->G7 D o0 ix nl J g tt tm σ H2 λH'=>Q (.ref D) H')(fin:∀(D C:Ur) (s':Ae) (H':Hp),bS X aa σ H' s'->(∃m,s'.heap.Ns C m)->C≠X.env.locals->(∀x c,X.env.cells.lookup x=b3 c->c≠C)->(∀(s:St) (U:Ae) (h'':Vb),bS X aa s H' U->Es C U.heap h''->bS X aa s H' {U with heap:=h''})->Q (.ref D) H'->RR (.ref D) C (.ok .next) s'):Us (Ut X.prog X.w) X.A mkA (λacc B=>Us (Ut X.prog X.w) X.A (Ob scope X.env.globals cl [] X.env.qual b4 .none (b3 X.env)) (λh9 s₄=>Hj (Ut X.prog X.w) X.A (.compStart e 0 (.ref it) acc {h9 with scope:=relabel scope X.env}) (RR acc h9.locals) s₄) E B) E s2:=by
 refine hmk (D3 ?_);dsimp only;have k:bS X aa σ (upd H2 s2.heap.objs.size o0) {s2 with heap:=s2.heap.push ob}:=
  I2.laid (a:=s2.heap.objs.size) (o:=o0) (t':=s2.toks) (λ_ _ q=>Ad _ q) (Ao _) hob
 have hDn:H2 s2.heap.objs.size=b4:=I2.hok.fresh (Ao _);obtain⟨W,m0,w0,turn⟩:=h _ hDn;generalize hs1:({s2 with heap:=s2.heap.push ob}:Ae)=s1 at k;have dg:s2.heap.push ob=s1.heap:=by rw[<-hs1]
 rw[dg];have I:∀b o,s1.heap.get? b=b3 o->(Sg (s1.heap.push {cls:=.type "dict",data:=.dict #[]}) scope.names).get? b=b3 o:=λb o e=>pushCells_keeps _ _ _ _ (Ad _ e);have H:(Sg (s1.heap.push {cls:=.type "dict",data:=.dict #[]}) scope.names).Ns s1.heap.objs.size (λ_=>b4):=(Heap.Ns.new s1.heap (.type "dict")).keeps λb o e=>pushCells_keeps _ _ _ _ e;have M:=cellsFrom_ok scope.names (s1.heap.push {cls:=.type "dict",data:=.dict #[]}) (s1.heap.objs.size+1) [] ⟨λ_ _ hm=>(nomatch hm),Qd⟩ (by rw[Dq];exact Ao _);rw[Dq]at M;generalize hz1:Sg (s1.heap.push {cls:=.type "dict",data:=.dict #[]}) scope.names=F at I H M;rw[PQ];generalize hnc:Vg (s1.heap.objs.size+1) scope.names []=t at M;have G:∀x c,t.lookup x=b3 c->(x,Ck)∈scope.names/\F.IsCell c b4/\s1.heap.objs.size+1<=c:=λx c e=>by have hm:=Di e;exact⟨BM (n:=s1.heap.objs.size+1) (by rw[hnc];exact hm),M.empty x c hm⟩
 have nch:∀x,(x,Ck)∈scope.names->∃c,t.lookup x=b3 c:=λx h=>by obtain⟨c,hc⟩:=BL (n:=s1.heap.objs.size+1) h;rw[hnc]at hc;exact KW hc
 have f8:∀b∈fp,b<s2.heap.objs.size:=λb f=>by obtain⟨o,e,_⟩:=T.obj _ _ st2 b f;exact Ak e
 have gb:s1.heap.objs.size=s2.heap.objs.size+1:=by rw[<-dg,Dq]
 have i3:∀b o,s2.heap.get? b=b3 o->s1.heap.get? b=b3 o:=λb o e=>by rw[<-dg];exact Ad _ e
 have dm:∀x c,cl.lookup x=b3 c->c<s1.heap.objs.size:=λx c e=>by obtain⟨v,q⟩:=k.cell x c (cv x c e);exact q.lt
 have jf:∀b∈SM X.stack,b<s1.heap.objs.size:=λb f=>by obtain⟨_,o,ho,_⟩:=(k.stack).mem f;exact Ak ho
 have Y:(Z8 X N' scope (t++cl) s1 (upd H2 s2.heap.objs.size o0) fp).Ok:=by
  refine⟨k.ok.mod,S.kind,k.ok.glob,k.ok.blt,Ao _,λx y c e1 P=>?_,λx hx=>?_,λx c hf e=>?_,k.ok.hd,k.ok.frames,.inl rfl,λb f=>⟨?_,λx c e=>?_⟩,λb o e=>?_,Dw k.ok.bsz k.sz,λb o e f=>?_,λb f hb2=>?_,k.stack,k.stkFree⟩
  ·rcases YB e1 with n1|⟨_,o1⟩
   ·rcases YB P with n2|⟨_,o2⟩
    ·exact PySem.name_of_addr M.apart (Di n1) (Di n2)
    ·exact absurd (Bb (dm y c o2) (Jj (G x c n1).2.2)) (Ci _)
   ·rcases YB P with n2|⟨_,o2⟩
    ·exact absurd (Bb (dm x c o1) (Jj (G y c n2).2.2)) (Ci _)
    ·exact k.ok.inj x y c (cv x c o1) (cv y c o2)
  ·cases q:t.lookup x with
   |some c=>exact⟨c,RU q⟩
   |none=>
    rcases T5 hx with h|h
    ·obtain⟨c,hc⟩:=gn x h
     exact⟨c,(PP q).trans hc⟩
    ·obtain⟨c,hc⟩:=nch x h
     rw[q]at hc;cases hc
  ·have hx:(x,Ck)∈scope.names:=Di (beq_iff_eq.mp hf)
   obtain⟨c',O⟩:=nch x hx;have:=RU (m:=cl) O
   have e:(t++cl).lookup x=b3 c:=e;rw[this]at e;cases e;exact Jj (G x c O).2.2
  ·exact Au (Bb (f8 b f) (by show s2.heap.objs.size<=s1.heap.objs.size;rw[gb];exact Gr _))
  ·rcases YB e with n1|⟨_,o1⟩
   ·have h1:=f8 b f
    have h2:=(G x c n1).2.2;rw[gb]at h2;exact λz=>absurd (z▸h2) (Nat.not_le_of_lt (Bb h1 (Dw (Gr _) (Gr _))))
   ·exact(f2 b f).2.2.2.2.1 x c (cv x c o1)
  ·exact k.bs b o e
  ·have:=(f2 b f)
   obtain⟨o',e',_⟩:=T.obj _ _ st2 b f;have hlt:=Bb (Ak e) k.ok.bsz;rcases this.2.2.2.1 with z|z
   ·exact k.ok.noex b o e z
   ·exact absurd (Bb hlt z) (Ci _)
  ·rcases Al.mp (k.stkSub b hb2)with z|z
   ·exact(f2 b f).2.1 z
   ·exact(f2 b f).2.2.1 z
 have eg:(YV ix σ++Az nl b4).length=N'.length:=by rw[Cc,Mt,hnl];simp[YV]
 have IY:bS (Z8 X N' scope (t++cl) s1 (upd H2 s2.heap.objs.size o0) fp) [] (YV ix σ++Az nl b4) (upd H2 s2.heap.objs.size o0) {s2 with heap:=F}:=by
  refine⟨Y,?_,I2.bare,Un.kept I,⟨_,H,λj x v e1 P e3=>?_⟩,λx c e=>?_,k.hok.fresh (Ao _),λx c e=>?_,λp hp=>absurd (show p∈([]:List (Ur×Ve)) from hp) (by simp),k.hok.kept I,eg⟩
  ·show s2.os=s1.os
   rw[<-hs1]
  ·have Z:j<ix.length:=by
    by_cases Z:j<ix.length
    ·exact Z
    ·exfalso
     have hl:(YV ix σ).length=ix.length:=by simp[YV]
     rw[Du (by rw[hl];lia),Dt]at P;split at P<;>cases P
   have hl:(YV ix σ).length=ix.length:=by simp[YV]
   rw[Ar (by rw[hl];exact Z)]at P;have hci:=S.cap j Z;obtain⟨i,hi⟩:∃i,ix[j]?=b3 i:=⟨ix[j],by simp[Z]⟩;rw[hi]at hci;have hNi:X.N[i]?=b3 x:=by
    have:N'[j]?=X.N[i]? :=hci
    rw[<-this];exact e1
   have hσ:σ[i]?=b3 (b3 v):=by
    unfold YV at P;rw[Bt,hi]at P;have e2':(σ[i]?).join=b3 v:=by simpa using P
    cases q:σ[i]? with
    |none=>rw[q]at e2';cases e2'
    |some o=>rw[q]at e2';rw[show o=b3 v from e2']
   have hfl:scope.names.lookup x=b3 .free:=S.capf x (by rw[Js];exact⟨j,by rw[Dr Z];exact e1⟩)
   have bu:(x,Bu)∈scope.names:=Di hfl;have hpk:X.env.kindOf x=b3 .cell∨X.env.kindOf x=b3 .free:=by exact S.free (x,.free) bu rfl
   have ig:Vis X.env.scope x:=by
    rcases hpk with z|z
    ·exact .inr (.inl z)
    ·exact .inr (.inr z)
   obtain⟨m,hn,j3⟩:=k.loc;obtain⟨u,ru,l⟩:=j3 i x v hNi hσ ig;refine⟨u,ru,?_⟩;rcases l with⟨hk,_⟩|⟨hk,c,ec,z⟩
   ·rcases hpk with q|q<;>rw[hk]at q<;>cases q
   ·obtain⟨c',O⟩:=gn x bu
    have:c'=c:=by
     have:=cv x c' O
     rw[ec]at this;exact(Cq this).symm
    subst this;have iq:t.lookup x=b4:=by
     cases q:t.lookup x with
     |none=>rfl
     |some d=>
      have:=S.cel (x,.cell) (G x d q).1 rfl
      rw[hfl]at this;cases this
    refine .inr ⟨O0 hfl,c',(PP iq).trans O,?_⟩
    ·obtain⟨o,ho,hd⟩:=z
     exact⟨o,I _ _ ho,hd⟩
  ·rcases YB e with n1|⟨_,o1⟩
   ·exact⟨b4,(G x c n1).2.1⟩
   ·obtain⟨v,o,ho,hd⟩:=k.cell x c (cv x c o1)
    exact⟨v,o,I _ _ ho,hd⟩
  ·rcases YB e with n1|⟨_,o1⟩
   ·exact k.hok.fresh (Jj (G x c n1).2.2)
   ·exact k.freeC x c (cv x c o1)
 have back:∀{pY:List (Ur×Ve)}{s:St}{H':Hp}{s':Ae},bS (Z8 X N' scope (t++cl) s1 (upd H2 s2.heap.objs.size o0) fp) pY s H' s'->bS X aa σ H' s':=λ{pY s H' s'} J'=>
  k.call' J'.os J'.base J'.hok J'.bare λb f=>⟨(f2 b f).2.2.2.1,(f2 b f).2.1,(f2 b f).2.2.2.2.1,(f2 b f).2.2.2.2.2⟩
 have stat:∀{H':Hp}{pY:List (Ur×Ve)},(∀b∈fp,H' b=b4)->pY=[]->∀b∈fp,J1 (Z8 X N' scope (t++cl) s1 (upd H2 s2.heap.objs.size o0) fp) pY H' b:=λ{H' pY} hn hp b f=>by subst hp;refine⟨hn b f,(Y.exf b f).1,Y.exfs b f,.inl f,(Y.exf b f).2,λp hp=>absurd (show p∈([]:List (Ur×Ve)) from hp) (by simp)⟩
 have st1:tn 0 F:=T.keep 0 s2.heap F st2 λb f o e=>I b o (i3 b o e);have fr1:∀b∈fp,(upd H2 s2.heap.objs.size o0) b=b4:=λb f=>by rw[bL (Au (f8 b f))];exact(f2 b f).1
 obtain⟨btg,bts,bem⟩:=blk (t++cl) s1 (upd H2 s2.heap.objs.size o0) fp;obtain⟨em,L,bem⟩:=bem s2.heap.objs.size;have loop:∀B:Ae,B={s2 with heap:=F}->
   Hj (Ut X.prog X.w) X.A (.compLoop e 0 (.ref it) (.ref s2.heap.objs.size) (compEnvC scope (t++cl) s1.heap.objs.size X.env)) (RR (.ref s2.heap.objs.size) s1.heap.objs.size) B:=by
  rintro B rfl;refine cM L (λn s'=>∃i s H',bS (Z8 X N' scope (t++cl) s1 (upd H2 s2.heap.objs.size o0) fp) [] s H' s'/\s.take ix.length=YV ix σ/\tn i s'.heap/\(∀b∈fp,H' b=b4)/\W i n H') ?_ m0
   ⟨0,_,_,IY,by rw[Ea (by simp[YV])];exact Ce (by simp[YV]),st1,fr1,w0⟩
  rintro n s' ⟨i,s,H',J',hσ,st',fr',w'⟩;have Jc:bS (Z8 X N' scope (t++cl) s1 (upd H2 s2.heap.objs.size o0) fp) [] (YV ix σ++Az nl b4) H' s':=by
   refine J'.weak (by rw[eg];exact J'.len.symm) λj v e=>?_;have hl:(YV ix σ).length=ix.length:=by simp[YV]
   by_cases Z:j<ix.length
   ·rw [Ar (by rw [hl];exact Z),<- hσ,Dr Z]at e
    exact e
   ·rw [Du (by rw [hl];lia),Dt]at e
    split at e<;>cases e
  rcases turn i n H' w' with⟨stop,q⟩|⟨go,N,hN,step⟩
  ·refine Ax (T.done (Z8 X N' scope (t ++ cl) s1 (upd H2 s2.heap.objs.size o0) fp) rfl rfl rfl hc i [] s' _ H' (λ_ _ => False) Jc (stat fr' rfl) st' stop) (λr s4 ⟨hr,I4⟩ => ?_) λ_ _ z => z
   subst hr;have IX:=back I4;obtain⟨m,hm,_⟩:=I4.loc;exact fin _ _ s4 H' IX ⟨m,hm⟩ (Hu k.lt) (λx c e z=>by
    obtain⟨v,q⟩:=k.cell x c e;have:=q.lt
    rw[z]at this;exact Ci _ this) (λσ'' U h'' I'' sb=>bS.offNew k I'' I4.free λb o f e=>(sb.2 b f).trans e) q
  ·refine Ax (T.item (Z8 X N' scope (t ++ cl) s1 (upd H2 s2.heap.objs.size o0) fp) rfl rfl rfl hc i [] s' _ H' (λ_ _ => False) Jc (stat fr' rfl) st' go) (λr s4 ⟨u,hr,h4⟩ => ?_) λ_ _ z => z
   subst hr;refine Ax h4 (λ_ s5 ⟨x,H5,I5,r5,y5,st5,fr5⟩=>?_) λ_ _ z=>z;have I5':=I5.pinned (stat fr5 rfl) (T.obj _ _ st5);refine Ax (btg _ s5 _ H5 x u _ I5' r5 (step x H5 y5)) (λ_ s6 ⟨σ6,H6,I6,hσ6,q6⟩=>?_) λ_ _ z=>z;have again:∀{R:St}{H7:Hp}{s7:Ae},R.take ix.length=YV ix σ->bS (Z8 X N' scope (t++cl) s1 (upd H2 s2.heap.objs.size o0) fp) ([]++NN fp s5.heap) R H7 s7->N H7->
     ∃m,m<n/\∃i s H',bS (Z8 X N' scope (t++cl) s1 (upd H2 s2.heap.objs.size o0) fp) [] s H' s7/\s.take ix.length=YV ix σ/\tn i s7.heap/\(∀b∈fp,H' b=b4)/\W i m H':=λ{R H7 s7} hσ7 I7 n7=>by
    obtain⟨m',hm,w7⟩:=hN H7 n7;refine⟨m',hm,i+1,R,H7,I7.unpinned,hσ7,T.keep _ _ _ st5 λb f o e=>(I7.pin (b,o) (Be _ (Be _ (W8 f e)))).1,λb f=>?_,w7⟩;obtain⟨o,e,d⟩:=T.obj _ _ st5 b f;exact(I7.pin (b,o) (Be _ (Be _ (W8 f e)))).2.1
   refine Ax (bts _ s6 σ6 H6 _ I6 q6) (λokb s7 ⟨H7,I7,q7⟩=>?_) λ_ _ z=>z;cases okb with
   |false=>exact again hσ6 I7 q7
   |true=>exact Ax (bem _ s7 σ6 H7 _ I7 q7) (λ_ s8 ⟨σ8,H8,I8,hσ8,n8⟩=>again hσ8 I8 n8) λ_ _ z=>z
 exact dH L (loop _ rfl) (T.self _ 0 _ _ _ st1 (loop _ rfl))
def AS{X:Cx}{aa:List (Ur×Ve)}{σ:St}{i:Nat}{y:Uv}{py:Pos}{D:M0}(t:X.N.Nodup)(h:X.N[i]?=b3 y)(o:X.env.scope.names.lookup y=b3 .local)(e C:Ur)(s':Ae)(H':Hp)(u:bS X aa σ H' s')(g:∃m,s'.heap.Ns C m)(l:C≠X.env.locals)(k:∀x c,X.env.cells.lookup x=b3 c->c≠C)(r:∀(d:St) (b:Ae) (h'':Vb),bS X aa d H' b->Es C b.heap h''->bS X aa d H' {b with heap:=h''})(q:D.nx (σ.set i (b3 (.ref e))) H'):Ti (Ut X.prog X.w) X.A X.xe (b3 (Gg (.Name y py) X.env)) (λ_ s'=>SP X aa D .next s') (.ref e) C (.ok .next) s':=by
 obtain⟨m,g⟩:=g;show Us _ X.A (Gg (.Name y py) X.env (.ref e)) _ _ _;refine Iz (IV u t h (.inl o) (v:=.ref e) rfl (λb n ⟨a,f,s⟩=>?_) (.inr o));have j:C≠a:=by
  rcases s with z|z
  ·rw[z];exact l
  ·exact Dj (k y a z)
 exact⟨m,g.sameBut f j,λh'' p=>⟨_,H',r _ b h'' n p,q⟩⟩
noncomputable def emL(D:Ur)(elt:Ux)(env:Env):Vk Unit:=do let _<-call (.builtin "list.append") [.ref D,<-eval elt env]
def lpL1{elt tg iter:Ux}{ifs:List Ux}{scope:Vf}{pos:Pos}{D:Ur}{env:Env}:JI (.ListComp elt [⟨tg,iter,ifs,0⟩] scope pos) 0 tg ifs (emL D elt env) (.ref D) env:=⟨⟨iter.pos,λ_=>rfl⟩,λ_ _ _ _ _ _ _ h=>h,λ_ _ _ _ _ _ _ h=>h,λ_=>rfl,_,rfl,rfl⟩
def cW{Y:Cx}{elt:Ux}{te:TE}{D:Ur}(b:Y.xe=λ_ _=>False)(j:PE Y elt te):PM Y (emL D elt Y.env) (tmL te D):=by
 intro aa s σ H N I h;have nx:∀{α:Sort _}{x:Uq}{s:Ae},Y.xe x s->α:=λz=>by rw[b]at z;exact z.elim
 exact Aa (Ax (j aa s σ H _ I h) (λv e ⟨y,m,l,f,acc,c,a,i⟩=>Aa (Ax (ZW (X:=Y) _ e σ m (.ref D) [y] (.ref D) [v] (λ_ d=>N σ d) l rfl (.cons f .nil)
  ⟨D,acc,y,rfl,rfl,c,a,i⟩) (λ_ n ⟨_,d,k,_,g⟩=>Ag ⟨σ,d,k,g⟩) λ_ _ z=>nx z)) λ_ _ z=>nx z)
section
variable{X:Cx}{tg iter elt:Ux}{ifs:List Ux}{rest:List Comprehension}{scope:Vf}{pos py aw:Pos}{N':List Uv}{ix:List Nat}{nl:Nat}{wi:TI}{g:TG}{tt:TT}{tm:Ur->TM}{i:Nat}{y:Uv}
def D9(hc:X.calm=ba)(S:N0 X N' ix scope)(d:N'.length=ix.length+nl)(hi:PI X tg iter wi)(i:∀(cl:List (Uv×Ur)) (s1:Ae) (H1:Hp) (fp:List Ur),BlkG (Z8 X N' scope cl s1 H1 fp) (.ListComp elt (⟨tg,iter,ifs,0⟩::rest) scope pos) tg ifs g tt tm)(p:∀x,Uz iter X.env x=pure x):PE X (.ListComp elt (⟨tg,iter,ifs,0⟩::rest) scope pos) (GW ix nl wi g tt tm):=by intro aa s σ H Q I h;rw[eval_ListComp];obtain⟨cl,G,F,E⟩:=FL (env:=X.env) (scope:=scope) λy o t=>I.ok.has y.1 (S.free y o t);refine Hy (use:=b4) (cl:=cl) rfl p G S.kind S.names (Ax (hi aa s σ H _ I h) (λM k b=>Ax b (λn j a=>?_) λ_ _ e=>e) λ_ _ e=>e);obtain⟨it,fp,N,J,H2,e,K,T,c,f2,q⟩:=a;subst e;refine PU (o0:=.lst []) (Q:=Q) (RR:=λacc C=>Ti (Ut X.prog X.w) X.A X.xe b4 (EP X aa σ Q) acc C) (λz=>Cb z) ⟨Cn _,[],0,.nil,An _ rfl⟩ hc S d F E i K T c f2 q ?_;intro D C s' H' L f B v u r;obtain⟨m,f⟩:=f;exact⟨m,f,λh'' l=>⟨.ref D,H',u σ s' h'' L l,rfl,r⟩⟩
def GH(u:X.N.Nodup)(k:X.N[i]?=b3 y)(d:X.env.scope.names.lookup y=b3 .local)(hc:X.calm=ba)(S:N0 X N' ix scope)(j:N'.length=ix.length+nl)(hi:PI X tg iter wi)(l:∀(cl:List (Uv×Ur)) (s1:Ae) (H1:Hp) (fp:List Ur),BlkG (Z8 X N' scope cl s1 H1 fp) (.ListComp elt (⟨tg,iter,ifs,0⟩::rest) scope pos) tg ifs g tt tm)(f:Vc (.ListComp elt (⟨tg,iter,ifs,0⟩::rest) scope pos) (b3 (.Name y py)) aw.line X.env=pure ba)(p:∀x,Uz iter X.env x=pure x):PS X (.Assign [.Name y py] (.ListComp elt (⟨tg,iter,ifs,0⟩::rest) scope pos) aw) (tAsg (GW ix nl wi g tt tm) (WH i)):=by
 intro aa s σ H D I h;rw[Nd _ _ _ _ f];refine Aa (Dz (Aa ?_));show Us _ X.A (do let _<-comprehension (.ListComp elt (⟨tg,iter,ifs,0⟩::rest) scope pos) scope X.env _ (newList []) bb (eval iter X.env) (b3 (Gg (.Name y py) X.env))) _ _ s;obtain⟨cl,F,E,B⟩:=FL (env:=X.env) (scope:=scope) λy d t=>I.ok.has y.1 (S.free y d t);refine Aa (Ax (Hy (use:=b3 (Gg (.Name y py) X.env)) (cl:=cl) (Q:=λ_ s'=>SP X aa D .next s') rfl p F S.kind S.names
  (Ax (hi aa s σ H _ I h) (λK n b=>Ax b (λo m a=>?_) λ_ _ e=>e) λ_ _ e=>e)) (λ_ s' r=>Ag (Ag r)) λ_ _ e=>e)
 obtain⟨it,fp,L,J,H2,e,G,T,c,f2,q⟩:=a;subst e;exact PU (o0:=.lst []) (Q:=λv H'=>D.nx (σ.set i (b3 v)) H') (RR:=λacc C=>Ti (Ut X.prog X.w) X.A X.xe (b3 (Gg (.Name y py) X.env)) (λ_ s'=>SP X aa D .next s') acc C) (λz=>Cb z) ⟨Cn _,[],0,.nil,An _ rfl⟩ hc S j E B l G T c f2 q (AS u k d)
end
section
variable{X:Cx}{K:Ai}{ml:List Nat}{pi pt pe pu:Bool}{pos:Pos}{ix:List Nat}{nl:Nat}{f:VF}
noncomputable def TQ(N N':List Uv)(ix:List Nat)(names:List (Uv×Vh))(k:Uv->Option Vh):Bool:=
 names.all (λy=>y.2 != .cell || names.lookup y.1==b3 .cell)&&(names.all (λy=>y.2 != .local || names.lookup y.1==b3 .local)&&(names.all (λy=>y.2 != .free || (k y.1==b3 .cell || k y.1==b3 .free)) &&
  (decide N'.Nodup&&((As ix.length).all (λj=>N'[j]? ==(ix[j]?).bind λi=>N[i]?)&&(N'.take ix.length).all λx=>names.lookup x==b3 .free))))
def YZ{N':List Uv}{scope:Vf}(b:scope.kind=.function)(h:TQ X.N N' ix scope.names X.env.kindOf=ba):N0 X N' ix scope:=by unfold TQ at h;simp only[Af,Fc,Io,bne_iff_ne,beq_iff_eq,decide_eq_true_eq,Dh]at h;obtain⟨h1,h2,g,f,d,c⟩:=h;exact⟨b,λy a e=>(h1 y a).resolve_left λz=>z e,λy a e=>(h2 y a).resolve_left λz=>z e,λy a e=>(g y a).resolve_left λz=>z e,f,d,c⟩
def Blk.g{X:Cx}{N':List Uv}{scope:Vf}{tg iter elt:Ux}{ifs:List Ux}{pos:Pos}{g:TG}{tt:TT}{te:TE}(a:∀(cl:List (Uv×Ur)) (s1:Ae) (H1:Hp) (fp:List Ur),Blk (Z8 X N' scope cl s1 H1 fp) tg ifs elt g tt te)(cl:List (Uv×Ur))(s1:Ae)(H1:Hp)(fp:List Ur):BlkG (Z8 X N' scope cl s1 H1 fp) (.ListComp elt [⟨tg,iter,ifs,0⟩] scope pos) tg ifs g tt (tmL te):=
 ⟨(a cl s1 H1 fp).tg,(a cl s1 H1 fp).ts,λD=>⟨_,lpL1,cW rfl (a cl s1 H1 fp).el⟩⟩
abbrev BlkC(X:Cx)(K:Ai)(N':List Uv)(ix:List Nat)(scope:Vf)(tg:Ux)(ifs:List Ux)(elt:Ux)(gg:VG)(pt:Bool)(tb:VB)(pe:Bool)(fe:VF):Prop:=N'.Nodup->∀(cl:List (Uv×Ur)) (s1:Ae) (H1:Hp) (fp:List Ur),Blk (Z8 X N' scope cl s1 H1 fp) tg ifs elt (BE K (As ix.length) gg) (TB K (As ix.length) pt tb) (TV K (As ix.length) pe ba ba fe)
def aA{tg iter elt:Ux}{ifs:List Ux}{scope:Vf}{fi:VI}{gg:VG}{tb:VB}{fe:VF}(N':List Uv)(ix:List Nat)(nl:Nat)(hi:PI X tg iter (JV K ml pi fi))(c:BlkC X K N' ix scope tg ifs elt gg pt tb pe fe)(hc:X.calm=ba:=by rfl)(d:scope.kind=.function:=by rfl)(a:TQ X.N N' ix scope.names X.env.kindOf=ba:=by rfl)(b:N'.length=ix.length+nl:=by rfl)(hnd:ix.Nodup:=by decide)(e:∀x,Uz iter X.env x=pure x:=by intro _;rfl):PE X (.ListComp elt [⟨tg,iter,ifs,0⟩] scope pos) (TN K ml (pi&&pt&&pe) (ZZ ix nl fi gg tb fe)):=
 (D9 hc (YZ d a) b hi (Blk.g (c (YZ d a).nd)) e).imp λ_ _ _ h=>A1 hnd h
def pj{i:Nat}{y:Uv}{py aw:Pos}{tg iter elt:Ux}{ifs:List Ux}{scope:Vf}{fi:VI}{gg:VG}{tb:VB}{fe:VF}(o:Bool)(m:X.N.Nodup)(N':List Uv)(ix:List Nat)(nl:Nat)(hi:PI X tg iter (JV K ml pi fi))(e:BlkC X K N' ix scope tg ifs elt gg pt tb pe fe)(d:X.N[i]?=b3 y:=by rfl)(j:X.env.scope.names.lookup y=b3 .local:=by rfl)(hc:X.calm=ba:=by rfl)(f:scope.kind=.function:=by rfl)(a:TQ X.N N' ix scope.names X.env.kindOf=ba:=by rfl)(c:N'.length=ix.length+nl:=by rfl)(hnd:ix.Nodup:=by decide)(l:i∉ml:=by decide)(b:Vc (.ListComp elt [⟨tg,iter,ifs,0⟩] scope pos) (b3 (.Name y py)) aw.line X.env=pure ba:=by rfl)(k:∀x,Uz iter X.env x=pure x:=by intro _;rfl):PS X (.Assign [.Name y py] (.ListComp elt [⟨tg,iter,ifs,0⟩] scope pos) aw) (WG K ml (aL i (if o then xO (ZZ ix nl fi gg tb fe)else xV (ZZ ix nl fi gg tb fe)))):=
 (GH m d j hc (YZ f a) c hi (Blk.g (e (YZ f a).nd)) b k).imp λD σ H h=>G1 (λσ H Q z=>A1 hnd (A3 (pu:=pi&&pt&&pe) z)) l h
end
section
variable{X:Cx}{K:Ai}{ml:List Nat}{e a b c:Ux}{es:List Ux}{pi pt pe pu bt bi ps bs:Bool}{f:VF}{B B':Bs}{O:Nat->Option Ur}{H H0 H1 H':Hp}{σ:St}{δ δ':Ev}{v:V}{d:cH}{p:Ur}{pos:Pos}{ix:List Nat}{nl:Nat}
def gB(K:Ai)(N:Ur->Prop)(J:It)(H:Hp)(ds:List cH):Prop:=∃xs:List V,bQ K N H xs ds/\∀H2,aN H H2->(∀(i:Nat) (x:V),xs[i]?=b3 x->J.go i H2/\∀y a,J.yld i H2 y a->a=H2/\y=x)/\J.stop xs.length H2
inductive Yi(K:Ai)(ml:List Nat)(f:VI)(σ:St)(H:Hp)(R:It->Hp->Prop):Prop
 |mk (B:_) (O:_) (δ:_) (ds:_) (δ':_) (h0:aP K ml B O H σ δ) (h1:f δ=b3 (ds,δ')) (h2:∀J H',aP K ml B O H' σ δ'->aN H H'->gB K (Nn B O) J H' ds->R J H'):Yi K ml f σ H R
def TIVp(K:Ai)(ml:List Nat)(f:VI):TI:=λσ H R=>Yi K ml f σ H R
def k8{fi:VI}{gg:VG}{tb:VB}{fe:VF}(hnd:ix.Nodup){Q:VK}(h:TN K ml ba (ZZ ix nl fi gg tb fe) σ H Q):Wk ix nl (TIVp K ml fi) (BE K (As ix.length) gg) (TB K (As ix.length) ba tb) (TV K (As ix.length) ba ba ba fe) σ H Q:=by obtain⟨B,O,δ,ds,δ',S,e,k⟩:=ER (pi:=ba) (pt:=ba) (pe:=ba) hnd h;refine⟨B,O,δ,ds,δ',S,e,λJ H' n p w=>?_⟩;obtain⟨b,a,c⟩:=w;refine k J (b.zip ds) H' (n.keepV (WF a)) p.fr (λ_=>p) λN H1 z f=>⟨λi d m=>?_,by rw[<-a.length];exact(c H1 (f rfl)).2⟩;obtain⟨x,j,l⟩:=(T6 a.length z).get m;have w:=(c H1 (f rfl)).1 i x j;exact⟨w.1,λy o g=>by obtain⟨rfl,rfl⟩:=w.2 y o g;exact⟨.refl _,l⟩⟩
def aN.sqT{a:Ur}{xs:List V}(s:aN H H')(h:VE K H a xs):VE K H' a xs:=Fr.tup (P:=λ_=>False) s.fr h
def fZ{tg:Ux}(n:X.K=K)(h:PE X e (TV K ml ba bt bi f))(o:bi=ba:=by rfl):PI X tg e (TIVp K ml (YG f)):=by
 subst o;refine((Xl (K:=K) n h).or (cL (K:=K) n h)).imp λσ H R g=>?_;obtain⟨B,O,δ,ds,δ',S,q,k⟩:=g;unfold YG at q;obtain⟨⟨x,δ1⟩,h1,q⟩:=Ac.mp q;cases x with
 |lst m=>
  cases q;refine .inl ⟨B,O,δ,_,δ1,S,h1,λv H1 c=>?_⟩;obtain⟨a,xs,rfl,sq,r⟩:=c.rep.lstE;refine⟨a,rfl,⟨xs,sq⟩,k _ H1 c.sta (c.pur rfl) ⟨xs,r,λH2 b=>⟨λi x ex=>⟨⟨xs,x,b.seq sq,ex⟩,λy p d=>?_⟩,xs,b.seq sq,Ao _⟩⟩⟩;obtain⟨l,j⟩:=d;have:=j xs (b.seq sq)
  rw[ex]at this;cases this;exact⟨l,rfl⟩
 |tup m=>
  cases q;refine .inr ⟨B,O,δ,_,δ1,S,h1,λv H1 c=>?_⟩;obtain⟨a,xs,rfl,sq,r⟩:=c.rep.tupE;refine⟨a,rfl,⟨xs,sq⟩,k _ H1 c.sta (c.pur rfl) ⟨xs,r,λH2 b=>⟨λi x ex=>⟨⟨xs,x,b.sqT sq,ex⟩,λy p d=>?_⟩,xs,b.sqT sq,Ao _⟩⟩⟩;obtain⟨l,j⟩:=d;have:=j xs (b.sqT sq)
  rw[ex]at this;cases this;exact⟨l,rfl⟩
 |_=>cases q
def iU{i:Nat}{y:Uv}{py aw:Pos}{tg iter elt:Ux}{ifs:List Ux}{scope:Vf}{fi:VI}{gg:VG}{tb:VB}{fe:VF}(o:Bool)(n:X.N.Nodup)(N':List Uv)(ix:List Nat)(nl:Nat)(hi:PI X tg iter (TIVp K ml fi))(e:BlkC X K N' ix scope tg ifs elt gg pt tb pe fe)(d:X.N[i]?=b3 y:=by rfl)(j:X.env.scope.names.lookup y=b3 .local:=by rfl)(hc:X.calm=ba:=by rfl)(f:scope.kind=.function:=by rfl)(a:TQ X.N N' ix scope.names X.env.kindOf=ba:=by rfl)(c:N'.length=ix.length+nl:=by rfl)(hnd:ix.Nodup:=by decide)(l:(pt&&pe)=ba:=by rfl)(m:i∉ml:=by decide)(b:Vc (.ListComp elt [⟨tg,iter,ifs,0⟩] scope pos) (b3 (.Name y py)) aw.line X.env=pure ba:=by rfl)(k:∀x,Uz iter X.env x=pure x:=by intro _;rfl):PS X (.Assign [.Name y py] (.ListComp elt [⟨tg,iter,ifs,0⟩] scope pos) aw) (WG K ml (aL i (if o then xO (ZZ ix nl fi gg tb fe)else xV (ZZ ix nl fi gg tb fe)))):=by obtain⟨h1,h2⟩:=(Af _ _).mp l;subst h1 h2;exact(GH n d j hc (YZ f a) c hi (Blk.g (e (YZ f a).nd)) b k).imp λD σ H h=>G1 (λσ H Q z=>k8 hnd (A3 (pu:=ba) z)) m h
end
section
variable{X:Cx}{K:Ai}{ml:List Nat}{e a b c:Ux}{es:List Ux}{pa ta ia pb tb ib pc tc ic pu bt bi ps bs:Bool}{fa fb fc f:VF}{B B':Bs}{O:Nat->Option Ur}{H H1 H':Hp}{σ:St}{δ δ':Ev}{v:V}{d:cH}{p:Ur}{pos:Pos}
noncomputable def QO:List (Uv×aX)->Uv->Option aX
 |[],_=>b4
 |(y,F)::r,x=>if y=x then b3 F else QO r x
def Vw(X:Cx)(K:Ai)(mF:List Nat)(n:Nat)(tb:List (Uv×aX)):Prop:=∀x F a,QO tb x=b3 F->Ep K Uw x=b3 (b3 (.ref a))->FnAt X a (spV K mF n F)
def gT{mF:List Nat}{n:Nat}:Vw X K mF n []:=λ_ _ _ h=>nomatch h
def SA{x:Uv}{kk j n:Nat}{qs:List Uv}{mF:List Nat}{F:aX}{h:Ur}{tb:List (Uv×aX)}(g:X.K=K)(d:∀x a,Ep K Uw x=b3 (b3 (.ref a))->X.mg x=b3 (.ref a))(c:YU j X.A)
  (D:Def X.prog X.w K X.mg X.base x kk qs (spV K mF n F) h) (f:kk<=j) (t:Vw X K mF n tb):Vw X K mF n ((x,F)::tb):=λy G a h1 h2=>by
 unfold QO at h1;split at h1
 ·rename_i b
  subst b;cases h1;have e:=(d x a h2).symm.trans D.at_;cases e;subst g;exact D.fnAt c f
 ·exact t y G a h1 h2
end
section
variable{X:Cx}{K:Ai}{ml:List Nat}{e a b c:Ux}{es:List Ux}{pa ta ia pb tb ib pc tc ic pu bt bi ps bs:Bool}{fa fb fc f:VF}{pos p':Pos}{d:cH}{x:Uv}
def vv(i:Nat)(d:X.N[i]?=b3 x:=by rfl)(b:Vis X.env.scope x:=by first|exact Dy rfl|exact Cm (Dy rfl)|exact Cm (Cm rfl))(c:ND x:=by decide)(a:(x==("__classdict__":Uv))=bb:=by decide):PE X (.Name x pos) (TV K ml ba ba ba (fV i)):=iR (CF d b c a)
def vo(i:Nat)(d:X.N[i]?=b3 x:=by rfl)(b:Vis X.env.scope x:=by first|exact Dy rfl|exact Cm (Dy rfl)|exact Cm (Cm rfl))(c:ND x:=by decide)(a:(x==("__classdict__":Uv))=bb:=by decide):PE X (.Name x pos) (TV K ml ba bb ba (fO i)):=lI (CF d b c a)
def ZB(d:X.A.units+1<cLine)(g:PE X a (TV K ml pa ta ia fa))(f:PE X b (TV K ml pb tb ib fb))(h:X.K=K:=by rfl)(c:N6 b:=by exact λ_ _=>rfl)(e:(pb || (ta&&ia))=ba:=by rfl):PE X (.Subscript a b pos) (TV K ml (pa&&pb) ia ia (f2 bG fa fb)):=
 Xz (kIxA d h) eW g f c e
def veq(c:X.A.units+64<cLine)(f:PE X a (TV K ml pa ta ia fa))(e:PE X b (TV K ml pb tb ib fb))(g:X.K=K:=by rfl)(d:(pb || (ta&&ia))=ba:=by rfl):PE X (.Compare a [.Eq] [b] pos) (TV K ml (pa&&pb) ba ba (f2 V0 fa fb)):=
 YX (kEqD c g) s_eq f e (T2 _) d
def SR(c:X.A.units+64<cLine)(f:PE X a (TV K ml pa ta ia fa))(e:PE X b (TV K ml pb tb ib fb))(g:X.K=K:=by rfl)(d:(pb || (ta&&ia))=ba:=by rfl):PT X (.Compare a [.Eq] [b] pos) (TB K ml (pa&&pb) (fB (f2 V0 fa fb))):=
 bD (kEqD c g) s_eq f e (T2 _) d
def bI{kk j n:Nat}{qs:List Uv}{mF:List Nat}{F:aX}{k:Ur}{fs:ML}(D:Def X.prog X.w K X.mg X.base x kk qs (spV K mF n F) k)(c:YU j X.A)(h:PA X (e::es) (BD K ml ps fs))(i:X.K=K:=by rfl)(d:kk<=j:=by decide)(f:Gl X x:=by rfl)(b:ND x:=by decide)(g:SE X e es:=by rfl)(a:(Dx pos (Uu es X.env)).any (·.1)=bb:=by rfl):PE X (.Call (.Name x p') (e::es) [] pos) (TV K ml (ps&&mF.isEmpty) ba ba (bZ n mF F fs)):=jm i D c d f h b g a
def XJ(b:X.mg "len"=b4)(e:PE X a (TV K ml pa ta ia fa))(f:X.K=K:=by rfl)(c:Gl X "len":=by rfl)(d:SE X a []:=by rfl):PE X (.Call (.Name "len" p') [a] [] pos) (TV K ml pa ba ba (f1 YW fa)):=
 MZ (qm f) lG c b BI e (by decide) (by decide) d
def vty{n:String}(c:X.mg x=b4)(a:Bo x=b3 (.type n))(d:Gl X x:=by rfl)(b:x≠ "__name__":=by decide)(e:ND x:=by decide):PE X (.Name x pos) (TV K ml ba ba ba (fC (.ty n))):=
 ve_c (gW (v:=.ty n) d c a rfl b e) λ_ _ _=>.ty _
def EX(f:X.mg "isinstance"=b4)(j:PE X a (TV K ml pa ta ia fa))(i:PE X b (TV K ml pb tb ib fb))(k:X.K=K:=by rfl)(g:Gl X "isinstance":=by rfl)(h:SE X a [b]:=by rfl)(d:SE X b []:=by rfl)(c:(Dx pos (Uu [b] X.env)).any (·.1)=bb:=by rfl)(e:(pb || (ta&&ia))=ba:=by rfl):PE X (.Call (.Name "isinstance" p') [a,b] [] pos) (TV K ml (pa&&pb) ba ba (f2 QD fa fb)):=XN (kIsi k) qY g f bA j i (by decide) (by decide) h d c e
end
def A4(K:Ai)(x:Uv)(st:Vd)(f:Ur):Prop:=∃(d:Uq) (od:Option Ur) (kV doc c:Uq) (e:Option Ur) (a ct:Uq) (b:Array (Option Uq)),Ep K Uw x=b3 (b3 (.ref f))∧
 K.lookup f=b3 ⟨d,od,.func (Mu x x (XV st) (Z1 st) (b5 st) .none kV doc c e a ct),b⟩/\Rr K a x=ba/\Jm K (.ref f)=ba
def a4{K:Ai}{x:Uv}{st:Vd}{f:Ur}{i:Uq}{od:Option Ur}{kV doc h:Uq}{j:Option Ur}{e ct:Uq}{g:Array (Option Uq)}(a:Ep K Uw x=b3 (b3 (.ref f)))(b:K.lookup f=b3 ⟨i,od,.func (Mu x x (XV st) (Z1 st) (b5 st) .none kV doc h j e ct),g⟩)(c:Rr K e x=ba)(d:Jm K (.ref f)=ba):A4 K x st f:=⟨i,od,kV,doc,h,j,e,ct,g,a,b,c,d⟩
def A4.ns{K:Ai}{x:Uv}{st:Vd}{f:Ur}(p:A4 K x st f):Ep K Uw x=b3 (b3 (.ref f)):=by obtain⟨_,_,_,_,_,_,_,_,_,a,_⟩:=p;exact a
def K0{N P:List Uv}{h:Vf}(a:h.kind=.function:=by rfl)(b:h.isCoroutine=bb:=by rfl)(c:h.isGenerator=bb:=by rfl)(d:N.Nodup:=by decide+kernel)(e:N.take P.length=P:=by rfl)(f:∀x∈P,h.names.lookup x=b3 .local∨h.names.lookup x=b3 .cell:=by decide+kernel)(g:∀y∈h.names,y.2≠Bu:=by decide+kernel):Z7 N P h:=⟨a,b,c,d,e,f,g⟩
def KD{α:Type}:Vk α->Prop
 |.pure _=>True
 |.raise _=>True
 |.unsupported _=>True
 |.finish _=>True
 |.rule _ k=>KD (k ())
 |.at _ k=>KD (k ())
 |.load _ _ k=>∀o,KD (k o)
 |.update _ _ f k=>(∀o,(f o).dict=o.dict)/\KD (k ())
 |.alloc _ k=>∀a,KD (k a)
 |.loadIfAlive _ k=>∀o,KD (k o)
 |.point _ k=>KD (k ())
 |.stack k=>∀l,KD (k l)
 |.fresh k=>∀l,KD (k l)
 |.ask k=>∀l,KD (k l)
 |.handled _ k=>∀l,KD (k l)
 |_=>False
def Dc(e:Ur)(d:Option Ur)(h:Vb):Prop:=∃o,h.objs[e]?=b3 o/\o.dict=d
def Dc.of{e:Ur}{h:Vb}{o:Ve}(q:h.get? e=b3 o):Dc e o.dict h:=⟨o,(Pj.mp q).1,rfl⟩
theorem Dc.at{e:Ur}{d:Option Ur}{h:Vb}{o:Ve}(D:Dc e d h)(q:h.get? e=b3 o):o.dict=d:=by obtain⟨o',a,b⟩:=D;rw[(Pj.mp q).1]at a;cases a;exact b
def Dc.upd{e a:Ur}{d:Option Ur}{h:Vb}{f:Ve->Ve}(D:Dc e d h)(i:∀o,(f o).dict=o.dict):Dc e d (h.update a f):=by
 obtain⟨o,g,c⟩:=D;cases h;simp only[Dc,Heap.update,Array.getElem?_modify];by_cases b:a=e
 ·subst b
  exact⟨f o,by rw[if_pos rfl,g];rfl,(i o).trans c⟩
 ·exact⟨o,by rw[if_neg b];exact g,c⟩
def Dc.push{e:Ur}{d:Option Ur}{h:Vb}(o:Ve)(D:Dc e d h):Dc e d (h.push o):=by obtain⟨b,a,c⟩:=D;cases h;refine⟨b,?_,c⟩;simp only[Heap.push,Array.getElem?_push];rw[if_neg (Au (Array.getElem?_eq_some_iff.mp a).1)];exact a
def nS{α:Type}{M:Vl}{i:PySem.Ctx}{e:Ur}{d:Option Ur}{E:Uq->Pos->Ae->Prop}:∀(t:Vk α) (Q:α->Pos->Ae->Prop) (p:Pos) (s:Ae),KD t->Dc e d s.heap->Sem.wp M i t Q E p s->Sem.wp M i t (λa p s'=>Q a p s'/\Dc e d s'.heap) E p s:=by
 intro t;induction t with
 |pure a=>intro Q p s _ D h;simp only[Sem.wp_pure]at h⊢;exact⟨h,D⟩
 |raise v=>intro Q p s _ D h;simp only[Sem.wp_raise]at h⊢;exact h
 |unsupported w=>intro Q p s _ D h;simp only[Sem.wp_unsupported]at h
 |finish w=>intro Q p s _ D h;simp only[Sem.wp_finish]at h
 |rule g k c=>intro Q p s K D h;simp only[Sem.wp_rule]at h⊢;exact c () Q p s K D h
 | «at» q k c=>intro Q p s K D h;simp only[Sem.wp_at]at h⊢;exact c () Q q s K D h
 |load a b k c=>intro Q p s K D h;rw[Sem.wp_load]at h⊢;obtain⟨o,j,h⟩:=h;exact⟨o,j,c o Q p s (K o) D h⟩
 |update a b f k c=>intro Q p s K D h;rw[Sem.wp_update]at h⊢;exact⟨h.1,c () Q p _ K.2 (D.upd K.1) h.2⟩
 |alloc o k c=>intro Q p s K D h;simp only[Sem.wp_alloc]at h⊢;exact c _ Q p _ (K _) (D.push o) h
 |loadIfAlive a k c=>intro Q p s K D h;simp only[Sem.wp_loadIfAlive]at h⊢;exact c _ Q p s (K _) D h
 |point l k c=>intro Q p s K D h;simp only[Sem.wp_point]at h⊢;exact c () Q p s K D h
 |stack k c=>intro Q p s K D h;rw[Sem.wp]at h⊢;exact c _ Q p s (K _) D h
 |fresh k c=>intro Q p s K D h;simp only[Sem.wp_fresh]at h⊢;exact c _ Q p _ (K _) D h
 |ask k c=>intro Q p s K D h;simp only[Sem.wp_ask]at h⊢;exact c _ Q p s (K _) D h
 |handled o k c=>intro Q p s K D h;simp only[Sem.wp_handled]at h⊢;exact c _ Q p s (K _) D h
 |_=>intro Q p s K;exact K.elim
def M5{α:Type}{M:Vl}{A:Bz}{e:Ur}{d:Option Ur}{E:Uq->Ae->Prop}{t:Vk α}{Q:α->Ae->Prop}{s:Ae}(K:KD t)(D:Dc e d s.heap)(h:Us M A t (λa s'=>Dc e d s'.heap->Q a s') E s):Us M A t Q E s:=λc p b=>
 Sem.wp_mono M c t (λa p s' z=>z.1 z.2) (λ_ _ _ z=>z) p s (nS t _ p s K D (h c p b))
def KD.bind{α β:Type}{f:α->Vk β}:∀{m:Vk α},KD m->(∀a,KD (f a))->KD (m>>=f):=by
 intro m;show KD m->_->KD (Sem.bind m f);induction m with
 |pure a=>intro _ h;exact h a
 |raise v=>intro _ h;exact trivial
 |unsupported w=>intro _ h;exact trivial
 |finish w=>intro _ h;exact trivial
 |rule g k c=>intro K h;exact c () K h
 | «at» q k c=>intro K h;exact c () K h
 |load a b k c=>intro K h o;exact c o (K o) h
 |update a b f k c=>intro K h;exact⟨K.1,c () K.2 h⟩
 |alloc o k c=>intro K h a;exact c a (K a) h
 |loadIfAlive a k c=>intro K h o;exact c o (K o) h
 |point l k c=>intro K h;exact c () K h
 |stack k c=>intro K h l;exact c l (K l) h
 |fresh k c=>intro K h l;exact c l (K l) h
 |ask k c=>intro K h l;exact c l (K l) h
 |handled o k c=>intro K h l;exact c l (K l) h
 |_=>intro K;exact K.elim
def eM(f:Array Uq->Array Uq)(o:Ve):(Mg f o).dict=o.dict:=by unfold Mg;split<;>rfl
def KD.field(v:Uq)(i:Nat):KD (field v i):=by unfold PySem.field fieldsOf;repeat (first|exact trivial|exact λ_=>trivial|with_reducible refine KD.bind ?_ ?_|intro _|split)
def KD.setField(v:Uq)(i:Nat)(x:Uq):KD (setField v i x):=by unfold Su updateField;repeat (first|exact trivial|exact⟨eM _,trivial⟩|exact λ_=>trivial|with_reducible refine KD.bind ?_ ?_|intro _|split)
def KD.flight(e:Uq)(f:Option Ur):KD (setFlight e f):=by unfold setFlight;repeat (first|exact trivial|exact KD.field _ _|exact KD.setField _ _ _|with_reducible refine KD.bind ?_ ?_|intro _|split)
theorem KD.ready:∀l:List Env,KD (readyFrames l)
 |[]=>trivial
 |env::outer=>by have a:=KD.ready outer;unfold readyFrames behindIsImport keptBack;repeat (first|exact trivial|exact a|exact KD.field _ _|exact⟨λ_=>rfl,trivial⟩|exact λ_=>trivial|with_reducible refine KD.bind ?_ ?_|intro _|split)
def KD.frameOf(env:Env):KD (Pk env):=by have h1:=KD.ready;unfold Pk frameObject frameEnvs;repeat (first|exact trivial|exact h1 _|exact λ_=>trivial|with_reducible refine KD.bind ?_ ?_|intro _|split)
def KD.place(f:Ur)(b:Bool):KD (Qv f b):=by unfold Qv;repeat (first|exact trivial|exact λ_=>trivial|with_reducible refine KD.bind ?_ ?_|intro _|split)
def KD.entry(a b c d e:Uq)(l:List Uq):KD (Oq a b c d e l):=by show KD (if _ then unsupported _>>=λ_=>Sz _ _ _ else Sz _ _ _);have h:∀x:Data,KD (Sz (.type "traceback") x b4):=λx=>λ_=>trivial;repeat (first|exact trivial|exact h _|split)
def KD.note(e:Uq)(env:Env):KD (Sh e env):=by have h2:∀head f,KD (Pk env>>=λa=>Qv f (head != .none)>>=λpl=>Oq head a .none (rawInt f) .none pl>>=λb=>Su e 1 b):=λ_ _=>KD.bind (KD.frameOf _) λ_=>KD.bind (KD.place _ _) λ_=>KD.bind (KD.entry _ _ _ _ _ _) λ_=>KD.setField _ _ _;unfold Sh;repeat (first|exact trivial|exact h2 _ _|exact KD.field _ _|exact KD.setField _ _ _|exact λ_=>h2 _ _|with_reducible refine KD.bind ?_ ?_|intro _|split)
def KD.leave(e:Uq)(env:Env):KD (leaving env e):=KD.bind (KD.note e env) λ_=>KD.flight e b4
end L2
namespace L2
open PySem PySem.Spec PyProof.Rows PySem.W PySem.Builtin PySem.Builtin.ObjectAttr
noncomputable abbrev vbs:List Uq:=[.type "ValueError",.type "Exception",.type "BaseException",.type "object"]
structure XA(K:Ai)(C:Ur):Prop where
 mro:W.mroIn K C (.type "object")=b3 ba
 cls:Rq K (.ref C) "__class__"=b3 (b3 (.builtin "object.__class__"))
 get:W.specialIn K (.builtin "object.__class__") "__get__"=b3 (b3 (.builtin "getset_descriptor.__get__"))
 tak:W.takesIn K (.builtin "object.__class__")=b3 ba
 ga:Rq K (.ref C) "__getattribute__"=b3 (b3 (.builtin "BaseException.__getattribute__"))
 no:Rq K (.ref C) "__getattr__"=b3 b4
 sub:Qk K (.ref C) (.type "BaseException")=b3 ba
structure XG(K:Vj)(C Cp:Ur)(nm:Uv):Prop where
 mro:∃cd,clsIn K C=b3 cd/\cd.mro=.ref C:: .ref Cp::vbs/\cd.hasDict=ba
 non:findIn K (.ref C) nm=b3 b4
 set:findIn K (.ref C) "__setattr__"=b3 (b3 (.builtin "object.__setattr__"))
def xgOk(K:Vj)(C Cp:Ur):Bool:=match clsIn K C with
 |some cd=>cd.mro== .ref C:: .ref Cp::vbs&&cd.hasDict
 |none=>bb
def XG.of{K:Vj}{C Cp:Ur}{nm:Uv}(h:xgOk K C Cp=ba)(a:findIn K (.ref C) nm=b3 b4)(b:findIn K (.ref C) "__setattr__"=b3 (b3 (.builtin "object.__setattr__"))):XG K C Cp nm:=by
 unfold xgOk at h;split at h
 ·rename_i cd hc
  simp only[Af,beq_iff_eq]at h;exact⟨⟨cd,hc,h.1,h.2⟩,a,b⟩
 ·cases h
section
variable{prog:Av}{w:Uy}{A:Bz}{E:Uq->Ae->Prop}{s:Ae}{K:Vj}{x C Cp:Ur}{nm:Uv}{vs:Array Uq}{sl:Array (Option Uq)}{v:Uq}
def kZ{Q:Unit->Ae->Prop}(X:K.In s.heap)(k:s.heap.get? x=b3 ⟨.ref C,b4,.fields vs,sl⟩)(F:XG K C Cp nm)(h:∀h' D tk,(∀b o,b≠x->s.heap.get? b=b3 o->h'.get? b=b3 o)->s.heap.objs.size<=D->D≠x->h'.get? x=b3 ⟨.ref C,b3 D,.fields vs,sl⟩->h'.Ns1 D (λy=>if y=nm then b3 v else b4)->Q () {s with heap:=h',toks:=tk}):Us (Ut prog w) A (setAttr (.ref x) nm v) Q E s:=by
 obtain⟨a,g,d,t,os⟩:=s;obtain⟨cd,hc,B,H⟩:=F.mro;have N:=PySem.F.store_ValueError;have f:=PySem.F.store_object;have l:Looks (Ut prog w) a (Nw (.ref x)) (.ref C):=(Np k).andThen .now;have S:=Hz (M:=Ut prog w) X F.set;have R:=Hz (M:=Ut prog w) X F.non;have P:Looks (Ut prog w) a (mroOf (.ref C)) cd.mro:=(looks_clsIn X hc).andThen .now;have O:=looks_clsIn (M:=Ut prog w) X hc;have sub:Looks (Ut prog w) a (Lp (.ref x) (.type "object")) ba:=l.andThen (looks_mroIn X (by unfold mroIn;rw[hc,Ap,B];rfl));unfold setAttr;refine Aa (Qw (Aa (Aa (Aa (l.at (S.at (Bp (Aa ?_))))))));rw[f.slot.bind];refine Ag (Aa (Hv ?_));refine Fv f.slot.plain f.entry (@check_slot (Ut prog w) _ _ _ "object.__setattr__" "object" "__setattr__" (.ref x) [.str nm t,v] [] _ f.kind f.split sub (f.args (.ref x) (.str nm t) v) ?_);show Us (Ut prog w) A.in1 (Fa.«object.__setattr__» ⟨[.ref x,.str nm t,v],[]⟩) _ _ ⟨a,g,d,t+1,os⟩;rw[osa_eq,refuse_eq];refine Aa (Aa (l.at (Aa (P.at ?_))));rw[B,refuseLoop_ref,refuseLoop_ref,N.passes];refine Ag (Aa (l.at (Aa (R.at (Aa (Ag ?_))))));show Us (Ut prog w) A.in1 (storeInOwnDict (.ref x) (.ref C) (.str nm t) nm v bb) _ _ _;refine Aa (Ag (Aa ?_));show Us (Ut prog w) A.in1 (instanceDict x ba) _ _ _;unfold instanceDict;refine Aa (Od k ?_);dsimp only;refine Aa (O.at ?_);rw[H];have c:x≠a.objs.size:=Au (Ak k);have i:=Ad {cls:=.type "dict",data:=.dict #[]} k;show Us (Ut prog w) A.in1 (alloc {cls:=.type "dict",data:=.dict #[]}>>=_) _ _ _;refine Aa (wpAny_alloc (Aa (wpAny_update i ?_)));show Us (Ut prog w) A.in1 (pure (b3 a.objs.size)) _ _ _;refine Ag ?_;show Us _ _ (storeInDict a.objs.size (.str nm t) nm v) _ _ _;have p:((a.push {cls:=.type "dict",data:=.dict #[]}).update x λo=>{o with dict:=b3 a.objs.size}).get? a.objs.size=b3 {cls:=.type "dict",data:=.dict #[]}:=
  (Gk _ _ c).trans (Heap.get?_push_at rfl rfl)
 have n:((a.push {cls:=.type "dict",data:=.dict #[]}).update x λo=>{o with dict:=b3 a.objs.size}).get? x=b3 ⟨.ref C,b3 a.objs.size,.fields vs,sl⟩:=Gq _ i rfl;have hnd:((a.push {cls:=.type "dict",data:=.dict #[]}).update x λo=>{o with dict:=b3 a.objs.size}).Ns a.objs.size (λ_=>b4):=⟨_,#[],_,p,rfl,λe G=>absurd G (by simp),λ_=>rfl⟩;unfold storeInDict newKeyGuard;refine Aa (Ag (Aa (wpAny_nsSet1 (Heap.Ns1.of_empty hnd) λh' j z=>?_)));obtain⟨T,J,L,m,r,u⟩:=j.count (Within.cons nm v Within.nil);refine Aa (wpAny_lookBehind m (by rw[r];exact pastItsLine_dict (Dw u (by show 1<=_;rw[Bv];lia))) ?_);exact Ag (Ag (Ag (h h' a.objs.size _ (λb o I q=>(z.2 b (Au (Ak q))).trans ((Gk _ _ (Dj I)).trans (Ad _ q))) (Ao _) c.symm ((z.2 x c).trans n) j)))
def nK{a:Ve}{D:Ur}{k:Uv->Option Uq}{Q:Uq->Ae->Prop}{i:Bool}(X:K.In s.heap)(l:s.heap.get? x=b3 a)(b:a.cls=.ref C)(q:a.data=.fields vs)(f:a.dict=b3 D)(u:s.heap.Ns1 D k)(m:k nm=b3 v)(p:handedIn v=ba)(F:XG K C Cp nm)(G:XA K C)(h:Q v {s with toks:=s.toks+1}):Us (Ut prog w) A (getAttr (.ref x) nm i) Q E s:=by
 obtain⟨c,g,d,t,os⟩:=s;obtain⟨cd,hc,O,r⟩:=F.mro;obtain⟨j,B,y⟩:=HZ u;have I:InstAt c x a C (b3 j):=⟨l,b,by unfold notCls;rw[q],by rw[f];exact B⟩;have e:Looks (Ut prog w) c (Nw (.ref x)) (.ref C):=b▸(Np l).andThen .now;have N:=Hz (M:=Ut prog w) X G.ga;have L:=Hz (M:=Ut prog w) X G.no;have J:=looks_subIn (M:=Ut prog w) X G.sub;have H:Looks (Ut prog w) c (find (.ref x) (.ref C) nm) (.value v):=looks_find X I (by unfold findObj;rw[hc,Ap,F.non,Ap];dsimp only;rw[Ap,Ap];dsimp only;unfold W.ownOf;rw[r,if_pos rfl];show(lookIn nm j).bind _=_;rw[y,m];rfl)
 have fb:=PySem.F.excAttr_ValueError.ga.bind (.ref x);have o:builtinKind "BaseException.__getattribute__"=b3 .slot:=by decide+kernel
 have n:splitId "BaseException.__getattribute__"=b3 ("BaseException","__getattribute__"):=by decide+kernel
 have P:=Nr (.ref x) (.str nm t);unfold getAttr getAttrBy;refine Aa (Qw (Bp (Aa (e.at (Aa (N.at ?_))))));show Us _ _ (Ko _ _ _ _ _ _) _ _ _;unfold Ko hookBefore callGetattribute boundAndCalled;repeat (any_goals (first|assumption|with_reducible refine Looks.at e ?_|with_reducible refine Looks.at L ?_|wp_step))
 rw[show(i&&onTheHeap (Tk "BaseException.__getattribute__"))=bb by cases i<;>rfl,fb,if_neg (by decide)];refine Aa (Ag (Hv (Fv PySem.F.excAttr_ValueError.ga.plain Nf (Ax (Q:=λ_ s'=>s'=⟨c,g,d,t+1,os⟩) ?_ (λ_ s' z=>?_) λ_ _ z=>z))))
 ·show Us _ _ (Ml "BaseException.__getattribute__" ⟨[.ref x,.str nm t],[]⟩) _ _ _
  simp only[Ml,o,n];unfold Lp;repeat (any_goals (first|rfl|assumption|with_reducible refine PySem.W.Looks.at e ?_|with_reducible refine PySem.W.Looks.at J ?_|wp_step))
 ·subst z
  show Us _ _ (Fa.«object.__getattribute__» ⟨[.ref x,.str nm t],[]⟩) _ _ _;unfold Fa.«object.__getattribute__»;repeat (any_goals (first|assumption|with_reducible refine Looks.at e ?_|with_reducible refine Looks.at H ?_|wp_step))
  exact handed_on p h
end
structure XH(K:Vj)(Cp:Ur):Prop where
 met:specialIn K (.ref Cp) "__getattribute__"=b3 (b3 (.builtin "type.__getattribute__"))
 rd:readsIn K Cp (.type "type")=ba
 ini:findCls K (.ref Cp) (.type "type") "__init__"=b3 (.val (.builtin "ValueError.__init__"))
section
variable{prog:Av}{w:Uy}{A:Bz}{E:Uq->Ae->Prop}{s:Ae}{K:Vj}{x C Cp N:Ur}{nm q:Uv}{v:Uq}{bs bm:List Uq}{hdct:Bool}{sn:List Uv}{sub:List Uq}{ab:Bool}{col:Option Bool}{dd:Option Ur}{k0 k1 k2 k3 k5:Option Uq}{cn:Uv}
noncomputable abbrev MD(C t:Ur)(d:Option Ur):Ve:={cls:=.ref C,dict:=d,data:=.fields #[.ref t,.none,.none,.none,.bool bb,.none]}
def fU{f:Ur}{u:Uq}{Q:Uq->Ae->Prop}(k:s.heap.get? C=b3 (Gs cn q C N bs bm hdct sn sub ab col dd k0 k1 k2 k3 k5 "ValueError.__new__"))(T:Ot s.heap vbs bm)(a:s.heap.get? x=b3 (MD C f b4))(h:∀h' c,(∀b o,b≠x->s.heap.get? b=b3 o->h'.get? b=b3 o)->s.heap.objs.size<=h'.objs.size->s.heap.get? c=b4->h'.get? x=b3 (MD C c b4)->Q .none {s with heap:=h'}):Us (Ut prog w) A (call (.builtin "ValueError.__init__") [.ref x,u]) Q E s:=by
 obtain⟨e,g,d,t,os⟩:=s;have F:=Hh;refine Hv (Fv F.init.plain F.initEntry (wpAny_check_init_subT F T k a rfl ?_));wp_walk;have i:x≠e.objs.size:=Au (Ak a);refine h _ e.objs.size (λb o j q=>?_) ?_ (Jw (Ao _)) ?_
 ·rw[Gk _ _ (Dj j)]
  exact Ad _ q
 ·rw[Rh,Dq];exact Gr _
 ·exact Gq _ (Ad _ a) rfl
variable{env:Env}{m mg:Uv->Option Uq}{txt:Uv}{j:Nat}{p1 p2 p3 p4 p5 p6 p7 p8 p9 p10:Pos}
def oz{J:Ur}{u:Uq}{pl:Vk Bool}{Q:Flow->Ae->Prop}(a:env.scope.kind=.function)(t:env.kindOf "self"=b3 .local)(S:env.kindOf nm=b3 .local)(U:env.kindOf "PackError"=b3 .globalImplicit)(L:s.heap.Ns env.locals m)(m1:m "self"=b3 (.ref x))(m2:m nm=b3 u)(G:s.heap.Ns env.globals mg)(g1:mg "PackError"=b3 (.ref Cp))(l:env.locals≠x)(R:env.globals≠x)(X:K.In s.heap)(XI:∀h':Vb,(∀b o,b≠x->s.heap.get? b=b3 o->h'.get? b=b3 o)->K.In h')(Z:s.heap.get? C=b3 (Gs cn q C N bs bm hdct sn sub ab col dd k0 k1 k2 k3 k5 "ValueError.__new__"))(Y:C≠x)(T:Ot s.heap vbs bm)(P:s.heap.get? x=b3 (MD C J b4))(F:XG K C Cp nm)(W:XH K Cp)(V:eval (.Call (.Attribute (.Name "PackError" p1) "__init__" p2) [.Name "self" p3,.Constant (.str txt) j p4] [] p5) env=(do
   let p<-eval (.Name "PackError" p1) env
   Ly p2.atName
   let (f,first)<-Of [p] (getMethod p "__init__" pl)
   Pl p5 f first (Dx p5 (Uu [.Name "self" p3,.Constant (.str txt) j p4] env)) (Ho p5 (Fb [] env))))
  (k:Vc (.Call (.Attribute (.Name "PackError" p1) "__init__" p2) [.Name "self" p3,.Constant (.str txt) j p4] [] p5) b4 p6.line env=pure bb) (i:Vc (.Name nm p9) (b3 (.Attribute (.Name "self" p7) nm p8)) p10.line env=pure bb)
  (n:(nm==("__debug__":Uv))=bb)
  (h:∀h' c D tk,(∀b o,b≠x->s.heap.get? b=b3 o->h'.get? b=b3 o)->s.heap.get? c=b4->s.heap.objs.size<=D->h'.get? x=b3 (MD C c (b3 D))->h'.Ns1 D (λy=>if y=nm then b3 u else b4)->D≠x->Q .next {s with heap:=h',toks:=tk}):
  Us (Ut prog w) A (execs [.Expr (.Call (.Attribute (.Name "PackError" p1) "__init__" p2) [.Name "self" p3,.Constant (.str txt) j p4] [] p5) p6,.Assign [.Attribute (.Name "self" p7) nm p8] (.Name nm p9) p10] env) Q E s:=by
 refine Ju (wpAny_Expr_any ?_ (by simp[Ry,a]) k);refine methodCall_KW (pl:=pl) (Hf a U (Lx G g1 ?_)) V;refine method_cls X W.met (cls_value X W.rd W.ini (by decide+kernel) ?_);refine Fl rfl (Em (x:=eval (.Name "self" p3) env) (rest:=[(bb,eval (.Constant (.str txt) j p4) env)]) ?_);refine Ex (Ll (Hi a t L m1 ?_));refine Ex (Oy (Gz ?_));refine fU Z T P λh1 c k1 B O I=>?_;refine Ju (plainObj_wpAny_Assign_Attribute ?_ i);have z:h1.Ns env.locals m:=by obtain⟨o,es,ep,e,r⟩:=L;exact⟨o,es,ep,k1 _ _ l e,r⟩
 refine Ll (Hi a S z m2 ?_) n;refine Ll (Hi a t z m1 ?_);refine kZ (XI h1 k1) I F λh2 D tk k2 M g H d=>Gm (h h2 c D tk (λb o v q=>k2 b o v (k1 b o v q)) O (Dw B M) H d g)
structure G9(K:Vj)(qual:Uv)(st:Vd)(nm txt:Uv)(f:Ur)(fd:Cj):Prop where
 fn:QP K "__init__" qual st f fd
 sc:Z7 ["self",nm] ["self",nm] (b5 st)
 bd:SS K fd ["self",nm] []
 s1:(b5 st).names.lookup ("self":Uv)=b3 .local
 s2:(b5 st).names.lookup nm=b3 .local
 s3:(b5 st).names.lookup ("PackError":Uv)=b3 .globalImplicit
 ne:(nm==("self":Uv))=bb
 db:(nm==("__debug__":Uv))=bb
 tx:∃(p1 p2 p3 p4 p5 p6 p7 p8 p9 p10:Pos) (j:Nat) (pl:Ur->Uq->Vk Bool),Z1 st=[.Expr (.Call (.Attribute (.Name "PackError" p1) "__init__" p2) [.Name "self" p3,.Constant (.str txt) j p4] [] p5) p6,.Assign [.Attribute (.Name "self" p7) nm p8] (.Name nm p9) p10]∧
  (∀L cd,eval (.Call (.Attribute (.Name "PackError" p1) "__init__" p2) [.Name "self" p3,.Constant (.str txt) j p4] [] p5) (envOfC qual (b5 st) L f cd)=(do
   let ov<-eval (.Name "PackError" p1) (envOfC qual (b5 st) L f cd)
   Ly p2.atName
   let (f1,first)<-Of [ov] (getMethod ov "__init__" (pl L cd))
   Pl p5 f1 first (Dx p5 (Uu [.Name "self" p3,.Constant (.str txt) j p4] (envOfC qual (b5 st) L f cd))) (Ho p5 (Fb [] (envOfC qual (b5 st) L f cd)))))∧
  (∀L cd,Vc (.Call (.Attribute (.Name "PackError" p1) "__init__" p2) [.Name "self" p3,.Constant (.str txt) j p4] [] p5) b4 p6.line (envOfC qual (b5 st) L f cd)=pure bb)/\∀L cd,Vc (.Name nm p9) (b3 (.Attribute (.Name "self" p7) nm p8)) p10.line (envOfC qual (b5 st) L f cd)=pure bb
def nB{qual:Uv}{st:Vd}{fI:Ur}{fd:Cj}{E:Ur}{u:Uq}{R:Tv->Ae->Prop}(S:A.depth<Fg)(I:G9 K qual st nm txt fI fd)(X:K.In s.heap)(Xx:K.lookup x=b4)(i:s.heap.NoLimit)(G:s.heap.Ns Uw mg)(P:mg "PackError"=b3 (.ref Cp))(t:s.heap.get? C=b3 (Gs cn q C N bs bm hdct sn sub ab col dd k0 k1 k2 k3 k5 "ValueError.__new__"))(T:Ot s.heap vbs bm)(f:s.heap.get? x=b3 (MD C E b4))(F:XG K C Cp nm)(W:XH K Cp)(h:∀h' d D tk,(∀b o,b≠x->s.heap.get? b=b3 o->h'.get? b=b3 o)->s.heap.get? d=b4->s.heap.objs.size<=D->h'.get? x=b3 (MD C d (b3 D))->h'.Ns1 D (λy=>if y=nm then b3 u else b4)->D≠x->R (.ok (.ret .none)) {s with heap:=h',toks:=tk}):Hj (Ut prog w) A (.call (.ref fI) ⟨[.ref x,u],[]⟩) R s:=by
 obtain⟨oc,od,kV,doc,pm,an,a,ct,H,rfl,J,p⟩:=I.fn.ex;have U:∀y∈(["self",nm]:List Uv).zip [Ay x,u],(b5 st).names.lookup y.1=b3 .local∨((b5 st).names.lookup y.1=b3 .cell/\((Vg (s.heap.objs.size+1) (b5 st).names []).lookup y.1).isSome=ba):=λ⟨n,v⟩ L=>by
  rcases I.sc.par n (Ik L).1 with q|q
  ·exact .inl q
  ·exact .inr ⟨q,PySem.W.cellsFrom_some _ _ _ (.inl q)⟩
 have r:=I.bd s [.ref x,u] X rfl;refine Jo S (X _ _ J) rfl I.sc.co I.sc.gen rfl (PySem.W.codeRec_of X p) (r _ _ _ _ ?_);refine Hg I.sc.kind U λenv M s1 c=>?_;subst M;refine⟨i.keeps c.toInCall.keep,Qs ?_⟩;obtain⟨p1,p2,p3,p4,p5,p6,p7,p8,p9,p10,j,pl,ak,h1,h2,O⟩:=I.tx;have kp:=c.toInCall.keep;obtain⟨l,B,g⟩:=c.toInCall.same;subst g;show Us _ _ (execs (Z1 st) (envOfC qual (b5 st) s.heap.objs.size fI a)) _ _ _;rw[ak];have q1:(envOfC qual (b5 st) s.heap.objs.size fI a).kindOf "self"=b3 .local:=I.s1;have q2:(envOfC qual (b5 st) s.heap.objs.size fI a).kindOf nm=b3 .local:=I.s2;refine oz (m:=bindL (envOfC qual (b5 st) s.heap.objs.size fI a).kindOf ((["self",nm]:List Uv).zip [Ay x,u]) λ_=>b4) (mg:=mg) (x:=x) (u:=u) (Cp:=Cp) (K:=K) I.sc.kind I.s1 I.s2 I.s3 c.toInCall.ns ?_ ?_ (G.keeps kp) P ?_ ?_ (X.keeps kp) ?_ (kp _ _ t) ?_ (T.keeps kp) (kp _ _ f) F W (h1 _ _) (h2 _ _) (O _ _) I.db ?_
 ·simp only[Pm,Po,bindL,q1,q2,if_pos]
  rw[if_neg (λz=>by have:=I.ne;rw[<-z]at this;simp at this)]
 ·simp only[Pm,Po,bindL,q1,q2,if_pos]
 ·exact λz=>absurd (Ak f) (by rw[show x=s.heap.objs.size from z.symm];exact Ci _)
 ·intro z
  obtain⟨o,es,ep,g,Q,_⟩:=G;rw[show Uw=x from z,f]at g;cases g;cases Q
 ·intro h' k b o e
  exact k b o (λz=>by rw[z,Xx]at e;cases e) (X.keeps kp b o e)
 ·intro z
  rw[z,f]at t;cases t
 ·intro h' d D tk c1 c2 c3 Z Y V
  have out:∀b,l.get? b=b4->s.heap.get? b=b4:=λb z=>by
   cases e:s.heap.get? b with
   |none=>rfl
   |some o=>
    have:=kp b o e
    rw[show l.get? b=b4 from z]at this;cases this
  have big:s.heap.objs.size<=l.objs.size:=by obtain⟨o,es,ep,e,_⟩:=c.toInCall.ns;exact La (Pe c.toInCall.fresh (Ak e))
  exact h h' d D tk (λb o r q=>c1 b o r (kp b o q)) (out _ c2) (Dw big c3) Z Y V
end
structure Vr(h h':Vb)(e C:Ur)(nm:Uv)(u:Uq):Prop where
 keeps:∀b o,h.get? b=b3 o->h'.get? b=b3 o
 new:h.get? e=b4
 there:∃t D,h'.get? e=b3 (MD C t (b3 D))/\h.get? t=b4/\h.objs.size<=D/\D≠e/\h'.Ns1 D (λy=>if y=nm then b3 u else b4)
section
variable{prog:Av}{w:Uy}{A:Bz}{E:Uq->Ae->Prop}{s:Ae}{K:Vj}{C Cp N:Ur}{nm q:Uv}{v:Uq}{bs bm:List Uq}{hdct:Bool}{sn:List Uv}{sub:List Uq}{ab:Bool}{col:Option Bool}{dd:Option Ur}{k0 k1 k2 k3 k5:Option Uq}{cn qual txt:Uv}
 {mN mg:Uv->Option Uq}{fI:Ur}{st:Vd}{fd:Cj}{u:Uq}
def gM{Q:Fin->Ae->Prop}(k:A.depth+1<Fg)(j:K.In s.heap)(i:s.heap.NoLimit)(G:s.heap.Ns Uw mg)(v:mg "PackError"=b3 (.ref Cp))(f:s.heap.get? C=b3 (Gs cn q C N bs bm hdct sn sub ab col dd k0 k1 k2 k3 k5 "ValueError.__new__"))(p:s.heap.Ns N mN)(r:mN "__init__"=b3 (.ref fI))(y:typeIn K (.ref fI)=b3 (.type "function"))(tl:Ot s.heap vbs bm)(I:G9 K qual st nm txt fI fd)(P:XG K C Cp nm)(W:XH K Cp)(h:∀h' e tk,Vr s.heap h' e C nm u->Q (.done (.ret (.ref e))) {s with heap:=h',toks:=tk}):Us (Ut prog w) A (Fa.«type.__call__» ⟨[.ref C,u],[]⟩) Q E s:=by
 obtain⟨a,g,d,t,os⟩:=s;have B:=Hh;repeat (first|with_reducible refine He f ?_|with_reducible refine wpAny_madeBy_exc f ?_|wp_step)
 refine codeAny_call_builtin_code (Iq _ B.quiet) (wpAny_check_new_subT B tl f (codeAny_exc_new_subT B tl f ?_ (by show 1<=sizeLine;decide)));have kp:∀b o,a.get? b=b3 o->((a.push {cls:=.type "tuple",data:=.seq [u].toArray}).push (MD C a.objs.size b4)).get? b=b3 o:=λb o e=>Ad _ (Ad _ e);have l:((a.push {cls:=.type "tuple",data:=.seq [u].toArray}).push (MD C a.objs.size b4)).get? (a.objs.size+1)=b3 (MD C a.objs.size b4):=by heap_get
 have F:(Ay C::bm).contains (.ref C)=ba:=by simp
 have c:=kp _ _ f;show Us _ _ _ _ _ _;unfold Lp;repeat (first|with_reducible refine He l ?_|(with_reducible refine Ov c ?_;rw[F])|wp_step)
 show Us _ _ (typeLookup (.ref C) _) _ _ _;refine wpAny_typeLookup_tail c (p.keeps kp) (tl.keeps kp) B.mroIs B.init.lookup ?_;rw[r];refine Bp (Aa ((bind_fn (j.keeps kp) _ y).here (Aa (Hv ?_))));have m:∀b,a.objs.size<=b->a.get? b=b4:=λb z=>Jw z;have S:K.lookup (a.objs.size+1)=b4:=by
  cases e:K.lookup (a.objs.size+1)with
  |none=>rfl
  |some o=>
   have:=j _ _ e
   rw[show(⟨a,g,d,t,os⟩:Ae).heap.get? (a.objs.size+1)=b4 from m _ (Gr _)]at this;cases this
 have back:∀b,((a.push {cls:=.type "tuple",data:=.seq [u].toArray}).push (MD C a.objs.size b4)).get? b=b4->a.get? b=b4:=λb z=>by
  cases e:a.get? b with
  |none=>rfl
  |some o=>rw[kp b o e]at z;cases z
 refine nB (x:=a.objs.size+1) (u:=u) (C:=C) (mg:=mg) (Lq k) I (j.keeps kp) S (i.keeps kp) (G.keeps kp) v c (tl.keeps kp) l P W λh' n D tk R O M L J H=>Ag ?_;show Us _ _ (ret _) _ _ _;refine Ag (h h' (a.objs.size+1) tk ⟨λb o e=>R b o (Au (Nat.lt_succ_of_lt (Ak e))) (kp b o e),m _ (Gr _),n,D,L,back _ O,Dw (by rw[Dq,Dq];exact Nat.le_succ_of_le (Gr _)) M,H,J⟩)
def fE{Q:Uq->Ae->Prop}(c:A.depth+2<Fg)(k:K.In s.heap)(b:s.heap.NoLimit)(G:s.heap.Ns Uw mg)(l:mg "PackError"=b3 (.ref Cp))(a:s.heap.get? C=b3 (Gs cn q C N bs bm hdct sn sub ab col dd k0 k1 k2 k3 k5 "ValueError.__new__"))(f:s.heap.Ns N mN)(i:mN "__init__"=b3 (.ref fI))(m:typeIn K (.ref fI)=b3 (.type "function"))(tl:Ot s.heap vbs bm)(I:G9 K qual st nm txt fI fd)(P:XG K C Cp nm)(W:XH K Cp)(h:∀h' e tk,Vr s.heap h' e C nm u->Q (.ref e) {s with heap:=h',toks:=tk}):Us (Ut prog w) A (call (.ref C) [u]) Q E s:=by
 obtain⟨j,g,d,t,os⟩:=s;have f1:=tc_lookup;have f2:=tc_bind (.ref C);have n:(⟨j,g,d,t,os⟩:Ae).TypeIs (.ref C) "type":=⟨_,a,rfl⟩;refine Hv (codeAny_of_tree (show Us _ _ (callAny (.ref C) _) _ _ _ from ?_));repeat (any_goals (first|assumption|with_reducible refine He a ?_|wp_step))
 refine⟨rfl,codeAny_call_builtin_at (Iq _ (by decide+kernel)) entry_typeCall (wpAny_check_type_call_sub a ?_)⟩;exact gM (mg:=mg) (by show A.depth+(Ub "type.__call__" ⟨[Ay C,u],[]⟩).weight+1<Fg;rw[show(Ub "type.__call__" ⟨[Ay C,u],[]⟩).weight=1 by kernel_rfl];exact c) k b G l a f i m tl I P W λh' e tk M=>h h' e tk M
def nA{x:Uv}{o af pos:Pos}{args:List Ux}{env:Env}{Q:Flow->Ae->Prop}(J:bm.contains (.type "BaseException")=ba)(H:A.handled=b4)(m:A.depth+2<Fg)(pl:(Dx af (Uu args env)).any (·.1)=bb)(h:Us (Ut prog w) A (eval (.Name x o) env) (λf c=>f=.ref C/\Us (Ut prog w) A (evalArgs (.ref C) ba (Dx af (Uu args env)) []) (λa b=>∃u,a=⟨[u],[]⟩/\K.In b.heap/\b.heap.NoLimit/\b.heap.Ns Uw mg/\mg "PackError"=b3 (.ref Cp)/\b.heap.get? C=b3 (Gs cn q C N bs bm hdct sn sub ab col dd k0 k1 k2 k3 k5 "ValueError.__new__")/\b.heap.Ns N mN/\mN "__init__"=b3 (.ref fI)/\typeIn K (.ref fI)=b3 (.type "function")/\Ot b.heap vbs bm∧G9 K qual st nm txt fI fd/\XG K C Cp nm/\XH K Cp/\∀h' e tk,Vr b.heap h' e C nm u->E (.ref e) {b with heap:=h',toks:=tk}) E c) E s):Us (Ut prog w) A (exec (.Raise (b3 (.Call (.Name x o) args [] af)) b4 pos) env) Q E s:=by
 rw[arm_exec_Raise];simp only[evalOpt,Up];refine Aa (Dz ?_);unfold raiseStmt;have T:(Ay C::bm).contains (.type "BaseException")=ba:=by rw[List.contains_cons,J,Uc]
 refine Aa (Ax (Q:=λv c=>∃e t D,v=.ref e/\c.heap.get? C=b3 (Gs cn q C N bs bm hdct sn sub ab col dd k0 k1 k2 k3 k5 "ValueError.__new__")/\c.heap.get? e=b3 (MD C t D)/\E (.ref e) c) (Aa (Ax (wpAny_Call_ofName (Ax h (λf c i=>?_) λ_ _ x=>x)) (λv n k=>Aa (Dz (Ag k))) λ_ _ x=>x)) (λv c z=>?_) λ_ _ z=>z)
 ·obtain⟨rfl,i⟩:=i
  unfold Pl;refine Aa (Bp (Ax i (λa b z=>Aa (Dz ?_)) λ_ _ x=>x));obtain⟨u,rfl,L,l,G,R,j,y,B,S,tl,I,P,W,z⟩:=z;obtain⟨F,g,d,tk,os⟩:=b;simp only[pl];refine Aa (wpAny_keeperOf_exc j (Aa (fE (mg:=mg) m L l G R j y B S tl I P W λh' e tk M=>Aa (Bp (wpAny_point (Ag ?_))))));obtain⟨t,D,p,_⟩:=M.there;exact⟨e,t,b3 D,rfl,M.keeps _ _ j,p,z h' e tk M⟩
 ·obtain⟨e,t,D,rfl,j,r,O⟩:=z
  obtain⟨F,g,d,tk,os⟩:=c;repeat (first|with_reducible refine He r ?_|with_reducible refine He j ?_|(with_reducible refine Ov j ?_;rw[T])|wp_step)
  exact wpAny_raiseNew_none H O
end
end L2
namespace L2
open PySem PySem.Spec PyProof.Rows
noncomputable def em2(e it2:Ux)(acc:Uq)(env:Env):Vk Unit:=do
 let x<-eval it2 env
 Ly it2.pos
 let x<-Uz it2 env x
 let _<-runOwn (.compStart e 1 (<-Of [x] (Rz x)) acc env) env
noncomputable def twoG(tg iter it2:Ux)(ifs:List Ux)(e:Ux)(it acc:Uq)(env:Env):Vk Ph:=do
 Ly iter.pos
 match<-pyNext it with
 |none=>pure (.done .next)
 |some v=>
  Go tg it v
  Gg tg env v
  let mut ok:=ba
  for c in ifs do
   if ok then ok<-isTrue c env (eval c env)
  if ok then
   let x<-eval it2 env
   Ly it2.pos
   let x<-Uz it2 env x
   let _<-runOwn (.compStart e 1 (<-Of [x] (Rz x)) acc env) env
  Ul (.compLoop e 0 it acc env)
section
variable{e tg iter tg2 it2:Ux}{ifs am:List Ux}{acc:Uq}{env:Env}
def dR{it:Uq}:twoG tg iter it2 ifs e it acc env=Wv iter.pos tg ifs (em2 e it2 acc env) e 0 it acc env:=by unfold twoG Wv em2;simp only[bind_assoc,pure_bind]<;>rfl
def lpL2{elt:Ux}{scope:Vf}{pos:Pos}{D:Ur}:JI (.ListComp elt [⟨tg,iter,ifs,0⟩,⟨tg2,it2,am,0⟩] scope pos) 0 tg ifs (em2 (.ListComp elt [⟨tg,iter,ifs,0⟩,⟨tg2,it2,am,0⟩] scope pos) it2 (.ref D) env) (.ref D) env:=⟨⟨iter.pos,λ_=>dR (e:=.ListComp elt [⟨tg,iter,ifs,0⟩,⟨tg2,it2,am,0⟩] scope pos)⟩,λ_ _ _ _ _ _ _ h=>h,λ_ _ _ _ _ _ _ h=>h,λ_=>rfl,_,rfl,rfl⟩
def lpL3{elt:Ux}{scope:Vf}{pos:Pos}{D:Ur}:JI (.ListComp elt [⟨tg,iter,ifs,0⟩,⟨tg2,it2,am,0⟩] scope pos) 1 tg2 am (emL D elt env) (.ref D) env:=⟨⟨it2.pos,λ_=>rfl⟩,λ_ _ _ _ _ _ _ h=>h,λ_ _ _ _ _ _ _ h=>h,λ_=>rfl,_,rfl,rfl⟩
end
section
variable{Y:Cx}{e it2 tg2:Ux}{am:List Ux}{wi:TI}{g:TG}{tt:TT}{em:Vk Unit}{tm:TM}{acc:Uq}
inductive TM2(wi:TI)(g:TG)(tt:TT)(tm:TM)(N:St->Hp->Prop)(σ:St)(J:It)(H0:Hp):Prop
 |mk (W:Nat->Nat->St->Hp->Prop) (m:Nat) (h0:W 0 m σ H0) (h1:∀i m σ1 H1,W i m σ1 H1->(J.stop i H1/\N σ1 H1)∨
  (J.go i H1/\ ∃N2:St->Hp->Prop,(∀σ' H',N2 σ' H'-> ∃m',m'<m/\W (i+1) m' σ' H')∧
   ∀x H2,J.yld i H1 x H2->g x σ1 H2 λσ2 H3=>tt σ2 H3 λb H4=>if b=ba then tm σ2 H4 N2 else N2 σ2 H4)):TM2 wi g tt tm N σ J H0
def tm2(wi:TI)(g:TG)(tt:TT)(tm:TM):TM:=λσ H N=>wi σ H (TM2 wi g tt tm N σ)
def eB(M:Y.xe=λ_ _=>False)(hc:Y.calm=ba)(hi:PI Y tg2 it2 wi)(hg:PG Y tg2 g)(ht:PTs Y am tt)(L:JI e 1 tg2 am em acc Y.env)(he:PM Y em tm)(hs:∀x,Uz it2 Y.env x=pure x):PM Y (em2 e it2 acc Y.env) (tm2 wi g tt tm):=by
 intro aa s σ H N I h;have nx:∀{α:Sort _}{x:Uq}{s:Ae},Y.xe x s->α:=λz=>by rw[M]at z;exact z.elim
 refine Aa (Ax (hi aa s σ H _ I h) (λv s1 h1=>Aa (Dz (Aa (Oj (hs v) (Aa (Bp (Ax h1 (λitv s2 h2=>?_) λ_ _ z=>nx z))))))) λ_ _ z=>nx z);obtain⟨it,fp,R,J,H2,ei,I2,T,E,f2,W,m0,w0,turn⟩:=h2;subst ei;have stat:∀{H':Hp},(∀b∈fp,H' b=b4)->∀b∈fp,J1 Y aa H' b:=λhn b l=>⟨hn b l,(f2 b l).2⟩;refine Aa (wpAny_runOwn ?_);have loop:∀k:Ae,k=s2->Hj (Ut Y.prog Y.w) Y.A (.compLoop e 1 (.ref it) acc Y.env) (λr B=>match r with|.ok _=>∃a H',bS Y aa a H' B/\N a H'|.error _=>False) k:=by
  rintro k rfl;refine cM L (λn s'=>∃i a H',bS Y aa a H' s'/\R i s'.heap/\(∀b∈fp,H' b=b4)/\W i n a H') ?_ m0 ⟨0,σ,H2,I2,E,λb l=>(f2 b l).1,w0⟩;rintro n s3 ⟨i,j,G,V,D,F,w3⟩;rcases turn i n j G w3 with⟨C,qn⟩|⟨go,N2,hN,step⟩
  ·refine Ax (T.done Y rfl rfl rfl hc i aa s3 j G (λ_ _ => False) V (stat F) D C) (λr s4 ⟨O,I4⟩ => ?_) λ_ _ z => z
   subst O;exact⟨j,G,I4,qn⟩
  ·refine Ax (T.item Y rfl rfl rfl hc i aa s3 j G (λ_ _ => False) V (stat F) D go) (λr s4 ⟨u,O,h4⟩ => ?_) λ_ _ z => z
   subst O;refine Ax h4 (λ_ s5 ⟨x,X,I5,r5,y5,p,P⟩=>?_) λ_ _ z=>z;have Q:=I5.pinned (stat P) (T.obj _ _ p);refine Ax (hg _ s5 j X x u _ Q r5 (step x X y5)) (λ_ s6 ⟨y,H6,I6,q6⟩=>?_) λ_ _ z=>nx z;have again:∀{c:St}{q:Hp}{s7:Ae},bS Y (aa++NN fp s5.heap) c q s7->N2 c q->∃m,m<n/\∃i a H',bS Y aa a H' s7/\R i s7.heap/\(∀b∈fp,H' b=b4)/\W i m a H':=λ{c q s7} t n7=>by obtain⟨m',hm,w7⟩:=hN c q n7;refine⟨m',hm,i+1,c,q,t.unpinned,T.keep _ _ _ p λb l o e=>(t.pin (b,o) (Be _ (Be _ (W8 l e)))).1,λb l=>?_,w7⟩;obtain⟨o,e,d⟩:=T.obj _ _ p b l;exact(t.pin (b,o) (Be _ (Be _ (W8 l e)))).2.1
   refine Ax (ht _ s6 y H6 _ I6 q6) (λK s7 ⟨q,t,S⟩=>?_) λ_ _ z=>nx z;cases K with
   |false=>exact again t S
   |true=>exact Ax (he _ s7 y q _ t S) (λ_ s8 ⟨Z,H8,I8,n8⟩=>again I8 n8) λ_ _ z=>z
 refine Hw (dH L (loop _ rfl) (T.self _ 0 _ _ _ E (loop _ rfl))) λr s6 U=>?_;cases r with
 |ok f=>exact Ag U
 |error e=>exact U.elim
end
structure Blk2(Y:Cx)(tg:Ux)(ifs:List Ux)(tg2 it2:Ux)(am:List Ux)(elt:Ux)(g:TG)(tt:TT)(wi2:TI)(g2:TG)(tt2:TT)(te:TE):Prop where
 tg:PG Y tg g
 ts:PTs Y ifs tt
 it:PI Y tg2 it2 wi2
 tg2:PG Y tg2 g2
 ts2:PTs Y am tt2
 el:PE Y elt te
abbrev nj(ix:List Nat)(nl:Nat)(wi:TI)(g:TG)(tt:TT)(a:TI)(c:TG)(b:TT)(te:TE):TE:=GW ix nl wi g tt λD=>tm2 a c b (tmL te D)
def Blk2.g{X:Cx}{N':List Uv}{scope:Vf}{tg iter tg2 it2 elt:Ux}{ifs am:List Ux}{pos:Pos}{g l:TG}{tt b:TT}{a:TI}{te:TE}(hc:X.calm=ba)(c:∀(env:Env) (x:Uq),Uz it2 env x=pure x)(i:∀(cl:List (Uv×Ur)) (s1:Ae) (H1:Hp) (fp:List Ur),Blk2 (Z8 X N' scope cl s1 H1 fp) tg ifs tg2 it2 am elt g tt a l b te)(cl:List (Uv×Ur))(s1:Ae)(H1:Hp)(fp:List Ur):BlkG (Z8 X N' scope cl s1 H1 fp) (.ListComp elt [⟨tg,iter,ifs,0⟩,⟨tg2,it2,am,0⟩] scope pos) tg ifs g tt λD=>tm2 a l b (tmL te D):=
 let ⟨e,d,j,f,h,k⟩:=i cl s1 H1 fp
 ⟨e,d,λD=>⟨_,lpL2,eB rfl hc j f h lpL3 (cW rfl k) λx=>c _ x⟩⟩
noncomputable def inrV(gg:VG)(tb:VB)(fe:VF):List cH->List cH->Ev->Option (List cH×Ev)
 |[],acc,δ=>b3 (acc,δ)
 |d::r,acc,δ=>(gg d δ).bind λδ1=>(tb δ1).bind λp=>if p.1=ba then(fe p.2).bind λq=>if acc.length<16777216 then inrV gg tb fe r (acc++[q.1]) q.2 else b4 else inrV gg tb fe r acc p.2
def PR(n nl:Nat)(gg:VG)(tb:VB)(c:VI)(b:VG)(a:VB)(fe:VF):List cH->List cH->Ev->Option (List cH×Ev)
 |[],acc,δ=>b3 (acc,δ)
 |d::r,acc,δ=>(gg d (δ++IE nl)).bind λδ1=>(tb δ1).bind λp=>if p.1=ba then(c p.2).bind λu=>(inrV b a fe u.1 acc u.2).bind λq=>PR n nl gg tb c b a fe r q.1 (q.2.take n)else PR n nl gg tb c b a fe r acc (p.2.take n)
def RM(ix:List Nat)(nl:Nat)(fi:VI)(gg:VG)(tb:VB)(c:VI)(b:VG)(a:VB)(fe:VF):VF:=λδ=>(fi δ).bind λp=>(PR ix.length nl gg tb c b a fe p.1 [] (aI ix p.2)).map λq=>(.lst q.1,ZO ix q.2 p.2)
section
variable{X:Cx}{K:Ai}{ml:List Nat}{e a b c:Ux}{es:List Ux}{pi pt pe pi2 pt2 pu bt bi ps bs:Bool}{f:VF}{B B':Bs}{O:Nat->Option Ur}{H H0 H1 H':Hp}{σ:St}{δ δ':Ev}{v:V}{d:cH}{p:Ur}{pos:Pos}{ix:List Nat}{nl:Nat}
def EQ{fi F:VI}{gg s:VG}{tb r:VB}{fe:VF}(hnd:ix.Nodup){Q:VK}(h:TN K ml (pi&&(pt&&pi2&&pt2&&pe)) (RM ix nl fi gg tb F s r fe) σ H Q):nj ix nl (JV K ml pi fi) (BE K (As ix.length) gg) (TB K (As ix.length) pt tb) (JV K (As ix.length) pi2 F) (BE K (As ix.length) s) (TB K (As ix.length) pt2 r) (TV K (As ix.length) pe ba ba fe) σ H Q:=by
 obtain⟨B,O,δ,d,δ2,S,q,k⟩:=h;unfold RM at q;obtain⟨⟨ds,δ1⟩,h1,q⟩:=Ac.mp q;have q:((PR ix.length nl gg tb F s r fe ds [] (aI ix δ1)).map λq=>(cH.lst q.1,ZO ix q.2 δ1))=b3 (d,δ2):=q;obtain⟨⟨res,δf⟩,h2,q⟩:=Aj.mp q;cases q;refine⟨B,O,δ,ds,δ1,S,h1,λJ g H0 S0 f0 p0 wk D Z=>?_⟩;have hDO:∀j,Oc ix O j≠b3 D:=λj e=>by unfold Oc at e;obtain⟨i,hi,e⟩:=Ac.mp e;obtain⟨o,q⟩:=S0.nin (.inr ⟨i,e⟩);rw[Z]at q;cases q
 have df:∀kp j,ix.length<=j->(Bc ix B O H0 D kp).mu j=b4:=λkp j hj=>by show(ix[j]?).bind O=b4;rw[Ct hj];rfl
 refine⟨λi m H1=>m=ds.length-i/\i<=ds.length/\∃(acc:List V) (G:List cH) (n:Ev),n.length=ix.length/\acc.length=G.length∧
   aP K (As ix.length) (Bc ix B O H0 D (g++acc.zip G)) (Oc ix O) H1 (YV ix σ++Az nl b4) (n++IE nl)/\H1 D=b3 (.lst acc)/\((pt&&pi2&&pt2&&pe)=ba->aN H0 H1)∧
   PR ix.length nl gg tb F s r fe (ds.drop i) G n=b3 (res,δf),
  ds.length,⟨rfl,Cn _,[],[],aI ix δ1,by simp[aI],rfl,by rw[Qf,Dk];exact S0.unkeep.inner Z hnd λp I=>S0.kep p (Bf _ I),bU,λ_=>b7 Z,h2⟩,?_⟩
 rintro i m H1 ⟨rfl,hi,acc,G,n,hlc,ay,S1,hD1,cb,hc⟩;have w:=wk (Nn (Bc ix B O H0 D (g++acc.zip G)) (Oc ix O)) H1 λp I=>S1.kep p (Bf _ I);by_cases X:i<ds.length
 ·obtain ⟨go,yl⟩ := w.1 i ds[i] (by simp [X])
  rw[Dn X]at hc;simp only[PR]at hc;obtain⟨δ3,g1,hc⟩:=Ac.mp hc;obtain⟨⟨kk,N⟩,g2,hc⟩:=Ac.mp hc;refine .inr ⟨go,λH'=>∃(Y:List V) (G:List cH) (n:Ev),n.length=ix.length/\Y.length=G.length∧
   aP K (As ix.length) (Bc ix B O H0 D (g++Y.zip G)) (Oc ix O) H' (YV ix σ++Az nl b4) (n++IE nl)/\H' D=b3 (.lst Y)/\((pt&&pi2&&pt2&&pe)=ba->aN H0 H')∧
   PR ix.length nl gg tb F s r fe (ds.drop (i+1)) G n=b3 (res,δf),λH' w'=>⟨ds.length-(i+1),by lia,rfl,X,w'⟩,λx H2 hy=>?_⟩
  obtain⟨sm,rx⟩:=yl x H2 hy;refine⟨_,_,_,ds[i],δ3,S1.same sm,rx,g1,λσ3 O3 S3 m3=>?_⟩;have W:=Yh m3;have C:=IW W m3;refine⟨C,_,_,δ3,kk,N,S3,g2,λH4 R=>?_⟩;have hD4:H4 D=b3 (.lst acc):=R.frm _ _ (sm _ _ hD1) λz=>by
   obtain⟨j,e⟩:=z;have:=(R.sta.old j D e).1
   exact absurd (.inl (.inr rfl)) this
  have ln4:ix.length<=N.length:=by rw[<-R.sta.len];exact W
  cases kk with
  |false=>
   rw[if_neg Ch]at hc;refine NG ⟨acc,G,N.take ix.length,by rw[Cf];lia,ay,R.sta.turn (df _) (WQ ix σ) C ln4,hD4,λz=>?_,hc⟩;simp only[Af]at z;exact((cb (by simp[z.1.1.1,z.1.1.2,z.1.2,z.2])).trans sm).trans (R.pur z.1.1.1)
  |true=>
   rw[if_pos rfl]at hc;obtain⟨⟨f,δ5⟩,g3,hc⟩:=Ac.mp hc;obtain⟨⟨dn,y⟩,g4,hc⟩:=Ac.mp hc;refine NH ⟨_,_,N,f,δ5,R.sta,g3,λJ2 d6 H5 S5 f5 p5 wk2=>?_⟩;have hD5:H5 D=b3 (.lst acc):=f5 _ _ hD4 λz=>by
    obtain⟨j,e⟩:=z;have:=(R.sta.old j D e).1
    exact absurd (.inl (.inr rfl)) this
   refine⟨λi2 m2 L H6=>m2=f.length-i2/\i2<=f.length/\∃(t:List V) (u:List cH) (l:Ev) (O1:Nat->Option Ur),t.length=u.length∧
     aP K (As ix.length) (Bc ix B O H0 D (d6++(g++t.zip u))) O1 H6 L l/\L.take ix.length=YV ix σ/\ix.length<=L.length/\H6 D=b3 (.lst t)/\((pt&&pi2&&pt2&&pe)=ba->aN H0 H6)∧
     inrV s r fe (f.drop i2) u l=b3 (dn,y),
    f.length,⟨rfl,Cn _,acc,G,δ5,_,ay,S5,C,W,hD5,λz=>by simp only[Af]at z;exact(((cb (by simp[z.1.1.1,z.1.1.2,z.1.2,z.2])).trans sm).trans (R.pur z.1.1.1)).trans (p5 z.1.1.2),g4⟩,?_⟩
   rintro i2 m2 L H6 ⟨rfl,hi2,t,u,l,O1,cq,S6,E,ln1,hD6,ez,c⟩;have w2:=wk2 (Nn (Bc ix B O H0 D (d6++(g++t.zip u))) O1) H6 λp I=>S6.kep p (Bf _ I);by_cases cj:i2<f.length
   ·obtain ⟨go2,yl2⟩ := w2.1 i2 f[i2] (by simp [cj])
    rw[Dn cj]at c;simp only[inrV]at c;obtain⟨δ7,k1,c⟩:=Ac.mp c;obtain⟨⟨kk2,U⟩,k2,c⟩:=Ac.mp c;refine .inr ⟨go2,λM H'=>∃(Y:List V) (u:List cH) (l:Ev) (O1:Nat->Option Ur),Y.length=u.length∧
     aP K (As ix.length) (Bc ix B O H0 D (d6++(g++Y.zip u))) O1 H' M l/\M.take ix.length=YV ix σ/\ix.length<=M.length/\H' D=b3 (.lst Y)/\((pt&&pi2&&pt2&&pe)=ba->aN H0 H')∧
     inrV s r fe (f.drop (i2+1)) u l=b3 (dn,y),λM H' w'=>⟨f.length-(i2+1),by lia,rfl,cj,w'⟩,λx2 H7 hy2=>?_⟩
    obtain⟨P,rx2⟩:=yl2 x2 H7 hy2;refine⟨_,_,_,f[i2],δ7,S6.same P,rx2,k1,λT O7 S7 m7=>?_⟩;have A:T.take ix.length=YV ix σ:=by
     rw[<-E];refine Hd λj=>?_;rw[Pp,Pp];split
     ·rename_i hj
      exact m7 j (Dh.mpr hj)
     ·rfl
    have ln7:ix.length<=T.length:=by
     have:(T.take ix.length).length=ix.length:=by rw[A,WQ]
     rw[Cf]at this;lia
    refine⟨_,_,δ7,kk2,U,S7,k2,λH8 R8=>?_⟩;have hD8:H8 D=b3 (.lst t):=R8.frm _ _ (P _ _ hD6) λz=>by
     obtain⟨j,e⟩:=z;have:=(R8.sta.old j D e).1
     exact absurd (.inl (.inr rfl)) this
    cases kk2 with
    |false=>
     rw[if_neg Ch]at c;refine NG ⟨t,u,U,_,cq,R8.sta,A,ln7,hD8,λz=>?_,c⟩;have z0:=z;simp only[Af]at z;exact((ez z0).trans P).trans (R8.pur z.1.2)
    |true=>
     rw[if_pos rfl]at c;obtain⟨⟨dv,δ9⟩,k3,c⟩:=Ac.mp c;split at c
     ·rename_i hz
      refine NH ⟨_,_,U,dv,δ9,R8.sta,k3,λv H9 R9=>?_⟩;have hD9:H9 D=b3 (.lst t):=R9.frm _ _ hD8 λz=>by
       obtain⟨j,e⟩:=z;have:=(R9.sta.old j D e).1
       exact absurd (.inl (.inr rfl)) this
      have hv:aT K (Nn (Bc ix B O H0 D (d6++(g++t.zip u))) O7) H9 (Nn (Bc ix B O H0 D (d6++(g++t.zip u))) O7) v dv:=R9.rep.mono (λa h=>by
       rcases h with h|h
       ·exact .inl h
       ·exact .inr h) (λa h=>by
       rcases h with h|h
       ·exact .inl h
       ·exact .inr h)
      have S10:=R9.sta.withKp (kp:=d6++(g++(t++[v]).zip (u++[dv]))) λp I=>by
       rw[Na cq,<-Df,<-Df]at I;rcases Db.mp I with z|z
       ·exact R9.sta.kep p (by rw[<-Df];exact z)
       ·rw[Aw.mp (show p∈[(v,dv)] from z)]
        exact hv
      refine⟨t,hD9,by rw[cq,Bv];exact hz,t++[v],u++[dv],δ9,O7,by simp[cq],?_,A,ln7,bU,λz=>?_,c⟩
      ·exact S10.writeZ (.inl (.inr rfl)) hD9 Z
      ·intro b o e
       have hb:b≠D:=λz=>by rw[z,Z]at e;cases e
       rw[bL hb];have z0:=z;simp only[Af]at z;exact(((ez z0).trans P).trans ((R8.pur z.1.2).trans (R9.pur z.2))) b o e
     ·cases c
   ·have e : i2 = f.length := by lia
    subst e;rw[Gh]at c;cases c;refine .inl ⟨w2.2,E,t,dn,y.take ix.length,by rw[Cf,<-S6.len];lia,cq,?_,hD6,ez,hc⟩;have S11:=S6.turn (nl:=nl) (df _) (WQ ix σ) E (by rw[<-S6.len];exact ln1);exact S11.withKp (kp:=g++t.zip dn) λp I=>S11.kep p (Be _ I)
 ·have e : i = ds.length := by lia
  subst e;rw[Gh]at hc;cases hc;refine .inl ⟨w.2,k D H1 ?_⟩;exact DJ S0 Z f0 p0 S1 ay hlc hD1 cb
def EZ{tg iter tg2 it2 elt:Ux}{ifs am:List Ux}{scope:Vf}{N':List Uv}{fi c:VI}{gg b:VG}{tb a:VB}{fe:VF}(hc:X.calm=ba)(k:scope.kind=.function)(e:TQ X.N N' ix scope.names X.env.kindOf=ba)(f:N'.length=ix.length+nl)(hnd:ix.Nodup)(hi:PI X tg iter (JV K ml pi fi))(i:∀(cl:List (Uv×Ur)) (s1:Ae) (H1:Hp) (fp:List Ur),Blk2 (Z8 X N' scope cl s1 H1 fp) tg ifs tg2 it2 am elt (BE K (As ix.length) gg) (TB K (As ix.length) pt tb) (JV K (As ix.length) pi2 c) (BE K (As ix.length) b) (TB K (As ix.length) pt2 a) (TV K (As ix.length) pe ba ba fe))(j:∀x,Uz iter X.env x=pure x:=by intro _;rfl)(d:∀(env:Env) (x:Uq),Uz it2 env x=pure x:=by intro _ _;rfl):PE X (.ListComp elt [⟨tg,iter,ifs,0⟩,⟨tg2,it2,am,0⟩] scope pos) (TN K ml (pi&&(pt&&pi2&&pt2&&pe)) (RM ix nl fi gg tb c b a fe)):=
 (D9 hc (YZ k e) f hi (Blk2.g hc d i) j).imp λ_ _ _ h=>EQ hnd h
end
section
variable{X:Cx}{K:Ai}{ml:List Nat}{pi pt pe pi2 pt2 pu:Bool}{pos:Pos}{ix:List Nat}{nl:Nat}{f:VF}
def jD{i:Nat}{y:Uv}{py aw:Pos}{tg iter tg2 it2 elt:Ux}{ifs am:List Ux}{scope:Vf}{N':List Uv}{fi c:VI}{gg b:VG}{tb a:VB}{fe:VF}(o:Bool)(r:X.N.Nodup)(k:X.N[i]?=b3 y)(m:X.env.scope.names.lookup y=b3 .local)(hc:X.calm=ba)(q:scope.kind=.function)(f:TQ X.N N' ix scope.names X.env.kindOf=ba)(j:N'.length=ix.length+nl)(hnd:ix.Nodup)(hi:PI X tg iter (JV K ml pi fi))(l:∀(cl:List (Uv×Ur)) (s1:Ae) (H1:Hp) (fp:List Ur),Blk2 (Z8 X N' scope cl s1 H1 fp) tg ifs tg2 it2 am elt (BE K (As ix.length) gg) (TB K (As ix.length) pt tb) (JV K (As ix.length) pi2 c) (BE K (As ix.length) b) (TB K (As ix.length) pt2 a) (TV K (As ix.length) pe ba ba fe))(p:i∉ml:=by decide)(d:Vc (.ListComp elt [⟨tg,iter,ifs,0⟩,⟨tg2,it2,am,0⟩] scope pos) (b3 (.Name y py)) aw.line X.env=pure ba:=by rfl)(n:∀x,Uz iter X.env x=pure x:=by intro _;rfl)(e:∀(env:Env) (x:Uq),Uz it2 env x=pure x:=by intro _ _;rfl):PS X (.Assign [.Name y py] (.ListComp elt [⟨tg,iter,ifs,0⟩,⟨tg2,it2,am,0⟩] scope pos) aw) (WG K ml (aL i (if o then xO (RM ix nl fi gg tb c b a fe)else xV (RM ix nl fi gg tb c b a fe)))):=
 (GH r k m hc (YZ q f) j hi (Blk2.g hc e l) d n).imp λD σ H h=>G1 (λσ H Q z=>EQ hnd (A3 (pu:=pi&&(pt&&pi2&&pt2&&pe)) z)) p h
end
end L2
namespace TS
open PySem PySem.W PyProof.Rows
def kev{α:Type}(ck:Nat->Nat->Bool):KasT α->α
 |.ret a=>a
 |.ask i j k=>kev ck (k (ck i j))
def KG{α:Type}(n:Nat)(R:α->Prop):KasT α->Prop
 |.ret a=>R a
 |.ask i j k=>i<n/\j<n/\∀b,KG n R (k b)
theorem KG.bind{α β:Type}{n:Nat}{R:α->Prop}{d:β->Prop}{f:α->KasT β}(c:∀a,R a->KG n d (f a)):∀{t:KasT α},KG n R t->KG n d (t.bind f)
 |.ret a,h=>c a h
 |.ask _ _ k,h=>⟨h.1,h.2.1,λb=>KG.bind c (h.2.2 b)⟩
theorem KG.ev{α:Type}{n:Nat}{R:α->Prop}{ck:Nat->Nat->Bool}:∀{t:KasT α},KG n R t->R (kev ck t)
 |.ret _,h=>h
 |.ask i j k,h=>KG.ev (t:=k (ck i j)) (h.2.2 _)
theorem KG.wp{α:Type}{n:Nat}{R:α->Prop}{ck:Nat->Nat->Bool}{a:Nat->Nat->(Bool->Ae->Prop)->Ae->Prop}{G:α->Ae->Prop}{s:Ae}(hc:∀i j,i<n->j<n->∀C:Bool->Ae->Prop,C (ck i j) s->a i j C s):∀{t:KasT α},KG n R t->G (kev ck t) s->t.kasWp a G s
 |.ret _,_,h=>h
 |.ask i j k,g,h=>hc i j g.1 g.2.1 _ (KG.wp hc (g.2.2 _) h)
section
variable{n:Nat}
def Pn(n:Nat)(p:Array Nat):Prop:=p.toList.Perm (As n)
def Pn.get{p:Array Nat}(h:Pn n p)(a:0<n)(i:Nat):p.getD i 0<n:=by
 by_cases hi:i<p.size
 ·have : p[i] ∈ p.toList := by simp
  rw[show p.getD i 0=p[i] by simp[hi]];exact Dh.mp (h.mem_iff.mp this)
 ·rw [show p.getD i 0 = 0 by simp [Array.getD,hi]]
  exact a
def Pn.rev{p:Array Nat}(h:Pn n p)(i j:Nat):Pn n (kas_rev p i j):=(mirror_perm p _ _ _).toList.trans h
theorem Xc{p:Array Nat}(h:Pn n p)(a:0<n):∀f m,KG n (λ_=>True) (kas_asc p f m)
 |0,_=>trivial
 |f+1,m=>⟨h.get a _,h.get a _,λb=>by
  dsimp only;split
  ·trivial
  ·exact Xc h a f _⟩
theorem F1(a:0<n):∀(f:Nat) (p:Array Nat) (m q:Nat),Pn n p->KG n (λr=>Pn n r.1) (kas_desc f p m q)
 |0,_,_,_,h=>h
 | f + 1,p,m,q,h => ⟨h.get a _,h.get a _,λb => by
  dsimp only;split
  ·split
   ·exact F1 a f _ _ _ (h.rev _ _)
   ·exact F1 a f _ _ _ h
  ·refine ⟨h.get a _,h.get a _,λd => ?_⟩
   dsimp only;split
   ·exact h
   ·exact F1 a f _ _ _ h⟩
def dW(e:0<n){p:Array Nat}(h:Pn n p)(a b:Nat):KG n (λr=>Pn n r.2) (kas_descPart a b p):=by
 have c:∀(m:Nat) {p:Array Nat},Pn n p->KG n (λr=>Pn n r.2) (kas_tail3 m b p):=λm p h=>by unfold kas_tail3;refine KG.bind (λ_ _=>?_) (Xc (h.rev 0 m) e _ _);exact h.rev 0 m
 refine KG.bind (λr d=>?_) (F1 e _ _ _ _ h);split
 ·exact c _ (d.rev _ _)
 ·exact c _ d
theorem F2{p:Array Nat}(h:Pn n p)(a:0<n)(k:Nat):∀f l r,KG n (λ_=>True) (kas_place p k f l r)
 |0,_,_=>trivial
 | f + 1,l,r => by
  unfold kas_place;split
  ·trivial
  ·refine ⟨h.get a _,h.get a _,λb => ?_⟩
   dsimp only;split
   ·exact F2 h a k f _ _
   ·exact F2 h a k f _ _
theorem cI(a:0<n):∀(f:Nat) (p:Array Nat) (k:Nat),Pn n p->KG n (Pn n) (kas_bin f p k)
 |0,_,_,h=>h
 |f+1,p,k,h=>KG.bind (λl _=>cI a f _ _ ((bubble_perm p _ _).toList.trans h)) (F2 h a k k 0 k)
def Zf(a:0<n):KG n (Pn n) (Tl n):=by
 have h:Pn n (Ud (As n)):=.refl _;have c:KG n (λr=>Pn n r.2) (kas_count n (Ud (As n))):=by
  refine KG.bind (λm _=>?_) (Xc h a _ _);split
  ·exact h
  ·split
   ·refine ⟨h.get a _,h.get a _,λb => ?_⟩
    dsimp only;split
    ·exact h
    ·exact dW a (h.rev _ _) _ _
   ·exact dW a h _ _
 refine KG.bind (λr d=>?_) c;split
 ·exact cI a _ _ _ d
 ·exact d
def srt0(n:Nat)(ck:Nat->Nat->Bool):List Nat:=if 2<=n then(kev ck (Tl n)).toList else As n
def IT(n:Nat)(ck:Nat->Nat->Bool):(srt0 n ck).Perm (As n):=by
 unfold srt0;split
 ·exact(Zf (by lia)).ev
 ·exact .refl _
def iV(vs:List Uq):(As vs.length).map (λi=>vs.getD i Value.none)=vs:=by
 refine Hd λi=>?_;by_cases h:i<vs.length
 ·simp[h]
 ·simp[h]
end
section
variable{prog:Av}{w:Uy}{A:Bz}{E:Uq->Ae->Prop}{s:Ae}
def CW{a:Ur}{vs:List Uq}{v:Nat}{κ:Tn}{ck:Nat->Nat->Bool}{P:Ph->Ae->Prop}(f:s.heap.get? a=b3 (Gu "list" vs.toArray v))(hz:vs.length<=sizeLine)(m:vs.length<64)(B:2<=vs.length->∀h':Vb,(∀b o,b≠a->s.heap.get? b=b3 o->h'.get? b=b3 o)->∀u:Tn->Ae->Prop,u κ {s with heap:=h'}->Us (Ut prog w) A (keyKind' vs.toArray) u E {s with heap:=h'})(hc:∀h':Vb,(∀b o,b≠a->s.heap.get? b=b3 o->h'.get? b=b3 o)->∀i j,i<vs.length->j<vs.length->∀C:Bool->Ae->Prop,C (ck i j) {s with heap:=h'}->Us (Ut prog w) A (keyLt' κ (vs.getD i Value.none) (vs.getD j Value.none)) C (λ_ _=>False) {s with heap:=h'})(h:P (.done (.ret .none)) {s with heap:=sortedHeap s.heap a vs ((srt0 vs.length ck).map λi=>vs.getD i Value.none).toArray}):Us (Ut prog w) A (Fa.«list.sort» ⟨[.ref a],[]⟩) P E s:=by
 have lt:=Ak f;have hsz:vs.toArray.size=vs.length:=by simp
 obtain⟨I,e⟩:∃k,(s.heap.update a (Hb λ_=> #[])).get? a=b3 (Gu "list" #[] k):=⟨_,get?_update_seq f (λ_=> #[])⟩;have keep:∀b o,b≠a->s.heap.get? b=b3 o->(((s.heap.update a (Hb λ_=> #[])).push (Gu "tuple" vs.toArray 0)).push (Gu "list" #[] 0)).get? b=b3 o:=λb o H g=>
  Ad _ (Ad _ (by rw[Ow _ _ _ _ H];exact g))
 have d:(((s.heap.update a (Hb λ_=> #[])).push (Gu "tuple" vs.toArray 0)).push (Gu "list" #[] 0)).get? a=b3 (Gu "list" #[] I):=Ad _ (Ad _ e);have L:∀l:List Uq,l.length=vs.length->l.toArray.size<=sizeLine+1:=λl hl=>by rw[Am];lia
 rw[list_sort_plain];refine(Aa (Qx f rfl ?_));refine(Aa (Mh f rfl ?_ (by rw[Am];lia) (Cn _)));refine(Aa (Si e rfl ?_));refine(Aa (wpAny_newTuple ?_ (by show vs.length<=_;exact hz)));refine(Aa (Pq (Bp ?_) (Cn _)))
 ·show (Us (Ut prog w) A _ P E { s with heap := (((s.heap.update a (Hb λ_ => #[])).push (Gu "tuple" vs.toArray 0)).push (Gu "list" #[] 0)) })
  dsimp only;have M:((srt0 vs.length ck).map λi=>vs.getD i Value.none).length=vs.length:=by rw[Bm,(IT _ _).length_eq,Jg]
  by_cases h2:vs.toArray.size<2
  ·have F : ((srt0 vs.length ck).map λi => vs.getD i Value.none) = vs := by unfold srt0;rw[if_neg (by lia)];exact iV vs
   rw[F]at h;rw[if_pos h2,if_pos h2];refine(Aa (Ag ?_));rw[StateT.run_pure];refine(Aa (Ag ?_));dsimp only;have z:(vs.toArray.zip vs.toArray).map (·.2)=vs.toArray:=by apply Array.toList_inj.mp;simp;exact Ri (Ao _)
   rw[z];refine(Aa (Si d rfl (Aa (Mh d rfl ?_ (hsz2:=by rw[Am];lia)))));simp only[bne_self_eq_false,El,if_false];exact Ag h
  ·rw[if_neg h2,if_neg h2]
   refine(Aa (B (by lia) _ keep _ ?_));have n:2<=vs.length:=by lia
   have y:srt0 vs.length ck=(kev ck (Tl vs.length)).toList:=by unfold srt0;rw[if_pos n]
   refine Aa (Ax (kat_run (ks:=vs) (κ:=κ) (G:=λp s'=>p=kev ck (Tl vs.length)/\s'={s with heap:=(((s.heap.update a (Hb λ_=> #[])).push (Gu "tuple" vs.toArray 0)).push (Gu "list" #[] 0))})
    (Q:=λc s'=>(arrOf c).map (·.2)=((srt0 vs.length ck).map λi=>vs.getD i Value.none).toArray/\failedOf c=b4/\s'={s with heap:=(((s.heap.update a (Hb λ_=> #[])).push (Gu "tuple" vs.toArray 0)).push (Gu "list" #[] 0))}) rfl n m (λp c s' _ K J a4=>?_)
    (KG.wp (λi j hi D C q=>hc _ keep i j hi D C q) (Zf (by lia)) ⟨rfl,rfl⟩)) ?_ λ_ _ x=>x)
   ·obtain⟨rfl,rfl⟩:=a4
    exact⟨by rw[kat_snds rfl K,y],J,rfl⟩
   rintro ⟨⟨⟩,c⟩ s' ⟨t,r,rfl⟩;dsimp only at t r⊢;rw[t];refine(Aa (Si d rfl (Aa (Mh d rfl ?_ (hsz2:=by rw[Am];lia)))));rw[r];simp only[bne_self_eq_false,El,if_false];exact Ag h
noncomputable def BN(h:Vb)(vs:List Uq):Vb:=(h.push (Gu "list" #[] 0)).update h.objs.size (Hb (· ++vs.toArray))
def BO{T:String}{l:Ur}{o:Ve}{n:Nat}{vs:List Uq}{Q:List Uq->Ae->Prop}(g:T= "list" ∨T= "tuple")(e:s.heap.get? l=b3 o)(d:o.cls=.type T)(f:o.data=.seq vs.toArray n)(hz:vs.length<=sizeLine)(h:Q vs {s with heap:=BN s.heap vs}):Us (Ut prog w) A (collect (.ref l)) Q E s:=by
 unfold collect;refine Aa (wpAny_runValue (Ir entry_proto_collect' ?_));show Us _ _ (newList []>>=λc=>again (.builtin "list.__iadd__" ⟨[c,.ref l],[]⟩)) _ _ s;refine Aa (Pq (Ag ⟨Iq _ (by decide+kernel),Ir entry_list_iadd' ?_⟩));have b:(s.heap.push (Gu "list" #[] 0)).get? s.heap.objs.size=b3 (Gu "list" #[] 0):=An _ rfl;have a:(s.heap.push (Gu "list" #[] 0)).get? l=b3 o:=Ad _ e;show Us _ _ (Kp (.ref s.heap.objs.size) (.ref l) (.ref s.heap.objs.size)) _ _ {s with heap:=s.heap.push (Gu "list" #[] 0)};unfold Kp;refine Aa (Jp (T:=T) ⟨o,a,d⟩ ?_);have i:(Gx T==Gx "list" || Gx T==Gx "tuple")=ba:=by rcases g with rfl|rfl<;>decide
 rw[if_pos (by rw[Bool.or_assoc,i,Uc])];refine Aa (Qx a f (Aa (Qx b rfl ?_)));rw[if_neg (by simp)];refine Aa (Mh b rfl (Ag ?_) (Cn _) (by rw[Ql];simp;lia));show Us (Ut prog w) A (load s.heap.objs.size>>=_) Q E {s with heap:=BN s.heap vs};refine Aa (wpAny_load (get?_update_seq b _) ?_);refine Ag ?_;show Q ((#[]:Array Uq)++vs.toArray).toList _;rw[show((#[]:Array Uq)++vs.toArray).toList=vs by simp];exact h
def CY{T:String}{l:Ur}{o:Ve}{n:Nat}{vs:List Uq}{κ:Tn}{ck:Nat->Nat->Bool}{Q:Uq->Ae->Prop}(y:T= "list" ∨T= "tuple")(t:s.heap.get? l=b3 o)(f:o.cls=.type T)(x:o.data=.seq vs.toArray n)(hz:vs.length<=sizeLine)(g:vs.length<64)(u:2<=vs.length->∀(A:Bz) (E:Uq->Ae->Prop) (h':Vb),(∀b o,s.heap.get? b=b3 o->h'.get? b=b3 o)->∀k:Tn->Ae->Prop,k κ {s with heap:=h'}->Us (Ut prog w) A (keyKind' vs.toArray) k E {s with heap:=h'})(hc:∀(A:Bz) (h':Vb),(∀b o,s.heap.get? b=b3 o->h'.get? b=b3 o)->∀i j,i<vs.length->j<vs.length->∀C:Bool->Ae->Prop,C (ck i j) {s with heap:=h'}->Us (Ut prog w) A (keyLt' κ (vs.getD i Value.none) (vs.getD j Value.none)) C (λ_ _=>False) {s with heap:=h'})(h:∀(r:Ur) (h':Vb) (e:Nat),s.heap.objs.size<=r->(∀b o,s.heap.get? b=b3 o->h'.get? b=b3 o)->h'.get? r=b3 (Gu "list" ((srt0 vs.length ck).map λi=>vs.getD i Value.none).toArray e)->Q (.ref r) {s with heap:=h'}):Us (Ut prog w) A (call (.builtin "sorted") [.ref l]) Q E s:=by
 refine(Lh kind_sorted plain_sorted entry_sorted (args_sorted1 _) ?_);unfold Fa.«sorted»;refine(Aa (m:=checkCount "sorted" 1 1 _) (Ag (Aa (BO y t f x hz (Aa (Pq ?_ (by exact hz)))))));have d:s.heap.objs.size<(BN s.heap vs).objs.size:=by unfold BN;rw[Rh,size_push'];exact Ra _
 have k1:∀b o,s.heap.get? b=b3 o->(BN s.heap vs).get? b=b3 o:=λb o q=>by have a:b<s.heap.objs.size:=Ak q;unfold BN;rw[Ow _ _ _ _ (Au a),Jh _ _ _ (Au a)];exact q
 dsimp only;generalize BN s.heap vs=h1 at d k1⊢;have c:(h1.push (Gu "list" vs.toArray 0)).get? h1.objs.size=b3 (Gu "list" vs.toArray 0):=An _ rfl;have keep:∀b o,s.heap.get? b=b3 o->(h1.push (Gu "list" vs.toArray 0)).get? b=b3 o/\b≠h1.objs.size:=λb o q=>by have q:=k1 b o q;have a:b<h1.objs.size:=Ak q;exact⟨by rw[Jh _ _ _ (Au a)];exact q,Au a⟩
 show(Us _ _ _ _ _ {s with heap:=h1.push (Gu "list" vs.toArray 0)});refine(Aa (Bp (Dm slot_list_sort ⟨_,c,rfl⟩ entry_list_sort (CW (κ:=κ) (ck:=ck) c hz g (λp h' k'=>u p _ _ h' λb o q=>k' b o (keep b o q).2 (keep b o q).1) (λh' k'=>hc _ h' λb o q=>k' b o (keep b o q).2 (keep b o q).1) ⟨_,rfl,?_⟩) (args_list_sort _))));obtain⟨e,v⟩:=sortedHeap_at (vs:=vs) (out:=((srt0 vs.length ck).map λi=>vs.getD i Value.none).toArray) c;refine(Ag ⟨_,rfl,h _ _ e ?_ (λb o q=>?_) v⟩)
 ·exact La d
 ·rw[sortedHeap_old (keep b o q).2 (Ak (keep b o q).1)]
  exact(keep b o q).1
noncomputable def DV:List Int->List Int->Bool
 |[],[]=>bb
 |[],_::_=>ba
 |_::_,[]=>bb
 |a::as,b::bs=>if a=b then DV as bs else decide (a<b)
def qE{b:Bool}{x y:Int}{t u:Vm}{C:Bool->Ae->Prop}(h:C (decide (x<y)) s):Us (Ut prog w) A (oneLt' b (.int x t) (.int y u)) C E s:=by
 cases b with
 |true=>exact oneLt_int h
 |false=>exact kat_one _ _ (lt_int h)
def jE{b c:Bool}{C:Bool->Ae->Prop}{xs:List Uq}{as:List Int}(h1:Kk xs as):∀{ys:List Uq}{bs:List Int}{i:Nat},Kk ys bs->c=decide (xs.length<ys.length)->C (DV as bs) s->KatLex prog w A b c C (xs.zip ys) i s:=by
 induction h1 with
 |nil=>
  intro ys bs i h2 a h;cases h2 with
  |nil=>exact kat_nil (by rw[a];exact h)
  |cons n t r=>exact kat_nil (by rw[a];simpa[DV]using h)
 |cons n t r f=>
  intro ys bs i h2 a h;cases h2 with
  |nil=>exact kat_nil (by rw[a];simpa[DV]using h)
  |cons m u d=>
   refine kat_cons (wpAny_eqBool_int (kat_go (λe=>kat_yes (f d (by rw[a];simp) ?_)) λe=>kat_no (qE ?_)))
   ·have e : n = m := by simpa using e
    simpa[DV,e]using h
   ·have e : ¬ n = m := by simpa using e
    simpa[DV,e]using h
def eS{x y:Ur}{xs ys:List Uq}{as bs:List Int}{C:Bool->Ae->Prop}(b:IsTup s.heap x xs.toArray)(a:IsTup s.heap y ys.toArray)(h1:Kk xs as)(h2:Kk ys bs)(h:C (DV as bs) s):Us (Ut prog w) A (keyLt' (tuples' ba) (.ref x) (.ref y)) C E s:=by obtain⟨e,b,_,n,dx⟩:=b;obtain⟨d,a,_,m,c⟩:=a;exact kat_lt b dx a c (jE h1 h2 (by simp) h)
def PtI(h:Vb):List Uq->List (List Int)->Prop
 |[],[]=>True
 |v::vs,p::ps=>(∃a xs,v=.ref a/\IsTup h a xs.toArray/\Kk xs p/\p≠[])/\PtI h vs ps
 |_,_=>False
theorem PtI.keep{h h':Vb}(k:∀b o,h.get? b=b3 o->h'.get? b=b3 o):∀{vs:List Uq}{ps:List (List Int)},PtI h vs ps->PtI h' vs ps
 |[],[],_=>trivial
 |_::_,_::_,⟨⟨a,xs,e,q,z⟩,r⟩=>⟨⟨a,xs,e,q.keeps k,z⟩,PtI.keep k r⟩
 |[],_::_,r=>r.elim
 |_::_,[],r=>r.elim
theorem PtI.at{h:Vb}:∀{vs:List Uq}{ps:List (List Int)}{i:Nat},PtI h vs ps->i<vs.length->∃a xs,vs.getD i Value.none=.ref a/\IsTup h a xs.toArray/\Kk xs (ps.getD i [])
 |[],[],i,_,hi=>by simp at hi
 |_::_,_::_,0,r,_=>by obtain⟨⟨a,xs,e,q,z,_⟩,_⟩:=r;exact⟨a,xs,e,q,z⟩
 |v::vs,p::ps,i+1,r,hi=>by
  have:=PtI.at (i:=i) r.2 (by simpa using hi)
  simpa using this
 |[],_::_,i,r,_=>r.elim
 |_::_,[],i,r,_=>r.elim
theorem PtI.tups{h:Vb}:∀{vs:List Uq}{ps:List (List Int)},PtI h vs ps->∃fs,KatTups h vs fs/\fs.length=vs.length/\∀v∈fs,∃i t,v=.int i t
 |[],[],_=>⟨[],trivial,rfl,λ_ h=>by cases h⟩
 | _ :: _,_ :: _,⟨⟨a,xs,e,⟨o,d,c,n,g⟩,z,f⟩,r⟩ => by
  obtain⟨fs,h1,h2,j⟩:=PtI.tups r;subst e;cases z with
  |nil=>exact absurd rfl f
  |cons m t _=>
   refine⟨.int m t::fs,KatTups.cons d c g rfl h1,by simp[h2],λv b=>?_⟩;rcases Al.mp b with rfl|b
   ·exact⟨_,_,rfl⟩
   ·exact j v b
 |[],_::_,r=>r.elim
 |_::_,[],r=>r.elim
def kyT(ps:List (List Int))(i j:Nat):Bool:=DV (ps.getD i []) (ps.getD j [])
def EL{T:String}{l:Ur}{o:Ve}{n:Nat}{vs:List Uq}{ps:List (List Int)}{Q:Uq->Ae->Prop}(y:T= "list" ∨T= "tuple")(p:s.heap.get? l=b3 o)(d:o.cls=.type T)(x:o.data=.seq vs.toArray n)(hz:vs.length<=sizeLine)(f:vs.length<64)(c:PtI s.heap vs ps)(h:∀(r:Ur) (h':Vb) (e:Nat),s.heap.objs.size<=r->(∀b o,s.heap.get? b=b3 o->h'.get? b=b3 o)->h'.get? r=b3 (Gu "list" ((srt0 vs.length (kyT ps)).map λi=>vs.getD i Value.none).toArray e)->Q (.ref r) {s with heap:=h'}):Us (Ut prog w) A (call (.builtin "sorted") [.ref l]) Q E s:=by
 refine CY (κ:=tuples' ba) y p d x hz f (λH A E h' k' I q=>?_) (λA h' k' i j hi u C q=>?_) h
 ·obtain⟨fs,h1,h2,z⟩:=(c.keep k').tups
  refine kat_kind (s:={s with heap:=h'}) (T:=.type "int") h1 (by lia) (λv m=>?_) (by decide) q;obtain⟨i,t,rfl⟩:=z v m;exact Looks.now
 ·obtain⟨a,xs,G,k,D⟩:=(c.keep k').at hi
  obtain⟨b,ys,F,g,B⟩:=(c.keep k').at u;rw[G,F];exact eS (s:={s with heap:=h'}) k g D B q
end
end TS
namespace L2
open PySem PySem.Spec PyProof.Rows
variable{X:Cx}{K:Ai}
def tpD:cH->Option (List Int)
 |.tup ds=>(WS ds).bind λns=>if ns.isEmpty then b4 else b3 ns
 |_=>b4
def QG:List cH->Option (List (List Int))
 |[]=>b3 []
 |d::ds=>(tpD d).bind λp=>(QG ds).map λps=>p::ps
def PtV(K:Ai)(H:Hp):List V->List (List Int)->Prop
 |[],[]=>True
 |v::vs,p::ps=>(∃a,v=.ref a/\VE K H a (p.map V.int)/\p≠[])/\PtV K H vs ps
 |_,_=>False
def cT{d:cH}{p:List Int}(h:tpD d=b3 p):∃ds,d=.tup ds/\WS ds=b3 p/\p≠[]:=by
 unfold tpD at h;split at h
 ·rename_i ds
  obtain⟨ns,h1,h⟩:=Ac.mp h;split at h
  ·cases h
  ·rename_i z
   cases h;exact⟨ds,rfl,h1,λe=>z (by rw[e];rfl)⟩
 ·cases h
theorem A0{H:Hp}{N:Ur->Prop}:∀{xs:List V}{ds:List cH}{ps:List (List Int)},bQ K N H xs ds->QG ds=b3 ps->PtV K H xs ps
 |_,_,_,.nil,h=>by cases h;trivial
 | _,_,ps,@bQ.cons _ _ _ v vs d ds h t,e => by
  have e:(tpD d).bind (λp=>(QG ds).map λps=>p::ps)=b3 ps:=e;obtain⟨p,h1,e⟩:=Ac.mp e;have e:(QG ds).map (λps=>p::ps)=b3 ps:=e;obtain⟨qs,h2,e⟩:=Aj.mp e;cases e;obtain⟨es,rfl,b,a⟩:=cT h1;refine⟨?_,A0 t h2⟩;cases h with
  |tup sq r=>
   have c:=UJ r b;subst c;exact⟨_,rfl,sq,a⟩
theorem PtV.ptI{H:Hp}{aa:List (Ur×Ve)}{σ:St}{s:Ae}(I:bS X aa σ H s):∀{xs:List V}{c:List Uq}{ps:List (List Int)},PtV X.K H xs ps->aY xs c->TS.PtI s.heap c ps
 |[],_,[],_,.nil=>trivial
 |_::_,_,_::_,⟨⟨a,e,q,n⟩,r⟩,.cons h t=>by subst e;cases h;obtain⟨b,d,f,_⟩:=I.tuple q;exact⟨⟨a,b,rfl,f,KR d,n⟩,PtV.ptI I r t⟩
 |[],_,_::_,h,_=>h.elim
 |_::_,_,[],h,_=>h.elim
theorem PtV.len{H:Hp}:∀{xs:List V}{ps:List (List Int)},PtV K H xs ps->xs.length=ps.length
 |[],[],_=>rfl
 |_::_,_::_,r=>by simp[PtV.len r.2]
 |[],_::_,r=>r.elim
 |_::_,[],r=>r.elim
theorem JB{xs:List V}{a:List Uq}(r:aY xs a):∀l:List Nat,(∀i∈l,i<xs.length)->aY (l.map λi=>xs.getD i .non) (l.map λi=>a.getD i Value.none)
 |[],_=>.nil
 |i::l,h=>by
  have hi:=h i At;obtain⟨u,h1,h2⟩:=aY.get (i:=i) (x:=xs[i]) r (by simp[hi]);refine .cons ?_ (JB r l λj b=>h j (Aq _ b));have d:xs.getD i .non=xs[i]:=by simp[hi]
  have c:a.getD i Value.none=u:=by simp[h1]
  show aV (xs.getD i .non) (a.getD i Value.none);rw[d,c];exact h2
def EM(ps:List (List Int)):List Nat:=TS.srt0 ps.length (TS.kyT ps)
def NO(ps:List (List Int)):(EM ps).Perm (As ps.length):=TS.IT _ _
def Yy(K:Ai):RC:=λxs H Q=>∃(p:Ur) (ys:List V) (ps:List (List Int)),xs=[.ref p]/\(XR K H p ys∨VE K H p ys)/\ys.length<64/\PtV K H ys ps/\∀l:Ur,H l=b4->Q (.ref l) (upd H l (.lst ((EM ps).map λi=>ys.getD i .non)))
def BV(h:X.K=K):Z4 X (.builtin "sorted") (Yy K):=by
 subst h;intro aa s σ H xs A Q I r h;obtain⟨p,ys,ps,rfl,g,z,l,q⟩:=h;obtain⟨u,rfl,t⟩:=VR r;cases t;obtain⟨T,o,n,b,y,w,j,x,f,hz⟩:∃(T:String) (o:Ve) (n:Nat) (b:List Uq),(T= "list" ∨T= "tuple")/\s.heap.get? p=b3 o/\o.cls=.type T/\o.data=.seq b.toArray n/\aY ys b/\ys.length<=sizeLine:=by
  rcases g with g|g
  ·obtain⟨b,f,⟨o,n,e,c,_,d⟩,hz⟩:=I.list g
   exact⟨_,o,n,b,.inl rfl,e,c,d,f,hz⟩
  ·obtain⟨b,f,⟨o,e,c,n,d⟩,hz⟩:=I.tuple g
   exact⟨_,o,n,b,.inr rfl,e,c,d,f,hz⟩
 have B:=f.length;have v:=l.len;refine TS.EL y w j x (by lia) (by lia) (l.ptI I f) λr h' e k k' m=>?_;rw[show b.length=ps.length by lia]at m;refine⟨.ref r,_,I.laid (a:=r) (o:=.lst ((EM ps).map λi=>ys.getD i .non)) (t':=s.toks) k' k ?_,rfl,q _ (I.hok.fresh k)⟩;refine⟨by rw[Bm,(NO ps).length_eq,Jg];lia,(EM ps).map λi=>b.getD i Value.none,e,JB f _ λi hi=>?_,m⟩;have:=Dh.mp ((NO ps).mem_iff.mp hi)
 lia
def NM(d:cH):Option cH:=(XB d).bind λds=>if ds.length<64 then(QG ds).bind λps=>b3 (.lst ((EM ps).map λi=>ds.getD i .non))else b4
theorem IN{H:Hp}{N:Ur->Prop}{xs:List V}{ds:List cH}(r:bQ K N H xs ds):∀l:List Nat,bQ K N H (l.map λi=>xs.getD i .non) (l.map λi=>ds.getD i .non)
 |[]=>.nil
 | i :: l => by
  have one:∀{xs:List V}{ds:List cH}(i:Nat),bQ K N H xs ds->aT K N H N (xs.getD i .non) (ds.getD i .non):=by
   intro xs ds i r;induction r using bQ.rec (motive_1:=λ_ _ _ _=>True) generalizing i with
   |nil=>simpa using aT.non
   |cons h t _ a=>cases i with
    |zero=>simpa using h
    |succ i=>simpa using a i
   |_=>trivial
  exact .cons (one i r) (IN r l)
def F5:CalN K (Yy K) NM:=by
 intro H N M x d c Q f h k;obtain⟨ds,g,h⟩:=Ac.mp (show(XB d).bind _=b3 c from h);split at h
 ·rename_i e
  obtain⟨ps,h1,h⟩:=Ac.mp h;cases h;obtain⟨a,xs,rfl,sq,r⟩:=f.seq g;exact⟨a,xs,ps,rfl,sq,by rw[r.length];exact e,A0 r h1,λl b=>k l _ _ b (IN r _) rfl⟩
 ·cases h
def iI:typeLookup (.type "list") ("keys":Uv)=pure b4:=am_miss_of_fast (by decide+kernel)
section
variable{prog:Av}{w:Uy}{A:Bz}{E:Uq->Ae->Prop}{s:Ae}
def mn{a:Ur}{o:Ve}{xs:Array Uq}{k:Nat}{Q:Option Uq->Ae->Prop}(j:s.heap.get? a=b3 o)(hc:o.cls=.type "list")(n:o.data=.seq xs k)(l:o.dict=b4)(q:A.handled=b4)(h:∀h' tk,(∀b ob,s.heap.get? b=b3 ob->h'.get? b=b3 ob)->Q b4 {s with heap:=h',toks:=tk}):Us (Ut prog w) A (To (.ref a) "keys") Q E s:=by
 obtain⟨c,dct,r,sl⟩:=o;simp only at hc n l;subst hc n l;obtain⟨p,g,d,tk,os⟩:=s;have m:∀f,(⟨p,g,d,f,os⟩:Ae).TypeIs (.ref a) "list":=λ_=>⟨_,j,rfl⟩;have f1:=sub_AttributeError;have f3:=F.slot_list_getattribute.lookup;have y:=F.slot_list_getattribute.bind (.ref a);have x:=am_list_getattr_none;unfold To getAttrBy? getAttrBy
 (repeat (any_goals (first|assumption|exact m _|((with_reducible show Us _ _ (call (Tk "list.__getattribute__") _ _) _ _ _);refine Ga F.slot_list_getattribute (m _) am_entry_list_getattribute (F.args_list_getattribute_2 _ _) (meets_getattribute_miss_list a xs k sl "keys" _ iI (by decide) (by size_fits)) ⟨j,q,λh' f e i=>?_⟩)|wp_step)))
 obtain⟨u,t,v⟩:=i.there;show(Us _ _ (Pr _ _ _ _ _ _ _) _ _ _);unfold Pr
 (repeat (any_goals (first|assumption|wp_step)))
 exact h _ _ i.keeps
end
def HN:entryFor table "dict.update.loop"=b3 Fa.«dict.update.loop» :=entryFor_of_tree (by kernel_rfl)
def Q6:plainId "dict.update.loop"=ba:=by decide+kernel
def PrK(prog:Av)(w:Uy)(h:Vb):List Uq->List (Z5×Uq)->Prop
 |[],[]=>True
 |v::vs,p::ps=>(∃a key,v=.ref a/\IsTup h a #[key,p.2]/\(Z9 prog w).is p.1 key=ba)/\PrK prog w h vs ps
 |_,_=>False
section
variable{prog:Av}{w:Uy}{A:Bz}{E:Uq->Ae->Prop}{s:Ae}
theorem PrK.keep{h h':Vb}{C:Ur->Prop}(k:∀b o,C b->h.get? b=b3 o->h'.get? b=b3 o):∀{vs:List Uq}{ps:List (Z5×Uq)},(∀a,Ay a∈vs->C a)->PrK prog w h vs ps->PrK prog w h' vs ps
 |[],[],_,_=>trivial
 |_::_,_::_,c,⟨⟨a,key,e,⟨o,f,r⟩,q⟩,d⟩=>⟨⟨a,key,e,⟨o,k a o (c a (by rw[e];exact At)) f,r⟩,q⟩,PrK.keep k (λa g=>c a (Aq _ g)) d⟩
 |[],_::_,_,r=>r.elim
 |_::_,[],_,r=>r.elim
def CC{a:Ur}{k v:Uq}{Q:List Uq->Ae->Prop}(h:IsTup s.heap a #[k,v])(q:Q [k,v] s):Us (Ut prog w) A (Mq (.ref a)) Q E s:=by obtain⟨o,b,hc,n,c⟩:=h;unfold Mq;refine(Aa (Jp (T:= "tuple") ⟨o,b,hc⟩ ?_));rw[if_pos (by decide)];exact(Aa (Fh b c (Ag q)))
theorem cZ{R:Tv->Ae->Prop}{I D:Ur}{fp d:List Ur}{items:Array Uq}{St:Nat->Vb->Prop}(W:Walks prog w A.in1 I fp d items.size (λi v=>items[i]?=b3 v) St)(c:D∉fp):∀(vs:List Uq) (ps:List (Z5×Uq)) (j:Nat) (i:Int) (s:Ae) (kvs:List (Z5×Uq)),items.toList.drop j=vs->j+vs.length=items.size->St j s.heap->s.heap.DictOf (Z9 prog w) D kvs->kvs.length+vs.length<=sizeLine->PrK prog w s.heap vs ps->(∀a,Ay a∈vs->a∉d/\a≠D)->(∀g tk,g.DictOf (Z9 prog w) D (ps.foldl (λl p=>Tw l p.1 p.2) kvs)->(∀b o,b∉d->b≠D->s.heap.get? b=b3 o->g.get? b=b3 o)->R (.ok (.ret .none)) {s with heap:=g,toks:=tk})->Hj (Ut prog w) A (.builtin "dict.update.loop" ⟨[.ref D,.ref I,rawInt i,.none],[]⟩) R s
 | [],ps,j,i,s,kvs,e,F,k,J,hz,n,x,K => by
  have f:D∉d:=λz=>c (W.sub _ z);cases ps with
  |cons p ps=>exact n.elim
  |nil=>
   refine Ir HN (by rw[Nt Q6 _];show(Us _ A.in1 (pyNext (.ref I)>>=_) _ _ s);refine(Aa (W.done s _ _ (by rw[show items.size=j by simpa using F.symm];exact k) λg tk kept=>?_));show(Us _ A.in1 (Builtin.Dict.addKeywords D []>>=_) _ _ _);refine(Aa (Ag (Ag ?_)));obtain⟨o,es,ep,E,r⟩:=J;exact K g tk ⟨o,es,ep,kept _ _ f E,r⟩ λb o m _ e=>kept b o m e)
 | v :: vs,ps,j,i,s,kvs,e,F,k,J,hz,n,x,K => by
  have f:D∉d:=λz=>c (W.sub _ z);cases ps with
  |nil=>exact n.elim
  |cons p ps=>
   obtain⟨⟨a,key,rfl,Q,S⟩,n⟩:=n;obtain⟨O,Z⟩:=x a At;simp only[Cg]at F hz;have X:items[j]?=b3 (.ref a):=by
    have:=congrArg (λl=>l[0]?) e
    simpa using this
   have Y:items.toList.drop (j+1)=vs:=by
    have:=congrArg List.tail e
    simpa using this
   refine Ir HN (by
    rw[Nt Q6 _];show(Us _ A.in1 (pyNext (.ref I)>>=_) _ _ s);refine(Aa (W.item j s _ _ (by lia) k λv g tk pv P kept=>?_));obtain rfl:v=.ref a:=by rw[X]at pv;cases pv;rfl
    obtain⟨o,E,r⟩:=Q;obtain⟨N,es,ep,B,M⟩:=J;refine(Aa (Bp (Aa (wpAny_tryCatch (CC (s:={s with heap:=g,toks:=tk}) ⟨o,kept _ _ O E,r⟩ ?_)))));refine(Bp (Ox (s:={s with heap:=g,toks:=tk}) (kvs:=kvs) S ⟨N,es,ep,kept _ _ f B,M⟩ (λU H q=>?_) (by lia)));have L:∀b o,b∉d->b≠D->s.heap.get? b=b3 o->U.get? b=b3 o:=λb o m t e=>(q.2 b t).trans (kept b o m e);refine(Ag ⟨plainId_quiet Q6 _,cZ W c vs ps (j+1) (i+1) _ (Tw kvs p.1 p.2) Y (by lia) (W.frame _ _ _ P λb u o e=>(q.2 b (λz=>c (by rw[<-z];exact u))).trans e) H ?_ (PrK.keep (C:=λb=>b∉d/\b≠D) (λb o u e=>L b o u.1 u.2 e) (λa h=>x a (Aq _ h)) n) (λa h=>x a (Aq _ h)) ?_⟩)
    ·have:=stored_length_le kvs p.1 p.2
     lia
    ·exact λT y G V=>K T y G λb o m t e=>V b o m t (L b o m t e))
end
section
variable{prog:Av}{w:Uy}{A:Bz}{E:Uq->Ae->Prop}{s:Ae}
def BQ{l:Ur}{vs:List Uq}{ps:List (Z5×Uq)}{Q:Uq->Ae->Prop}(I:A.handled=b4)(pl:PlainL s.heap l vs.toArray)(hz:vs.length<=sizeLine)(t:PrK prog w s.heap vs ps)(h:∀g tk,g.DictOf (Z9 prog w) s.heap.objs.size (ps.foldl (λl p=>Tw l p.1 p.2) [])->(∀b o,s.heap.get? b=b3 o->g.get? b=b3 o)->Q (.ref s.heap.objs.size) {s with heap:=g,toks:=tk}):Us (Ut prog w) A (call (.type "dict") [.ref l]) Q E s:=by
 refine(callType_codes (Q₁:=λobj c=>obj=.ref s.heap.objs.size/\c={s with heap:=s.heap.push {cls:=.type "dict",data:=.dict #[]}}) F.kt_called_dict (F.kt_typeCall_dict_1 _) F.entry_dict_init (kt_code_dict_new _ ⟨rfl,rfl⟩) ?_);rintro obj c ⟨rfl,rfl⟩;have G:(s.heap.push {cls:=.type "dict",data:=.dict #[]}).DictOf (Z9 prog w) s.heap.objs.size []:=Sc s.heap;obtain⟨o,n,H,hc,P,K⟩:=pl;have m:(s.heap.push {cls:=.type "dict",data:=.dict #[]}).get? l=b3 o:=Ad _ H;refine⟨G.typeIs,F.args_dict_init_2 _ _,?_⟩;unfold Fa.«dict.__init__»;refine(Aa ?_);unfold Builtin.Dict.selfAndRest;refine(Aa (Ng G.typeIs ?_));show(Us _ _ (pure (s.heap.objs.size,[Ay l])) _ _ _);refine(Ag ?_);show(Us _ _ (Mi "dict.__init__" s.heap.objs.size (.ref l) [] .none) _ _ _);unfold Mi;refine(Aa (Jp (T:= "list") ⟨o,m,hc⟩ ?_));rw[if_pos (by decide)];refine(Aa (mn m hc K P (by simp[I]) λd x k1=>?_));simp only[Option.isNone_none,if_true];refine(Aa (Jb ?_));have N:d.get? l=b3 o:=k1 _ _ m;have od:d.get? s.heap.objs.size=b3 {cls:=.type "dict",data:=.dict #[]}:=k1 _ _ (An _ rfl);have i:s.heap.objs.size<d.objs.size:=Ak od;have j:l<s.heap.objs.size:=Ak H;have u:d.IsList l vs.toArray:=⟨o,N,hc,n,K⟩;have J:∀b ob,s.heap.get? b=b3 ob->d.get? b=b3 ob:=λb ob q=>k1 b ob (Ad _ q);have f:∀b ob,s.heap.get? b=b3 ob->b∉[d.objs.size]/\b≠s.heap.objs.size:=λb ob q=>by
  have:=Ak q
  exact⟨λz=>by rw[Aw.mp z]at this;exact absurd (Qt this i) (Ci _),λz=>by rw[z]at this;exact Ci _ this⟩
 have B:∀{vs:List Uq}{ps:List (Z5×Uq)},PrK prog w s.heap vs ps->∀a,Ay a∈vs->∃ob,s.heap.get? a=b3 ob:=by
  intro vs;induction vs with
  |nil=>intro ps _ a r;cases r
  |cons v vs O=>
   intro ps t a r;cases ps with
   |nil=>exact t.elim
   |cons p ps=>
    rcases Al.mp r with e|r
    ·obtain⟨⟨b,key,R,⟨ob,k,_⟩,_⟩,_⟩:=t
     rw[R]at e;cases e;exact⟨ob,k⟩
    ·exact O t.2 a r
 refine(Aa (Fx (s:={s with heap:=d,toks:=x}) u ?_));have W:=Sy (prog:=prog) (w:=w) (A:=A.in1.in1) (by simp[I]) d.objs.size l (Au (Qt j i)) vs.toArray;refine(Ag ⟨plainId_quiet Q6 _,cZ (A:=A.in1) W (λz=>?_) vs ps 0 0 _ [] (by simp) (by simp) ⟨⟨_,An _ rfl,rfl,rfl⟩,u.push _⟩ ?_ (by simpa using hz) (PrK.keep (C:=λ_=>True) (λb ob _ q=>Ad _ (J b ob q)) (λ_ _=>trivial) t) (λa r=>?_) λg tk D kept=>⟨rfl,h g tk D λb ob q=>?_⟩⟩)
 ·rcases Al.mp z with z|z
  ·exact absurd i (by rw[<-z];exact Ci _)
  ·rw[<- Aw.mp z]at j
   exact Ci _ j
 ·obtain⟨M,es,ep,y,L⟩:=G
  exact⟨M,es,ep,Ad _ (k1 _ _ y),L⟩
 ·obtain⟨ob,k⟩:=B t a r
  exact f a ob k
 ·exact kept b ob (f b ob q).1 (f b ob q).2 (Ad _ (J b ob q))
end
variable{X:Cx}{K:Ai}{H:Hp}{σ:St}{s:Ae}{aa:List (Ur×Ve)}{ml:List Nat}{pa ta ia:Bool}{fa:VF}{a:Ux}{p' pos:Pos}
def kprD:cH->Option (Z5×cH)
 |.tup [k,v]=>(UM k).map λkk=>(kk,v)
 |_=>b4
def OQ:List cH->Option (List (Z5×cH))
 |[]=>b3 []
 |d::ds=>(kprD d).bind λp=>(OQ ds).map λps=>p::ps
def E9(K:Ai)(H:Hp):List V->List (Z5×V)->Prop
 |[],[]=>True
 |v::vs,p::ps=>(∃a,v=.ref a/\VE K H a [kV p.1,p.2])/\E9 K H vs ps
 |_,_=>False
def jW{d:cH}{p:Z5×cH}(h:kprD d=b3 p):∃k,d=.tup [k,p.2]/\UM k=b3 p.1:=by
 unfold kprD at h;split at h
 ·rename_i k v
  cases e:UM k with
  |none=>rw[e]at h;cases h
  |some kk=>rw[e]at h;cases h;exact⟨k,rfl,e⟩
 ·cases h
theorem DT{N:Ur->Prop}:∀{xs:List V}{ds:List cH}{kds:List (Z5×cH)},bQ K N H xs ds->OQ ds=b3 kds->∃kvs:List (Z5×V),E9 K H xs kvs/\kvs.map Bw=kds.map Bw/\bQ K N H (kvs.map Cz) (kds.map Cz)
 |_,_,_,.nil,h=>by cases h;exact⟨[],trivial,rfl,.nil⟩
 | _,_,kds,@bQ.cons _ _ _ v vs d ds h t,e => by
  have e:(kprD d).bind (λp=>(OQ ds).map λps=>p::ps)=b3 kds:=e;obtain⟨p,h1,e⟩:=Ac.mp e;have e:(OQ ds).map (λps=>p::ps)=b3 kds:=e;obtain⟨qs,h2,e⟩:=Aj.mp e;cases e;obtain⟨kvs,g,f,c⟩:=DT t h2;obtain⟨k,rfl,i⟩:=jW h1;cases h.onT with
  |tup sq r=>
   cases r with
   |cons b r=>
    cases r with
    |cons a r=>
     cases r;have j:=b.key i;subst j;exact⟨(p.1,_)::kvs,⟨⟨_,rfl,sq⟩,g⟩,by simp[f],.cons a c⟩
theorem E9.prK(I:bS X aa σ H s):∀{xs:List V}{c:List Uq}{kvs:List (Z5×V)},E9 X.K H xs kvs->aY xs c->∃ps:List (Z5×Uq),KV kvs ps/\PrK X.prog X.w s.heap c ps
 |[],_,[],_,.nil=>⟨[],.nil,trivial⟩
 | _ :: _,_,p :: _,⟨⟨b,e,q⟩,r⟩,.cons h t => by
  subst e;cases h;obtain⟨ps,i,g⟩:=E9.prK I r t;obtain⟨j,a,k,_⟩:=I.tuple q;cases a with
  |cons f a=>
   cases a with
   |cons d a=>
    cases a;exact⟨(p.1,_)::ps,.cons ⟨rfl,d⟩ i,⟨b,_,rfl,k,OP f⟩,g⟩
 |[],_,_::_,h,_=>h.elim
 |_::_,_,[],h,_=>h.elim
theorem E9.len:∀{xs:List V}{ps:List (Z5×V)},E9 K H xs ps->xs.length=ps.length
 |[],[],_=>rfl
 |_::_,_::_,r=>by simp[E9.len r.2]
 |[],_::_,r=>r.elim
 |_::_,[],r=>r.elim
def cV(K:Ai):RC:=λxs H Q=>∃(p:Ur) (ys:List V) (kvs:List (Z5×V)),xs=[.ref p]/\XR K H p ys/\E9 K H ys kvs/\(kvs.map Bw).Nodup/\∀l:Ur,H l=b4->Q (.ref l) (upd H l (.dK kvs))
def kf(hc:X.calm=ba)(h:X.K=K:=by rfl):Z4 X (.type "dict") (cV K):=by subst h;intro aa s σ H xs v Q I r h;obtain⟨p,ys,kvs,rfl,l,d,j,q⟩:=h;obtain⟨u,rfl,e⟩:=VR r;cases e;obtain⟨k,c,pl,hz⟩:=I.list l;have w:=c.length;have m:=d.len;obtain⟨ps,i,f⟩:=d.prK I c;refine BQ (I.ok.hd hc) pl (by lia) f λg tk t kept=>?_;have n:KY [] kvs=kvs:=IB (acc:=[]) (by simpa using j);have b:=KV.merge i (kvs:=[]) (vs:=[]) .nil;rw[n]at b;exact⟨.ref s.heap.objs.size,_,I.laid (a:=s.heap.objs.size) (o:=.dK kvs) (t':=tk) kept (Ao _) (BR (by lia) (beq_eq_false_iff_ne.mpr (Dj (Au I.big))) b t),rfl,q _ (I.hok.fresh (Ao _))⟩
def Vq:cH->Option cH
 |.lst ds=>(OQ ds).bind λkds=>if(kds.map Bw).Nodup then b3 (.dct (kds.map Bw) (kds.map Cz))else b4
 |_=>b4
def CalD(K:Ai)(r:RC)(o:cH->Option cH):Prop:=∀(H:Hp) (N M:Ur->Prop) (x:V) (d c:cH) (Q:VK),aT K N H M x d->o d=b3 c->
 (∀p (kvs:List (Z5×V)) ds,H p=b4->bQ K N H (kvs.map Cz) ds->c=.dct (kvs.map Bw) ds->Q (.ref p) (upd H p (.dK kvs)))->r [x] H Q
def kC:CalD K (cV K) Vq:=by
 intro H N M x d c Q j h k;cases d with
 |lst ds=>
  have h:((OQ ds).bind λkds=>if(kds.map Bw).Nodup then b3 (cH.dct (kds.map Bw) (kds.map Cz))else b4)=b3 c:=h;obtain⟨kds,h1,h⟩:=Ac.mp h;have h:(if(kds.map Bw).Nodup then b3 (cH.dct (kds.map Bw) (kds.map Cz))else b4)=b3 c:=h;split at h
  ·rename_i i
   cases h;obtain⟨a,xs,rfl,sq,r⟩:=j.lstE;obtain⟨kvs,g,e,f⟩:=DT r h1;exact⟨a,xs,kvs,rfl,sq,g,by rw[e];exact i,λl b=>k l kvs _ b f (by rw[e])⟩
  ·cases h
 |_=>cases h
def mkDK{B:Bs}{O:Nat->Option Ur}{H1:Hp}{δ':Ev}{p:Ur}{pu:Bool}{kvs:List (Z5×V)}{ds:List cH}(S:aP K ml B O H1 σ δ')(f:Fr (OA O) H H1)(s:pu=ba->aN H H1)(a:H1 p=b4)(r:bQ K (Nn B O) H1 (kvs.map Cz) ds):ResN K ml B O H σ pu (upd H1 p (.dK kvs)) δ' p (.dct (kvs.map Bw) ds):=
 ⟨S.laid a,f.trans (b7 a).fr,λz=>(s z).trans (b7 a),.dct bU ((r.away a _ _ WC).same (b7 a)),S.new a,S.fresh a⟩
def oq(r:X.K=K)(hc:X.calm=ba)(n:Gl X "dict")(m:X.mg "dict"=b4)(g:Bo "dict"=b3 (.type "dict"))(o:PE X a (TV K ml pa ta ba fa))(l:("dict":Uv)≠ "__name__":=by decide)(e:(("dict":Uv)==("__debug__":Uv))=bb:=by decide)(b:SE X a []:=by rfl):PE X (.Call (.Name "dict" p') [a] [] pos) (TN K ml pa (f1 Vq fa)):=
 (V1 (kf hc r) n m g (a9 o ZP b) l e b).imp λσ H Q h=>by obtain⟨B,O,δ,d,δ',S,q,k⟩:=h;obtain⟨x,h1,h2⟩:=PX q;refine⟨B,O,δ,x,δ',S,h1,λf H1 c=>kC H1 _ _ f x d Q c.rep h2 λp kvs ds j i b=>?_⟩;subst b;exact k p _ (mkDK c.sta c.frm c.pur j i)
def BP{X:Cx}{aa:List (Ur×Ve)}{σ:St}{H H':Hp}{s:Ae}{A:Bz}{E:Uq->Ae->Prop}{a:Ur}{y v:V}{u r:Uq}{Q:Unit->Ae->Prop}(C:A.units<cLine)(I:bS X aa σ H s)(g:JG H a y v H')(p:aV y u)(t:aV v r)(h:∀s',bS X aa σ H' s'->Q () s'):Us (Ut X.prog X.w) A (dictSet a u r) Q E s:=by
 rcases g with⟨kvs,k,e,n,l,o⟩|⟨kvs,k,b,e,n,B,l,o⟩
 ·subst n o
  obtain⟨z,m,vs,d,dd⟩:=Xy I.hok e;have hz:vs.length<=sizeLine:=by rw[<-d.length];exact z
  have hl:(X8 kvs k v).length<=sizeLine:=by have:=U5 kvs k v;lia
  refine Ox (OP p) dd (λh' f j=>h _ ?_) hz;have D:∃q,h'.get? a=b3 q:=let ⟨q,_,_,i,_⟩:=f;⟨q,i⟩
  exact LW I (by rw[e];exact True.intro) j D (BR hl m (d.put k t) f)
 ·subst n o
  cases (show u=Ay b from p);obtain⟨z,m,xs,d,dd⟩:=Ym I.hok e;have hz:xs.length<=sizeLine:=by rw[<-Ic d];exact z
  have hl:(X8 kvs k v).length<=sizeLine:=by have:=U5 kvs k v;lia
  refine wpAny_dictSet_heap (hsz:=hz) (knd:=tupleKind (Z9 X.prog X.w)) C (RS I.hok B) dd λh' f j=>h _ ?_;obtain⟨q,es,ep,i,h2,J,G,_,F⟩:=f;refine LW I (by rw[e];exact True.intro) j ⟨q,i⟩ ⟨hl,m,_,(d.put k B t).keeps λc ys x=>?_,q,es,ep,i,h2,J,G,F⟩;rw[bL (Ye x e (λz=>nomatch z))];exact x
noncomputable def emD(D:Ur)(kx vx:Ux)(env:Env):Vk Unit:=do
 let a<-eval kx env
 let vv<-Of [a] (eval vx env)
 Ly {kx.pos with endLine:=vx.pos.endLine,endCol:=vx.pos.endCol}
 Of [a,vv] (dictSet D a vv)
section
variable{kx vx tg iter tg2 it2:Ux}{ifs am:List Ux}{scope:Vf}{pos:Pos}{D:Ur}{env:Env}
def lpD1:JI (.DictComp kx vx [⟨tg,iter,ifs,0⟩] scope pos) 0 tg ifs (emD D kx vx env) (.ref D) env:=⟨⟨iter.pos,λ_=>rfl⟩,λ_ _ _ _ _ _ _ h=>h,λ_ _ _ _ _ _ _ h=>h,λ_=>rfl,_,rfl,rfl⟩
def lpD2:JI (.DictComp kx vx [⟨tg,iter,ifs,0⟩,⟨tg2,it2,am,0⟩] scope pos) 0 tg ifs (em2 (.DictComp kx vx [⟨tg,iter,ifs,0⟩,⟨tg2,it2,am,0⟩] scope pos) it2 (.ref D) env) (.ref D) env:=⟨⟨iter.pos,λ_=>dR (e:=.DictComp kx vx [⟨tg,iter,ifs,0⟩,⟨tg2,it2,am,0⟩] scope pos)⟩,λ_ _ _ _ _ _ _ h=>h,λ_ _ _ _ _ _ _ h=>h,λ_=>rfl,_,rfl,rfl⟩
def lpD3:JI (.DictComp kx vx [⟨tg,iter,ifs,0⟩,⟨tg2,it2,am,0⟩] scope pos) 1 tg2 am (emD D kx vx env) (.ref D) env:=⟨⟨it2.pos,λ_=>rfl⟩,λ_ _ _ _ _ _ _ h=>h,λ_ _ _ _ _ _ _ h=>h,λ_=>rfl,_,rfl,rfl⟩
end
section
variable{Y:Cx}{kx vx e it2 tg2:Ux}{am:List Ux}{tk tv:TE}{D:Ur}{wi:TI}{g:TG}{tt:TT}{em:Vk Unit}{tm:TM}{acc:Uq}
def tmD(D:Ur)(tk tv:TE):TM:=λσ H N=>tk σ H λy H1=>tv σ H1 λv H2=>∃a,JG H2 D y v a/\N σ a
def cP(a:Y.xe=λ_ _=>False)(f:Y.A.units<cLine)(i:PE Y kx tk)(e:PE Y vx tv):PM Y (emD D kx vx Y.env) (tmD D tk tv):=by
 intro aa s σ H N I h;have nx:∀{α:Sort _}{x:Uq}{s:Ae},Y.xe x s->α:=λz=>by rw[a]at z;exact z.elim
 exact Aa (Ax (i aa s σ H _ I h) (λn s1 ⟨y,H1,l,c,q1⟩=>Aa (Bp (Ax (e aa s1 σ H1 _ l q1) (λvv s2 ⟨v,H2,k,b,m,g,d⟩=>
  Aa (Dz (Bp (BP f k g c b λs3 j=>⟨σ,m,j,d⟩)))) λ_ _ z=>nx z))) λ_ _ z=>nx z)
end
def AD{X:Cx}{i:Nat}{y:Uv}{py pos aw:Pos}{tg iter kx vx:Ux}{ifs:List Ux}{rest:List Comprehension}{scope:Vf}{N':List Uv}{ix:List Nat}{nl:Nat}{wi:TI}{g:TG}{tt:TT}{tm:Ur->TM}{o0:HO}(u:o0=.dK []∨o0=.dT [])(E:X.N.Nodup)(l:X.N[i]?=b3 y)(f:X.env.scope.names.lookup y=b3 .local)(hc:X.calm=ba)(S:N0 X N' ix scope)(k:N'.length=ix.length+nl)(hi:PI X tg iter wi)(m:∀(cl:List (Uv×Ur)) (s1:Ae) (H1:Hp) (fp:List Ur),BlkG (Z8 X N' scope cl s1 H1 fp) (.DictComp kx vx (⟨tg,iter,ifs,0⟩::rest) scope pos) tg ifs g tt tm)(j:Vc (.DictComp kx vx (⟨tg,iter,ifs,0⟩::rest) scope pos) (b3 (.Name y py)) aw.line X.env=pure ba)(r:∀x,Uz iter X.env x=pure x):PS X (.Assign [.Name y py] (.DictComp kx vx (⟨tg,iter,ifs,0⟩::rest) scope pos) aw) (tAsg (λσ H Q=>wi σ H λJ H0=>∀D,H0 D=b4->G7 D o0 ix nl J g tt tm σ H0 λH'=>Q (.ref D) H') (WH i)):=by
 intro aa s σ H D I h;rw[Nd _ _ _ _ j];refine Aa (Dz (Aa ?_));show Us _ X.A (do let _<-comprehension (.DictComp kx vx (⟨tg,iter,ifs,0⟩::rest) scope pos) scope X.env _ newDict bb (eval iter X.env) (b3 (Gg (.Name y py) X.env))) _ _ s;obtain⟨cl,K,G,F⟩:=FL (env:=X.env) (scope:=scope) λy f B=>I.ok.has y.1 (S.free y f B);refine Aa (Ax (Hy (use:=b3 (Gg (.Name y py) X.env)) (cl:=cl) (Q:=λ_ s'=>SP X aa D .next s') rfl r K S.kind S.names
  (Ax (hi aa s σ H _ I h) (λL o c=>Ax c (λp a b=>?_) λ_ _ e=>e) λ_ _ e=>e)) (λ_ s' t=>Ag (Ag t)) λ_ _ e=>e)
 obtain⟨it,fp,M,J,H2,e,n,T,d,f2,q⟩:=b;subst e;refine PU (ob:={cls:=.type "dict",data:=.dict #[]}) (o0:=o0) (Q:=λv H'=>D.nx (σ.set i (b3 v)) H') (RR:=λacc C=>Ti (Ut X.prog X.w) X.A X.xe (b3 (Gg (.Name y py) X.env)) (λ_ s'=>SP X aa D .next s') acc C) (λz=>Cb z) ?_ hc S k G F m n T d f2 q (AS E l f);rcases u with rfl|rfl
 ·exact DM a.heap n.big
 ·exact DN a.heap n.big
section
variable{X:Cx}{K:Ai}{ml:List Nat}{pi:Bool}{B:Bs}{O:Nat->Option Ur}{H H1 H':Hp}{σ:St}{δ δ':Ev}{v:V}{d:cH}{D:Ur}{pos:Pos}{ps:List (List Int)}{ds:List cH}{p:List Int}
def AY{N M:Ur->Prop}(h:aT K N H M v d)(e:tpD d=b3 p):∃b,v=.ref b/\H b=b3 (.tup (p.map V.int)):=by
 obtain⟨ds,rfl,h1,h2⟩:=cT e;cases h.onT with
 |tup sq r=>
  have f:=UJ r h1;subst f;rcases sq with sq|⟨o,c,n,_,_,_,_,_,z⟩
  ·exact⟨_,rfl,sq⟩
  ·cases p with
   |nil=>exact absurd rfl h2
   |cons a t=>cases z
def eL{N M:Ur->Prop}{b:Ur}(h:H b=b3 (.tup (p.map V.int))):aT K N H M (.ref b) (.tup (p.map .int)):=.tup (.inl h) (LC p)
theorem G0:∀{ds:List cH}{ps:List (List Int)},QG ds=b3 ps->ds.length=ps.length
 |[],_,h=>by cases h;rfl
 |d::ds,ps,h=>by obtain⟨p,_,h⟩:=Ac.mp (show(tpD d).bind (λp=>(QG ds).map λps=>p::ps)=b3 ps from h);obtain⟨qs,h2,h⟩:=Aj.mp h;cases h;simp[G0 h2]
theorem GZ:∀{ds:List cH}{ps:List (List Int)}{i:Nat}{d:cH},QG ds=b3 ps->ds[i]?=b3 d->∃p,ps[i]?=b3 p/\tpD d=b3 p
 |[],_,_,_,_,h=>by simp at h
 |d::ds,ps,i,e,h,hi=>by
  obtain⟨p,h1,h⟩:=Ac.mp (show(tpD d).bind (λp=>(QG ds).map λps=>p::ps)=b3 ps from h);obtain⟨qs,h2,h⟩:=Aj.mp h;cases h;cases i with
  |zero=>cases hi;exact⟨p,rfl,h1⟩
  |succ i=>simpa using GZ h2 (by simpa using hi)
def FS{o o':HO}(h:H D=b3 o)(n:¬Hard o):Fr (λb=>b=D) H (upd H D o'):=λc u q k=>by
 by_cases hc:c=D
 ·subst hc
  rw[h]at q;cases q;exact absurd (k rfl) n
 ·rw[bL hc]
  exact q
def hW{o:HO}(h:aN H H')(c:H D=b4):aN H (upd H' D o):=λb u e=>by
 have a:b≠D:=λz=>by rw[z,c]at e;cases e
 rw[bL a];exact h b u e
def GJ{κ:Type}[DecidableEq κ]{kvs:List (κ×V)}{k:κ}(h:k∉kvs.map Bw):X8 kvs k v=kvs++[(k,v)]:=by unfold X8;refine if_neg λz=>h ?_;obtain⟨x,a,e⟩:=Rj.mp z;exact Cv.mpr ⟨x,a,of_decide_eq_true e⟩
theorem Yd:∀{ps:List (List Int)}{i:Nat}{p:List Int},ps[i]?=b3 p->ps.flatten=(ps.take i).flatten++(p++(ps.drop (i+1)).flatten)
 |[],_,_,h=>by simp at h
 |q::ps,0,p,h=>by cases h;simp
 |q::ps,i+1,p,h=>by simpa using Yd (ps:=ps) (i:=i) (by simpa using h)
def noK(ps:List (List Int)):List Z5:=ps.flatten.map Fs
def noV(ps:List (List Int)):List cH:=ps.flatMap λp=>p.map λ_=>.tup (p.map .int)
def fNO(fi:VI):VF:=λδ=>(fi δ).bind λp=>(QG p.1).bind λps=>if ps.flatten.Nodup/\ps.flatten.length<=16777216 then b3 (.dct (noK ps) (noV ps),p.2)else b4
abbrev tmNO(K:Ai)(D:Ur):TM:=tm2 (iTup K (VC 0)) (WH 1) GX (tmD D (VC 1) (VC 0))
def pG{fi:VI}{Q:VK}(h:TN K ml pi (fNO fi) σ H Q):JV K ml pi fi σ H λJ H0=>∀D,H0 D=b4->G7 D (.dK []) [] 2 J (WH 0) GX (tmNO K) σ H0 λH'=>Q (.ref D) H':=by
 obtain⟨B,O,δ,d,δ2,S,q,k⟩:=h;unfold fNO at q;obtain⟨⟨ds,δ1⟩,h1,q⟩:=Ac.mp q;obtain⟨ps,h2,q⟩:=Ac.mp q;split at q
 ·rename_i hn
  cases q;refine⟨B,O,δ,ds,δ1,S,h1,λJ kps H0 Y f0 p0 wk D U=>?_⟩;have ag:=G0 h2;refine⟨λi m H1=>m=ds.length-i/\i<=ds.length/\aN H0 H1/\∃kvs,H1 D=b3 (.dK kvs)/\kvs.map Bw=noK (ps.take i)/\bQ K (λ_=>True) H1 (kvs.map Cz) (noV (ps.take i)),ds.length,⟨rfl,Cn _,b7 U,[],bU,rfl,.nil⟩,?_⟩;rintro i m H1 ⟨rfl,hi,N,kvs,s,A,t⟩;have w:=wk (Nn B O) H1 λp X=>(Y.same N).kep p (Bf _ X);by_cases v:i<ds.length
  ·obtain ⟨go,yl⟩ := w.1 i ds[i] (by simp [v])
   refine .inr ⟨go,λH'=>aN H0 H'/\∃kvs,H' D=b3 (.dK kvs)/\kvs.map Bw=noK (ps.take (i+1))/\bQ K (λ_=>True) H' (kvs.map Cz) (noV (ps.take (i+1))),λH' Z=>⟨ds.length-(i+1),by lia,rfl,v,Z⟩,λx H2 hy=>?_⟩;obtain⟨n,rx⟩:=yl x H2 hy;obtain⟨p,X,hp'⟩:=GZ h2 (show ds[i]?=b3 ds[i] by simp[v]);obtain⟨b,rfl,C⟩:=AY rx hp';have R:=Yd X;have T:b≠D:=λz=>by rw[z,n _ _ s]at C;cases C
   have L:ps.take (i+1)=ps.take i++[p]:=by rw[Lr,X];rfl
   refine⟨rfl,?_⟩;show tmNO K D [b3 (.ref b),b4] H2 _;refine⟨.ref b,rfl,b,rfl,⟨_,.inl C⟩,λj m F W=>m=p.length-j/\j<=p.length/\(∃z,F=[b3 (.ref b),z])/\aN H0 W/\W b=b3 (.tup (p.map V.int))/\∃kvs,W D=b3 (.dK kvs)/\kvs.map Bw=noK (ps.take i)++(p.take j).map Fs∧
    bQ K (λ_=>True) W (kvs.map Cz) (noV (ps.take i)++(p.take j).map λ_=>.tup (p.map .int)),p.length,⟨rfl,Cn _,⟨b4,rfl⟩,N.trans n,C,kvs,n _ _ s,by simpa using A,by simpa using t.same n⟩,?_⟩
   rintro j m F W ⟨rfl,hj,⟨z,rfl⟩,M,l,c,E,r,P⟩;by_cases g:j<p.length
   ·refine .inr ⟨⟨_,.int p[j],.inl l,by simp [g]⟩,λG H' => (∃ z,G = [b3 (.ref b),z]) /\ aN H0 H' /\ H' b = b3 (.tup (p.map V.int)) /\ ∃ kvs,H' D = b3 (.dK kvs) /\ kvs.map Bw = noK (ps.take i) ++ (p.take (j + 1)).map Fs ∧
     bQ K (λ_=>True) H' (kvs.map Cz) (noV (ps.take i)++(p.take (j+1)).map λ_=>.tup (p.map .int)),λG H' Z=>⟨p.length-(j+1),by lia,rfl,g,Z⟩,λy H4 hy4=>?_⟩
    obtain⟨rfl,hx⟩:=hy4;have ex:=hx _ (.inl l);rw[Bt,Bx g]at ex;cases ex;have hkl:c.length=(ps.take i).flatten.length+j:=by rw[<-Bm (f:=Bw),r,Cc,noK,Bm,Bm,Cf,Iu hj]
    have j7:=congrArg List.length R;simp only[Cc]at j7;have c7:Fs p[j]∉c.map Bw:=by
     rw[r,noK,<-Cu,Cv];rintro ⟨a,ha,ea⟩;cases ea;have nd:=hn.1;have ep:p.take j++(p[j]::p.drop (j+1))=p:=by rw[<-Dn g,List.take_append_drop]
     rw[R,<-ep,Df,<-Df]at nd;exact(Lo.mp nd).2.2 _ ha p[j] At rfl
    have I:p.take (j+1)=p.take j++[p[j]]:=by rw[Lr,Bx g];rfl
    unfold WH GX tmD VC;simp only[List.set_cons_succ,List.set_cons_zero,if_true];refine⟨.int p[j],rfl,.ref b,rfl,_,.inl ⟨c,.inl p[j],E,rfl,by rw[Bv];lia,rfl⟩,⟨_,rfl⟩,hW M U,by rw[bL T];exact l,c++[(.inl p[j],.ref b)],?_,?_,?_⟩
    ·rw[bU,GJ c7]
    ·rw[Cu,r,I,Cu,Df];rfl
    ·rw[Cu,I,Cu,<- Df]
     refine bQ.append (P.fr (FS E (λz=>z)) λ_ _=>trivial) (.cons (eL ?_) .nil);rw[bL T];exact l
   ·obtain rfl : j = p.length := by lia
    refine .inl ⟨⟨_,.inl l,by simp⟩,rfl,M,c,E,?_,?_⟩
    ·rw[r,L,noK,noK,List.flatten_append,Cu,List.take_length];simp
    ·rw[L,noV,List.flatMap_append]
     simpa[noV]using P
  ·obtain rfl : i = ds.length := by lia
   rw[Ce (by lia)]at A t;refine .inl ⟨w.2,k D H1 ?_⟩;have SL:=Y.unkeep.laid (o:=.dK kvs) U;refine⟨SL.same λb u e=>?_,f0.trans N.fr,λz=>(p0 z).trans N,?_,Y.unkeep.new U,Y.fresh U⟩
   ·by_cases C:b=D
    ·subst C
     rw[bU]at e;cases e;exact s
    ·rw[bL C]at e
     exact N b u e
   ·rw[<- A]
    exact .dct s (t.mono λ_ _=>trivial)
 ·cases q
structure gX(Y:Cx)(tg it2 tg2 kx vx:Ux):Prop where
 a:PG Y tg (WH 0)
 b:PE Y it2 (VC 0)
 c:PG Y tg2 (WH 1)
 d:PE Y kx (VC 1)
 e:PE Y vx (VC 0)
def lc{i:Nat}{y:Uv}{py aw:Pos}{tg iter tg2 it2 kx vx:Ux}{scope:Vf}{fi:VI}(q:X.A.units+1<cLine)(u:X.N.Nodup)(N':List Uv)(hi:PI X tg iter (JV K ml pi fi))(n:N'.Nodup->∀(cl:List (Uv×Ur)) (s1:Ae) (H1:Hp) (fp:List Ur),gX (Z8 X N' scope cl s1 H1 fp) tg it2 tg2 kx vx)(m:X.N[i]?=b3 y:=by rfl)(p:X.env.scope.names.lookup y=b3 .local:=by rfl)(v:X.K=K:=by rfl)(hc:X.calm=ba:=by rfl)(t:scope.kind=.function:=by rfl)(k:TQ X.N N' [] scope.names X.env.kindOf=ba:=by rfl)(l:N'.length=2:=by rfl)(s:i∉ml:=by decide)(f:Vc (.DictComp kx vx [⟨tg,iter,[],0⟩,⟨tg2,it2,[],0⟩] scope pos) (b3 (.Name y py)) aw.line X.env=pure ba:=by rfl)(r:∀x,Uz iter X.env x=pure x:=by intro _;rfl)(j:∀(env:Env) (x:Uq),Uz it2 env x=pure x:=by intro _ _;rfl):PS X (.Assign [.Name y py] (.DictComp kx vx [⟨tg,iter,[],0⟩,⟨tg2,it2,[],0⟩] scope pos) aw) (WG K ml (aL i (xO (fNO fi)))):=by subst v;have S:=YZ t k;refine(AD (ix:=[]) (nl:=2) (g:=WH 0) (tt:=GX) (tm:=tmNO X.K) (.inl rfl) u m p hc S (by simpa using l) hi (λcl s1 H1 fp=>?_) f r).imp λD σ H h=>G1 (x:=xO (fNO fi)) (λσ H Q z=>pG (A3 (o:=ba) (pu:=pi) z)) s h;obtain⟨a,b,c,d,e⟩:=n S.nd cl s1 H1 fp;exact⟨a,L9,λD=>⟨_,lpD2,eB rfl hc (Xq b) c L9 lpD3 (cP rfl (Lq q) d e) λx=>j _ x⟩⟩
end
section
variable{X:Cx}{K:Ai}{ml:List Nat}{pi:Bool}{B:Bs}{O:Nat->Option Ur}{H H1 H':Hp}{σ:St}{δ δ':Ev}{v:V}{d:cH}{D:Ur}{pos:Pos}{ps:List (List Int)}{ds:List cH}{p:List Int}{ls:List Ur}{lls:List (List cH)}
def V4(B:Bs)(ls:List Ur):Bs:=ls.foldl Bs.add B
theorem M4{a:Ur}:∀{ls:List Ur}{B:Bs},(V4 B ls).Z a↔B.Z a∨a∈ls
 |[],_=>by simp[V4]
 |l::ls,B=>by show(V4 (B.add l) ls).Z a↔_;rw[M4];show(B.Z a∨a=l)∨a∈ls↔_;rw[Al,or_assoc]
theorem LQ:∀{ls:List Ur}{B:Bs},(V4 B ls).H0=B.H0
 |[],_=>rfl
 |l::ls,B=>LQ (ls:=ls) (B:=B.add l)
def ri{l:Ur}:V4 B (ls++[l])=(V4 B ls).add l:=by simp[V4]
theorem aP.unadds:∀{ls:List Ur}{B:Bs},aP K ml (V4 B ls) O H σ δ->aP K ml B O H σ δ
 |[],_,S=>S
 |_::ls,_,S=>(aP.unadds (ls:=ls) S).unadd
def aP.setNo(S:aP K ml B O H σ δ){i:Nat}{v:V}(h:i∉ml):aP K ml B (λj=>if j=i then b4 else O j) H (σ.set i (b3 v)) (δ.set i .no):=by
 have c:=S.setVa (i:=i) h (aT.non (K:=K) (N:=Nn B O) (H:=H) (M:=Nn B O));have no:∀{j:Nat}{s:Sl},(δ.set i .no)[j]?=b3 s->s≠ .no->j≠i/\(δ.set i (.va .non))[j]?=b3 s:=λ{j s} q n=>by
  rcases T9 q with⟨rfl,z,_⟩|⟨b,q⟩
  ·exact absurd z n
  ·exact⟨b,by rw[Ba (Dj b)];exact q⟩
 have g:∀{j:Nat}{x:Option V},j≠i->(σ.set i (b3 .non))[j]?=b3 x->(σ.set i (b3 v))[j]?=b3 x:=λ{j x} b q=>by rw[Ba (Dj b)]at q⊢;exact q
 refine⟨by rw[By,By,S.len],λj e q=>?_,λj e q=>?_,λj a e=>?_,c.inj,c.old,c.zin,c.frm,c.par,c.pin,c.kep⟩
 ·obtain ⟨b,q⟩ := no q (λz => nomatch z)
  obtain⟨u,f,r⟩:=c.va j e q;exact⟨u,g b f,r⟩
 ·obtain ⟨b,q⟩ := no q (λz => nomatch z)
  obtain⟨a,f,k,w⟩:=c.ow j e q;exact⟨a,f,g b k,w⟩
 ·by_cases b:j=i
  ·simp[b]at e
  ·obtain ⟨d,q⟩ := S.dom j a (by simpa [b]using e)
   exact⟨d,by rw[Ba (Dj b)];exact q⟩
def G4(ps:List (List Int)):List (List Ky):=ps.map λp=>p.map Fs
structure C9(K:Ai)(B:Bs)(H:Hp)(D:Ur)(ls:List Ur)(ps:List (List Int))(lls:List (List cH)):Prop where
 dic:H D=b3 (.dT ((G4 ps).zip (ls.map V.ref)))
 len:ls.length=ps.length
 ln2:lls.length=ps.length
 all:∀(j:Nat) l ds,ls[j]?=b3 l->lls[j]?=b3 ds->∃xs,H l=b3 (.lst xs)/\bQ K (λ_=>True) H xs ds
 nd:ls.Nodup
 nz:∀l∈ls,¬(B.add D).Z l/\B.H0 l=b4
def C9.fr{kp:List (V×cH)}(W:C9 K B H D ls ps lls)(S:aP K ml {V4 (B.add D) ls with kp:=kp} O H1 σ δ)(f:Fr (OA O) H H1):C9 K B H1 D ls ps lls:=by
 have no:∀a,a=D∨a∈ls->¬OA O a:=λa h z=>by
  obtain⟨i,e⟩:=z;refine(S.old i a e).1 (M4.mpr ?_);rcases h with h|h
  ·exact .inl (.inr h)
  ·exact .inr h
 refine⟨f _ _ W.dic λz=>absurd z (no D (.inl rfl)),W.len,W.ln2,λj l ds b c=>?_,W.nd,W.nz⟩;obtain⟨xs,h1,h2⟩:=W.all j l ds b c;exact⟨xs,f _ _ h1 λz=>absurd z (no l (.inr (Cw b))),h2.fr f λ_ _=>trivial⟩
def C9.same(W:C9 K B H D ls ps lls)(f:aN H H1):C9 K B H1 D ls ps lls:=
 ⟨f _ _ W.dic,W.len,W.ln2,λj l ds b a=>let ⟨xs,h1,h2⟩:=W.all j l ds b a;⟨xs,f _ _ h1,h2.same f⟩,W.nd,W.nz⟩
def C9.app{j:Nat}{l:Ur}{xs:List V}(W:C9 K B H D ls ps lls)(h:ls[j]?=b3 l)(o:lls[j]?=b3 ds)(h1:H l=b3 (.lst xs))(h2:bQ K (λ_=>True) H xs ds)(n:aT K (λ_=>True) H (λ_=>True) v d):C9 K B (upd H l (.lst (xs++[v]))) D ls ps (lls.set j (ds++[d])):=by
 have g:D≠l:=λz=>(W.nz l (Cw h)).1 (.inr z.symm);have f:Fr (λb=>b=l) H (upd H l (.lst (xs++[v]))):=FS h1 λz=>z;refine⟨by rw[bL g];exact W.dic,W.len,by rw[By];exact W.ln2,λi m k e c=>?_,W.nd,W.nz⟩;by_cases a:j=i
 ·subst a
  rw[h]at e;cases e;rw[Cd (Ah.mp o).1]at c;cases c;exact⟨_,bU,(h2.snoc n).fr f λ_ _=>trivial⟩
 ·rw[Ba a]at c
  have hl:m≠l:=λz=>by subst z;obtain⟨s,q⟩:=Ah.mp h;obtain⟨r,p⟩:=Ah.mp e;exact a ((Jt W.nd).mp (q.trans p.symm))
  obtain⟨ys,q1,q2⟩:=W.all i m k e c;exact⟨ys,by rw[bL hl];exact q1,q2.fr f λ_ _=>trivial⟩
theorem dD:∀{ps:List (List Int)}{ls:List Ur}{j:Nat}{l:Ur},ps.Nodup->ps[j]?=b3 p->ls[j]?=b3 l->UV ((G4 ps).zip (ls.map V.ref)) (p.map Fs)=b3 (.ref l)
 |[],_,_,_,_,h,_=>by simp at h
 |_::_,[],_,_,_,_,h=>by simp at h
 |q::ps,m::ls,0,l,_,h,g=>by
  cases g;exact UW (p:=(q.map Fs,V.ref m)) (by rw[Cq (show b3 q=b3 p from h)])
 |q::ps,m::ls,j+1,l,a,h,g=>by
  obtain⟨c,b⟩:=De.mp a;have h:ps[j]?=b3 p:=by simpa using h
  refine(VQ (p:=(q.map Fs,V.ref m)) λz=>c ?_).trans (dD b h (by simpa using g));have:q=p:=(Ps λ_ _ e=>Rv e).mp z
  exact this▸Cw h
end
section
variable{X:Cx}{K:Ai}{ml:List Nat}{pi pi2 pt pk pa:Bool}{B:Bs}{O:Nat->Option Ur}{H H1 H':Hp}{σ:St}{δ δ':Ev}{v:V}{d:cH}{D:Ur}{pos:Pos}{ps:List (List Int)}{ds:List cH}{p:List Int}{ls:List Ur}{lls:List (List cH)}
def aP.writeG{o o':HO}(S:aP K ml B O H σ δ)(k:B.Z D)(hl:H D=b3 o)(m:¬Hard o)(s:B.H0 D=b4):aP K ml B O (upd H D o') σ δ:=by
 have j:Fr (λb=>b=D) H (upd H D o'):=FS hl m;have f:∀b,b=D->Nn B O b:=λb z=>.inl (z▸k);have c:∀b,(∃u,H b=b3 u)->∃u,upd H D o' b=b3 u:=λb q0=>by
  obtain⟨u,q⟩:=q0;by_cases g:b=D
  ·exact⟨o',by rw[g];exact bU⟩
  ·exact⟨u,by rw[bL g];exact q⟩
 refine⟨S.len,λi d q=>?_,λi d q=>?_,S.dom,S.inj,S.old,λb h=>c b (S.zin b h),λb u q n=>?_,S.par,λb h=>c b (S.pin b h),λp l=>(S.kep p l).fr j f f⟩
 ·obtain⟨v,e,r⟩:=S.va i d q
  exact⟨v,e,r.fr j f f⟩
 ·obtain⟨a,e,t,w⟩:=S.ow i d q
  exact⟨a,e,t,w.fr j f λz=>(S.old i a e).1 (z▸k)⟩
 ·have g : b ≠ D := λz => by rw [z,s]at q;cases q
  rw[bL g];exact S.frm b u q n
theorem dQ:∀{ls:List Ur}{B:Bs},(V4 B ls).kp=B.kp
 |[],_=>rfl
 |l::ls,B=>dQ (ls:=ls) (B:=B.add l)
def eX{T M:Hp->Prop}(h:T H):GX σ H λb a=>if b=ba then T a else M a:=h
def tE:TE:=λ_ H Q=>∀p,H p=b4->Q (.ref p) (upd H p (.lst []))
def pe_e:PE X (.List [] pos) tE:=(CD ZP).imp λσ H Q h=>⟨Cn _,h⟩
def BW(p:List Int):(p.map Fs).map kV=p.map V.int:=by rw[Lc];rfl
def lg(h:p.map Fs∈G4 ps):p∈ps:=by
 obtain⟨q,a,e⟩:=Cv.mp h;have:q=p:=(Ps λ_ _ e=>Rv e).mp e
 exact this▸a
def qp{fi:VI}{δ1:Ev}{R:Ur->Hp->Prop}(S:aP K ml B O H σ δ)(h1:fi δ=b3 (ds,δ1))(h2:QG ds=b3 ps)(hn:ps.Nodup)(hz:ps.length<=16777216)(k:∀d D ls H1,aP K ml (V4 (Bs.add {B with kp:=d++B.kp} D) ls) O H1 σ δ1->C9 K {B with kp:=d++B.kp} H1 D ls ps (ps.map λ_=>[])->B.H0 D=b4->¬B.Z D->R D H1):JV K ml pi fi σ H λJ H0=>∀D,H0 D=b4->G7 D (.dT []) [] 1 J (WH 0) GX (λD=>tmD D (VC 0) tE) σ H0 λH'=>R D H':=by
 refine⟨B,O,δ,ds,δ1,S,h1,λJ d H0 T f0 p0 Y D M=>?_⟩;have ag:=G0 h2;have W:B.H0 D=b4:=T.fresh M;have C:¬B.Z D:=λz=>T.new M (.inl z);refine⟨λi m H1=>m=ds.length-i/\i<=ds.length/\∃ls,aP K ml (V4 (Bs.add {B with kp:=d++B.kp} D) ls) O H1 σ δ1/\C9 K {B with kp:=d++B.kp} H1 D ls (ps.take i) ((ps.take i).map λ_=>[]),ds.length,⟨rfl,Cn _,[],T.laid M,bU,rfl,rfl,λj l ds e=>by simp at e,Nx,λl h=>nomatch h⟩,?_⟩;rintro i m H1 ⟨rfl,hi,ls,Q,N⟩;have w:=Y (Nn (V4 (Bs.add {B with kp:=d++B.kp} D) ls) O) H1 λp v=>Q.kep p (by rw[dQ];exact Bf _ v);by_cases n:i<ds.length
 ·obtain ⟨go,X⟩ := w.1 i ds[i] (by simp [n])
  refine .inr ⟨go,λH1=>∃ls,aP K ml (V4 (Bs.add {B with kp:=d++B.kp} D) ls) O H1 σ δ1/\C9 K {B with kp:=d++B.kp} H1 D ls (ps.take (i+1)) ((ps.take (i+1)).map λ_=>[]),λH' w'=>⟨ds.length-(i+1),by lia,rfl,n,w'⟩,λx H2 hy=>?_⟩;obtain⟨r,rx⟩:=X x H2 hy;obtain⟨p,v,E⟩:=GZ h2 (show ds[i]?=b3 ds[i] by simp[n]);obtain⟨b,rfl,U⟩:=AY rx E;have P:=Q.same r;have f:=N.same r;have A:ps.take (i+1)=ps.take i++[p]:=by rw[Lr,v];rfl
  have F:=f.len;rw[Cf,Iu (by lia)]at F;have c7:p.map Fs∉((G4 (ps.take i)).zip (ls.map V.ref)).map Bw:=by
   rw[Rk (by simp[G4,f.len])];intro z;have z:=lg z;obtain⟨hil,e⟩:=Ah.mp v;obtain⟨j,y,g⟩:=List.mem_take_iff_getElem.mp z;have:=(Jt hn).mp (g.trans e.symm)
   lia
  refine⟨rfl,eX ?_⟩;refine⟨.ref b,rfl,λl hl=>⟨_,.inr ⟨(G4 (ps.take i)).zip (ls.map V.ref),p.map Fs,b,?_,rfl,?_,?_,rfl⟩,rfl,ls++[l],?_⟩⟩
  ·rw [bL (λz => by rw [<- z,f.dic]at hl;cases hl)]
   exact f.dic
  ·rw [BW,bL (λz => by rw [<- z,U]at hl;cases hl)]
   exact U
  ·rw[List.length_zip,Bv]
   simp[G4];lia
  have u:D≠l:=λz=>by rw[<-z,f.dic]at hl;cases hl
  have t:∀m,ls[m]? ≠b3 l:=λm e=>by
   have y:m<((ps.take i).map λ_=>([]:List cH)).length:=by
    have:=(Ah.mp e).1
    rw[Bm,Cf,Iu (by lia)];lia
   obtain⟨xs,h,_⟩:=f.all m l _ e (Bx y);rw[hl]at h;cases h
  rw[ri];refine⟨(P.laid hl).writeG (o:=.dT ((G4 (ps.take i)).zip (ls.map V.ref))) (.inl (M4.mpr (.inl (.inr rfl)))) (by rw[bL u];exact f.dic) (λz=>z) ?_,?_⟩
  ·show(V4 (Bs.add {B with kp:=d++B.kp} D) ls).H0 D=b4
   rw[LQ];exact W
  ·rw[A]
   refine⟨?_,by simp[f.len],by simp,λj s es q g=>?_,?_,λs h=>?_⟩
   ·rw [bU,GJ c7,show G4 (ps.take i ++ [p]) = G4 (ps.take i) ++ [p.map Fs] by simp [G4],Cu,Na (by simp [G4,f.len])]
    rfl
   ·rw[List.getElem?_append]at q
    split at q
    ·rename_i y
     rw[Cu,Ar (by simp;lia)]at g;obtain⟨xs,q1,q2⟩:=f.all j s es q g;have L:s≠l:=λz=>t j (z▸q);have I:s≠D:=λz=>by rw[z,f.dic]at q1;cases q1
     refine⟨xs,by rw[bL I,bL L];exact q1,?_⟩;rw[Bt]at g;obtain⟨_,_,rfl⟩:=Aj.mp g;cases q2;exact .nil
    ·rename_i y
     have G:=(Ah.mp q).1;simp at G;obtain rfl:j=ls.length:=by lia
     simp at q;subst q;rw[Bt]at g;obtain⟨_,_,rfl⟩:=Aj.mp g;exact⟨[],by rw[bL (Dj u),bU],.nil⟩
   ·refine Lo.mpr ⟨f.nd,by simp,λa ha c hc z => ?_⟩
    rw[Aw.mp hc]at z;obtain⟨m,e⟩:=Js.mp ha;exact t m (z▸e)
   ·rcases Db.mp h with h|h
    ·exact f.nz s h
    ·rw[Aw.mp h]
     refine⟨λz=>P.new hl (.inl (M4.mpr (.inl z))),?_⟩;have:=P.fresh hl
     rw[LQ]at this;exact this
 ·obtain rfl : i = ds.length := by lia
  rw[Ce (by lia)]at N;exact .inl ⟨w.2,k d D ls H1 Q N W C⟩
end
section
variable{X:Cx}{K:Ai}{ml:List Nat}{pi pi2 pt pk pa:Bool}{B:Bs}{O:Nat->Option Ur}{H H1 H':Hp}{σ:St}{δ δ':Ev}{v:V}{d:cH}{D:Ur}{pos:Pos}{ps:List (List Int)}{ds:List cH}{p:List Int}{ls:List Ur}{lls:List (List cH)}{i1 i2 iw:Nat}{fi fp:VI}{tb:VB}{fk fa:VF}
noncomputable def pr2:cH->Option (cH×cH)
 |.tup [a,b]=>b3 (a,b)
 |_=>b4
def wtL(i1 i2:Nat)(tb:VB)(fk fa:VF)(ps:List (List Int)):List cH->List (List cH)->Ev->Option (List (List cH)×Ev)
 |[],ls,δ=>b3 (ls,δ)
 | d :: r,ls,δ => (pr2 d).bind λz => (tb ((δ.set i1 (.va z.1)).set i2 (.va z.2))).bind λp => if p.1 = ba then (fk p.2).bind λk => (tpD k.1).bind λkey => (fa k.2).bind λa => (ls[ps.idxOf key]?).bind λl =>
   if ps[ps.idxOf key]?=b3 key/\a.1.hard=ba/\l.length<16777216 then wtL i1 i2 tb fk fa ps r (ls.set (ps.idxOf key) (l++[a.1])) a.2 else b4 else wtL i1 i2 tb fk fa ps r ls p.2
def sWt(iw i1 i2:Nat)(fi fp:VI)(tb:VB)(fk fa:VF):VS:=λδ=>(fi δ).bind λp=>(QG p.1).bind λps=>if ps.Nodup/\ps.length<=16777216/\iw<p.2.length then(fp (p.2.set iw .no)).bind λq=>
 (wtL i1 i2 tb fk fa ps q.1 (ps.map λ_=>[]) q.2).map λr=>.nx (r.2.set iw (.ow (.dcn (G4 ps) (r.1.map .lst))))else b4
abbrev gTwo(K:Ai)(i1 i2:Nat):TG:=gTup K 2 (Wy (WH i1) (Wy (WH i2) gNil))
abbrev tApp(K:Ai)(iw:Nat)(tk ta:TE):TE:=tBM K "list" GK (tOp (λx y H Q=>∃a v,x=.ref a/\U9 H a y (b3 v)/\Q v H) (VC iw) tk) (LK ta tNil)
def jy{α:Type}{l:List α}{i:Nat}{x:α}(h:l[i]?=b3 x):l.set i x=l:=by
 refine Hd λj=>?_;by_cases a:i=j
 ·subst a
  rw[Cd (Ah.mp h).1,h]
 ·rw[Ba a]
def gC{Z:M0}{res:List (List cH)}{δ2:Ev}(I:ps.Nodup)(M:i1∉ml)(L:i2∉ml)(n1:i1≠iw)(n2:i2≠iw)(S:aP K ml (V4 (B.add D) ls) O H σ δ)(W:C9 K B H D ls ps lls)(hw:σ[iw]?=b3 (b3 (.ref D)))(h1:fp δ=b3 (ds,δ2))(h2:wtL i1 i2 tb fk fa ps ds lls δ2=b3 (res,δ'))(k:∀O' H' d kp,aP K ml {V4 (B.add D) ls with kp:=kp++(V4 (B.add D) ls).kp} O' H' d δ'->C9 K B H' D ls ps res->d[iw]?=b3 (b3 (.ref D))->Z.nx d H'):tFor (JV K ml pi fp) (gTwo K i1 i2) (tIfS (TB K ml pt tb) (Wp (tApp K iw (TV K ml pk ba ba fk) (TV K ml pa ba ba fa))) Wo) Z σ H:=by
 refine⟨_,O,δ,ds,δ2,S,h1,λJ f H1 Y f1 _ wk=>?_⟩;refine⟨λi m σ H=>m=ds.length-i/\i<=ds.length/\∃O δ lls,aP K ml {V4 (B.add D) ls with kp:=f++(V4 (B.add D) ls).kp} O H σ δ/\C9 K B H D ls ps lls/\σ[iw]?=b3 (b3 (.ref D))/\wtL i1 i2 tb fk fa ps (ds.drop i) lls δ=b3 (res,δ'),⟨ds.length,rfl,Cn _,O,δ2,lls,Y,W.fr Y f1,hw,h2⟩,?_⟩;rintro i m σ H ⟨rfl,hi,O,δ,lls,S,W,hw,c⟩;have w:=wk (Nn (V4 (B.add D) ls) O) H λp I=>S.kep p (Bf _ I);by_cases h:i<ds.length
 ·obtain ⟨go,yl⟩ := w.1 i ds[i] (by simp [h])
  rw[Dn h]at c;simp only[wtL]at c;obtain⟨⟨za,zb⟩,s,c⟩:=Ac.mp c;obtain⟨⟨kk,e⟩,g2,c⟩:=Ac.mp c;refine .inr ⟨go,λσ H=>∃O δ lls,aP K ml {V4 (B.add D) ls with kp:=f++(V4 (B.add D) ls).kp} O H σ δ/\C9 K B H D ls ps lls/\σ[iw]?=b3 (b3 (.ref D))/\wtL i1 i2 tb fk fa ps (ds.drop (i+1)) lls δ=b3 (res,δ'),λd H' w'=>⟨ds.length-(i+1),by lia,rfl,h,w'⟩,λx H' hy=>?_⟩;obtain⟨T,U⟩:=yl x H' hy;have eT:ds[i]=.tup [za,zb]:=by
   generalize ds[i]=y at s;unfold pr2 at s;split at s
   ·cases s;rfl
   ·cases s
  rw[eT]at U;cases U.onT with
  | @tup a xs sq r=>
   cases r with
   | @cons va vs _ _ ra r=>
    cases r with
    | @cons E vs _ _ rb r=>
     cases r;have S2:=S.same T;have W2:=W.same T;have S3:=(S2.setVa M ra).setVa L (rb.mono (QN (o:=b4)) (QN (o:=b4)));have g:((σ.set i1 (b3 va)).set i2 (b3 E))[iw]?=b3 (b3 (.ref D)):=by rw[Ba n2,Ba n1];exact hw
     refine⟨a,_,rfl,sq,rfl,va,[E],rfl,E,[],rfl,rfl,_,_,_,kk,e,S3,g2,λH4 A=>?_⟩;have R:=W2.fr A.sta A.frm;cases kk with
     |false=>
      rw[if_neg Ch]at c;exact NG ⟨_,e,lls,A.sta,R,g,c⟩
     |true=>
      rw[if_pos rfl]at c;obtain⟨⟨kd,n⟩,g3,c⟩:=Ac.mp c;obtain⟨key,g4,c⟩:=Ac.mp c;obtain⟨⟨ad,l⟩,g5,c⟩:=Ac.mp c;obtain⟨l0,N,c⟩:=Ac.mp c;split at c
      ·rename_i hc
       obtain⟨X,c2,c3⟩:=hc;have j:ps.idxOf key<ls.length:=by rw[R.len];exact(Ah.mp X).1
       have t:ls[ps.idxOf key]?=b3 ls[ps.idxOf key]:=Bx j;refine NH ⟨.ref D,g,_,_,e,kd,n,A.sta,g3,λy H5 v=>?_⟩;have Q:=R.fr v.sta v.frm;obtain⟨b,rfl,hb⟩:=AY v.rep g4;obtain⟨C,q5,_⟩:=Q.all _ _ _ t N;refine⟨D,.ref ls[ps.idxOf key],rfl,.inr ⟨_,key.map Fs,b,.inl Q.dic,rfl,by rw[BW];exact hb,(dD I X t).symm⟩,.inl ⟨rfl,C,XR.of q5⟩,_,_,n,ad,l,v.sta,g5,λF H6 u=>?_⟩;have P:=Q.fr u.sta u.frm;obtain⟨q,G,V⟩:=P.all _ _ _ t N;refine⟨ls[ps.idxOf key],q,F,rfl,rfl,G,by rw[V.length,Bv];exact c3,_,l,_,u.sta.writeG (o:=.lst q) (M4.mpr (.inr (Hq j))) G (λz=>z) ?_,P.app t N G V (u.rep.hard c2),g,c⟩;show(V4 (B.add D) ls).H0 _=b4;rw[LQ];exact(P.nz _ (Hq j)).2
      ·cases c
 ·obtain rfl : i = ds.length := by lia
  rw[Gh]at c;cases c;exact .inl ⟨w.2,k O H σ f S W hw⟩
end
structure eQ(Y:Cx)(tg kx:Ux):Prop where
 a:PG Y tg (WH 0)
 b:PE Y kx (VC 0)
def ka{X:Cx}{K:Tu}{ml:List Nat}{pi pi2 pt pk pa:Bool}{iw i1 i2:Nat}{y:Uv}{py pl pos aw p3 p4 aj af gv i9 jb:Pos}{tg iter kx tg2 Y c f n:Ux}{scope:Vf}{fi fp:VI}{tb:VB}{fk fa:VF}{g':VS}{rest:List Vd}(hu:X.A.units+1<cLine)(hN:X.N.Nodup)(N':List Uv)(hi:PI X tg iter (JV K ml pi fi))(Z:N'.Nodup->∀(cl:List (Uv×Ur)) (s1:Ae) (H1:Hp) (fp:List Ur),eQ (Z8 X N' scope cl s1 H1 fp) tg kx)(hp:Oz (Ut X.prog X.w) X.A X.env X.xe)(V:PI X tg2 Y (JV K ml pi2 fp))(hg:PG X tg2 (gTwo X.K i1 i2))(ht:PT X c (TB K ml pt tb))(ho:PE X (.Name y p3) (VC iw))(hk:PE X f (TV K ml pk ba ba fk))(ha:PE X n (TV K ml pa ba ba fa))(hr:WP X rest (WG K ml g'))(W:X.N[iw]?=b3 y:=by rfl)(hy:X.env.scope.names.lookup y=b3 .local:=by rfl)(hK:X.K=K:=by rfl)(hc:X.calm=ba:=by rfl)(U:scope.kind=.function:=by rfl)(M:TQ X.N N' [] scope.names X.env.kindOf=ba:=by rfl)(P:N'.length=1:=by rfl)(C:iw∉ml/\i1∉ml/\i2∉ml/\i1≠iw/\i2≠iw:=by decide)(I:Vc (.DictComp kx (.List [] pl) [⟨tg,iter,[],0⟩] scope pos) (b3 (.Name y py)) aw.line X.env=pure ba:=by rfl)(hs:∀x,Uz iter X.env x=pure x:=by intro _;rfl)(J:∀x,Uz Y X.env x=pure x:=by intro _;rfl)(hx:N6 f:=by exact λ_ _=>rfl)(bn:Ff (.Subscript (.Name y p3) f p4) "append" X.env (eval (.Subscript (.Name y p3) f p4) X.env)=eval (.Subscript (.Name y p3) f p4) X.env:=by rfl)(c8:((Dx af (Uu [n] X.env)).all (λx=> !x.1)&&(Ho af (Fb [] X.env)).all (λx=>x.1.isSome)&&decide (([n]:List Ux).length+([]:List Hr).length+(if([]:List Hr).isEmpty then 0 else 1)<30))=ba:=by rfl)(bj:(aj.endLine==af.line)=ba:=by rfl)(t:SE X n []:=by rfl)(aq:(Dx af (Uu [] X.env)).any (·.1)=bb:=by rfl)(ij:Vc (.Call (.Attribute (.Subscript (.Name y p3) f p4) "append" aj) [n] [] af) b4 gv.line X.env=pure bb:=by rfl):WP X (.Assign [.Name y py] (.DictComp kx (.List [] pl) [⟨tg,iter,[],0⟩] scope pos) aw:: .For tg2 Y [.If c [.Expr (.Call (.Attribute (.Subscript (.Name y p3) f p4) "append" aj) [n] [] af) gv] [] i9] [] jb::rest) (WG K ml (bV (sWt iw i1 i2 fi fp tb fk fa) g')):=by
 subst hK;obtain⟨C,T,Q,n1,n2⟩:=C;have S:=YZ U M;refine(UQ (AD (ix:=[]) (nl:=1) (g:=WH 0) (tt:=GX) (tm:=λD=>tmD D (VC 0) tE) (.inr rfl) hN W hy hc S (by simpa using P) hi (λcl s1 H1 fp=>?_) I hs)
  (UQ (cU hp hc V hg (AE (Xb ht (AE (L8 (Ze Ge Bq Br ZW (Zi (Wn hu) ho hk hx) (a9 ha ZP t) bn c8 bj t aq) ij)) GI)) J) hr)).imp λD σ H L=>?_
 ·obtain⟨a,b⟩:=Z S.nd cl s1 H1 fp
  exact⟨a,L9,λD=>⟨_,lpD1,cP rfl (Lq hu) b pe_e⟩⟩
 obtain⟨B,O,δ,o,S,q,k⟩:=L;unfold bV at q;obtain⟨z,q1,q⟩:=Ac.mp q;unfold sWt at q1;obtain⟨⟨ds,δ1⟩,h1,q1⟩:=Ac.mp q1;obtain⟨ps,h2,q1⟩:=Ac.mp q1;split at q1
 ·rename_i u
  obtain⟨u,hz,hl⟩:=u;obtain⟨⟨ds2,δ2⟩,h3,q1⟩:=Ac.mp q1;obtain⟨⟨r,δ3⟩,h4,q1⟩:=Aj.mp q1;cases q1;refine qp (R:=λE H1=>tFor (JV X.K ml pi2 fp) (gTwo X.K i1 i2) (tIfS (TB X.K ml pt tb) (Wp (tApp X.K iw (TV X.K ml pk ba ba fk) (TV X.K ml pa ba ba fa))) Wo) {D with nx:=WG X.K ml g' D} (σ.set iw (b3 (.ref E))) H1) S h1 h2 u hz λp E ls H1 S1 W1 h0 G=>?_;refine gC u T Q n1 n2 (S1.setNo C) W1 (Cd (by rw[S1.len];exact hl)) h3 h4 λO' H' σ' kp S' m s=>?_;have S2:=S'.unkeep.unadds;have F:∀l∈ls,¬Nn (Bs.add {B with kp:=p++B.kp} E) O' l:=λl h z=>by
   rcases z with z|⟨i,e⟩
   ·exact(m.nz l h).1 z
   ·exact(S'.old i l e).1 (M4.mpr (.inr h))
  have own:=NY.dcn (K:=X.K) (N:=Nn (Bs.add {B with kp:=p++B.kp} E) O') (ds:=r.map .lst) m.dic (by rw[Ri (by simp[G4,m.len])];refine bQ.of (by simp[m.len,m.ln2]) λj v d e1 e2=>?_;rw[Bt]at e1 e2;obtain⟨l,f1,rfl⟩:=Aj.mp e1;obtain⟨es,f2,rfl⟩:=Aj.mp e2;obtain⟨xs,g1,g2⟩:=m.all j l es f1 f2;exact .lst g1 (F l (Cw f1)) (g2.mono λ_ _=>trivial))
  rw[Rk (by simp[G4,m.len])]at own;have S3:=S2.setOw (i:=iw) C (by rw[<-S2.len];exact(Ah.mp s).1) G h0 own;rw[jy s]at S3;exact⟨B,_,_,o,S3.unkeep,q,k⟩
 ·cases q1
section
variable{prog:Av}{w:Uy}{A:Bz}{E:Uq->Ae->Prop}{s:Ae}{d it:Ur}{es:Array Kg}{ep i:Nat}
def JJ(h:Vb)(d:Ur)(es:Array Kg)(ep:Nat):Prop:=∃o,h.get? d=b3 o/\o.ExactDict/\o.data=.dict es ep
def JJ.ty(x:JJ s.heap d es ep):s.TypeIs (.ref d) "dict":=let ⟨o,h,c,_⟩:=x;⟨o,h,c.1⟩
def JJ.at{h h':Vb}(x:JJ h d es ep)(k:∀o,h.get? d=b3 o->h'.get? d=b3 o):JJ h' d es ep:=let ⟨o,e,r⟩:=x;⟨o,k o e,r⟩
def nV{Q:Uq->Ae->Prop}(lo:(d==Ew)=bb)(x:JJ s.heap d es ep)(q:Q (.ref s.heap.objs.size) {s with heap:=s.heap.push {cls:=.type "dict_keyiterator",data:=.fields #[.ref d,.int 0 0,.int es.size 0,.int ep 0]}}):Us (Ut prog w) A (Rz (.ref d)) Q E s:=by have ty:=x.ty;obtain⟨o,b,hc,c⟩:=x;refine wpAny_pyIter_slot ty Rl (Dm Rl ty F.entry_dict_iter ?_ (F.args_dict_iter_1 _));unfold Fa.«dict.__iter__» Builtin.Dict.dictSlotNone;refine Aa (Aa (Ng ty (Oj (a:=Ay d) rfl ?_)));show Us _ _ (Nh d>>=_) _ _ s;unfold Nh;rw[if_neg (by rw[lo];exact Ch)];exact Aa (Ag (Aa (Je b c (Aa (wpAny_dictEpoch b c (Aa (Cb (Ag ⟨_,rfl,"dict_keyiterator",_,⟨_,An _ rfl,rfl⟩,F.slot_dict_keyiterator_next.lookup,by simpa[rawInt]using q⟩))))))))
def ED{Q:Option Uq->Ae->Prop}(n:A.handled=b4)(f:s.heap.IsKeyIter it d i es.size ep)(x:JJ s.heap d es ep)(hi:∀e h',es[i]?=b3 e->h'.IsKeyIter it d (i+1) es.size ep->Es it s.heap h'->Q (b3 e.key) {s with heap:=h'})(l:es[i]?=b4->∀h',Jf it s.heap h'->Q b4 {s with heap:=h'}):Us (Ut prog w) A (pyNext (.ref it)) Q E s:=by
 have ty:=f.typeIs;obtain⟨o,j,hc,h⟩:=f;obtain⟨od,c,p,g⟩:=x;unfold pyNext;refine Aa (Md (Cs (name:=Bj "__next__") ty Jz (Dm Jz ty F.entry_dict_keyiterator_next (Aa (Ag (Aa (Aa (Aa (Gi ty (Ag (Aa (wpAny_fieldsOf j h ?_))))))))) (F.args_dict_keyiterator_next_1 _))));simp only[show Rt "dict_keyiterator"=bb by decide,El,if_false];show Us _ _ (if(Ay d==Value.none)=ba then _ else _) _ _ s;rw[if_neg (show¬((Ay d==Value.none)=ba) from Ch)];refine Aa (Ag (Aa (Je c g ?_)));rw[if_neg (by simp)];refine Aa (Ag (Aa (wpAny_dictEpoch c g ?_)));rw[if_neg (by simp)];refine Ag ?_;simp only[show¬((i:Int)<0) from by lia,if_false,Ha];cases q:es[i]? with
 |some e=>
  refine Aa (Aa (Gi ty (Ag (Aa (Ni ty ?_)))));show Us _ _ (setField (.ref it) 1 (rawInt ((i:Int)+1))>>=_) _ _ s;refine Aa (Lf j h (by simp) ?_);have k:(s.heap.update it (Mg (·.setIfInBounds 1 (rawInt ((i:Int)+1))))).IsKeyIter it d (i+1) es.size ep:=
   ⟨_,Gq _ j (Nb (Ip h _)),(Qg ..).trans hc,by rw[Ip h];simp[rawInt]⟩
  refine Aa (Bp (Aa (Ni (s:={s with heap:=s.heap.update it (Mg (·.setIfInBounds 1 (rawInt ((i:Int)+1))))}) k.typeIs ?_)));show Us _ _ (pure e.key) _ _ _;exact Ag (Ag ⟨_,rfl,Ag (hi e _ q k (Ht ..))⟩)
 |none=>
  refine Aa (Aa (Gi ty (Ag ?_)));show Us _ _ (setField (.ref it) 0 .none>>=_) _ _ s;refine Aa (Lf j h (by simp) ?_);show Us _ _ (newExc (.type "StopIteration") []>>=_) _ _ _;refine Aa ?_;simp only[newExc,newTuple];refine Aa (Cb ?_ (by size_fits));refine Aa (m:=Lg _ _) (Oj (a:=Value.none) (by first|rfl|(simp only[Lg];rfl)) (Cb ?_ (by size_fits)));simp only[raiseNew];refine Aa (wpAny_handled ?_);rw[show A.in1.handled=b4 from n];refine Aa (Ag (wpAny_throw ?_));refine Aa (wpAny_isInstance (T:= "StopIteration") (b:=ba) ⟨_,An _ rfl,rfl⟩ isSubtype_stop ?_);exact Ag (l q _ (((Ht ..).extBut.push _).push _))
def rF(k:A.handled=b4){I:Ur}(l:d≠I):Walks prog w A I [I,d] [I] es.size (λi v=>∃e,es[i]?=b3 e/\v=e.key) (λi h=>h.IsKeyIter I d i es.size ep/\JJ h d es ep) where
 sub:=λb a=>by simp at a;simp[a]
 frame:=λ_ _ _ st j=>⟨st.1.at λo e=>j I (by simp) o e,st.2.at λo e=>j d (by simp) o e⟩
 item:=λi s Q E hi st f=>ED k st.1 st.2 (λe h' q m c=>f e.key h' s.toks ⟨e,q,rfl⟩ ⟨m,st.2.at λo e=>c.extBut d o l e⟩ λb o a e=>c.extBut b o (λh=>a (by simp[h])) e) λq=>by simp[hi]at q
 done:=λs Q E st f=>ED k st.1 st.2 (λe h' q=>by simp at q) λ_ h' g=>f h' s.toks λb o a e=>g b o (λh=>a (by simp[h])) e
 self:=λ_ _ _ _ st f=>wpAny_pyIter_keyiter st.1 f
def ni(lo:(d==Ew)=bb):W.KdlSrc prog w "dict" d d es.size (λi v=>∃e,es[i]?=b3 e/\v=e.key) (λh=>JJ h d es ep) where
 type:=λ_ x=>x.ty
 there:=λ_ ⟨_,h,_⟩=>⟨Ak h,Ak h⟩
 keep:=λ_ _ x b=>x.at λo e=>b d (.inl rfl) o e
 notList:=by decide
 notTuple:=by decide
 hint:=λ_ _ _ _ x a=>W.kdl_hint_dict x.ty a
 iter:=λ_ _ c x=>⟨_,_,(λ_ _ a=>nV lo x a),rF c (let ⟨_,h,_⟩:=x;Au (Ak h)),⟨⟨_,An _ rfl,rfl,rfl⟩,x.at λo e=>Ad _ e⟩⟩
def mS{Q:Uq->Ae->Prop}(lo:(d==Ew)=bb)(x:JJ s.heap d es ep)(hz:es.size<=sizeLine)(q:∀t s',s'={s with toks:=s.toks+1+1}->Q (.int es.size t) s'):Us (Ut prog w) A (call (.builtin "len") [.ref d]) Q E s:=by have ty:=x.ty;obtain⟨o,a,_,b⟩:=x;rw[Bv]at hz;refine Lh kind_len plain_len entry_len (args_len1 _) ?_;unfold Fa.«len»;refine Aa (m:=oneArg "len" _) (Ag (Aa (m:=callSpecial? (.ref d) (Bj "__len__")) (Cs (name:=Bj "__len__") ty Sj (Dm Sj ty F.entry_dict_len ?_ (F.args_dict_len_1 _)))));show Us _ _ (dictSize d>>=_) _ _ s;unfold dictSize;refine Aa (Aa (Je a b (Ag ?_)));show Us _ _ (Builtin.Dict.pendingCount d>>=_) _ _ s;refine Aa (wpAny_pendingCount_other lo (wpAny_ret_mkInt ?_));rw[show((es.size:Int)+((0:Nat):Int))=es.size by simp];refine Aa (Bp (Ag (Aa (Ol ?_))));show Us _ _ (if((es.size:Nat):Int)<0 then _ else _) _ _ _;rw[if_neg (by lia)];show Us _ _ (if((es.size:Nat):Int)≥2 ^ 63 then _ else _) _ _ _;rw[if_neg (by lia)];exact Aa (wpAny_mkInt (Ag ⟨_,rfl,q _ _ rfl⟩))
end
section
variable{X:Cx}{K:Ai}{ml:List Nat}{e a b c:Ux}{pa pb pu ta ia tb ib:Bool}{fk fv fa fb:VF}{B:Bs}{O:Nat->Option Ur}{H H1 H':Hp}{σ:St}{δ δ':Ev}{v:V}{d:cH}{pos:Pos}{ks:List (List Ky)}{ds:List cH}
def aT.onK{N M:Ur->Prop}(h:aT K N H M v (.dcn ks ds)):∃(a:Ur) (kvs:List (List Ky×V)),v=.ref a/\H a=b3 (.dT kvs)/\ks=kvs.map Bw/\bQ K N H (kvs.map Cz) ds:=by
 generalize b:cH.dcn ks ds=d at h;cases h with
 |dcn q n r=>cases b;exact⟨_,_,rfl,q,rfl,r⟩
 |_=>cases b
def tkD(d:cH):Option (List Ky):=(tpD d).map λp=>p.map Fs
def We{N M:Ur->Prop}{k:List Ky}(h:aT K N H M v d)(e:tkD d=b3 k):∃b,v=.ref b/\H b=b3 (.tup (k.map kV)):=by obtain⟨p,h1,rfl⟩:=Aj.mp e;rw[BW];exact AY h h1
def inT(k:List Ky)(ks:List (List Ky)):Bool:=ks.any λj=>decide (j=k)
noncomputable def oInT(neg:Bool)(d:cH):cH->Option cH
 |.dcn ks _=>(tkD d).map λk=>.bl (neg !=inT k ks)
 |_=>b4
def rInT(neg:Bool):R2:=λx y H Q=>∃l o,y=.ref l/\U9 H l x o/\Q (.bl (neg !=o.isSome)) H
def lE(c:X.A.units+1<cLine):WM X (Cr .In) (rInT bb):=by intro aa s σ H x y v u Q I b a h;obtain⟨l,o,rfl,g,q⟩:=h;cases a;exact d_in c I g b λs' d=>⟨.bl o.isSome,H,d,rfl,by simpa using q⟩
def qh(c:X.A.units+1<cLine):WM X (Cr .NotIn) (rInT ba):=by intro aa s σ H x y v u Q I b a h;obtain⟨l,o,rfl,g,q⟩:=h;cases a;exact om c I g b λs' d=>⟨.bl (!o.isSome),H,d,rfl,by simpa using q⟩
def mj{kvs:List (List Ky×V)}{k:List Ky}:(UV kvs k).isSome=inT k (kvs.map Bw):=by unfold inT;rw[<-PC,Ua];rfl
def cN{neg:Bool}:NX K (rInT neg) (oInT neg):=by
 intro H N N' M M' x y d e c Q g f h k;cases e with
 |dcn ks ds=>
  obtain⟨j,h1,rfl⟩:=Aj.mp (show(tkD d).map _=b3 c from h);obtain⟨a,kvs,rfl,q,rfl,_⟩:=f.onK;obtain⟨b,rfl,i⟩:=We g h1;exact⟨a,_,rfl,U9.t q i,by rw[mj];exact k _ λ_ _ _=>.bl _⟩
 |_=>cases h
noncomputable def DX:List (List Ky)->List cH->List Ky->Option cH
 |k'::ks,d::ds,k=>if k'=k then b3 d else DX ks ds k
 |_,_,_=>b4
theorem IA{N:Ur->Prop}{k:List Ky}:∀{kvs:List (List Ky×V)}{ds:List cH}{d:cH},bQ K N H (kvs.map Cz) ds->DX (kvs.map Bw) ds k=b3 d->∃v,UV kvs k=b3 v/\aT K N H N v d
 |[],_,_,.nil,e=>by cases e
 | (k',v) :: kvs,_,d,.cons h t,e => by
  by_cases a:k'=k
  ·simp[DX,a]at e
   subst e;exact⟨v,UW (p:=(k',v)) a,h⟩
  ·obtain ⟨w,h1,h2⟩ := IA (k := k) (d := d) t (by simpa [DX,a]using e)
   exact⟨w,(VQ (p:=(k',v)) a).trans h1,h2⟩
def oIxT:cH->cH->Option cH
 |.dcn ks ds,d=>(tkD d).bind λk=>DX ks ds k
 |_,_=>b4
def qk:OpI K (λx y H Q=>∃a v,x=.ref a/\U9 H a y (b3 v)/\Q v H) oIxT:=by
 intro H N N' M M' x y d e c Q g f h k;cases d with
 |dcn ks ds=>
  obtain⟨m,h1,h⟩:=Ac.mp (show(tkD e).bind _=b3 c from h);obtain⟨a,kvs,rfl,q,rfl,r⟩:=g.onK;obtain⟨b,rfl,i⟩:=We f h1;obtain⟨v,l,j⟩:=IA r h;exact⟨a,v,rfl,l▸U9.t q i,k v j⟩
 |_=>cases h
def vixT(d:X.A.units+1<cLine)(g:PE X a (TV K ml pa ta ia fa))(f:PE X b (TV K ml pb tb ib fb))(c:N6 b:=by exact λ_ _=>rfl)(e:(pb || (ta&&ia))=ba:=by rfl):PE X (.Subscript a b pos) (TV K ml (pa&&pb) ia ia (f2 oIxT fa fb)):=Xz (Wn d) qk g f c e
def Ws:cH->Option cH
 |.dcn ks _=>b3 (.int ks.length)
 |_=>b4
def Zu:RC:=λxs H Q=>∃(p:Ur) (kvs:List (List Ky×V)),xs=[.ref p]/\H p=b3 (.dT kvs)/\Q (.int kvs.length) H
def k6:Z4 X (.builtin "len") Zu:=by
 intro aa s σ H xs g Q I r h;obtain⟨p,kvs,rfl,e,q⟩:=h;obtain⟨u,rfl,c⟩:=VR r;cases c;obtain⟨z,lo,ys,a,o,es,ep,h1,h2,f,d,_⟩:=(show ZV X.prog X.w H s.heap p (.dT kvs) from I.hok p _ e);have hl:es.size=kvs.length:=by rw[<-Eb,d,Bm,<-Ic a]
 refine mS lo ⟨o,h1,h2,f⟩ (by rw[hl];exact z) λt s' b=>?_;subst b;rw[hl];exact⟨.int kvs.length,H,I.tok _,⟨t,rfl⟩,q⟩
def jn:BA K Zu Ws:=by
 intro H N M x d c Q b h k;cases d with
 |dcn ks ds=>
  cases h;obtain⟨a,kvs,rfl,q,rfl,_⟩:=b.onK;exact⟨a,kvs,rfl,q,k _ λ_ _ _=>by rw[Bm];exact .int _⟩
 |_=>cases h
noncomputable def kDat:Z5->cH
 |.inl i=>.int i
 |.inr x=>.str x
theorem Ww{N:Ur->Prop}:∀k:List Ky,bQ K N H (k.map kV) (k.map kDat)
 |[]=>.nil
 |.inl _::k=>.cons (.int _) (Ww k)
 |.inr _::k=>.cons (.str _) (Ww k)
def CA:cH->Option cH
 |.dcn ks _=>b3 (.lst (ks.map λk=>.tup (k.map kDat)))
 |_=>b4
def Xu:RC:=λxs H Q=>∃(p:Ur) (kvs:List (List Ky×V)),xs=[.ref p]/\H p=b3 (.dT kvs)/\∀(l:Ur) (bs:List Ur),H l=b4->bs.length=kvs.length->(∀(j:Nat) b,bs[j]?=b3 b->∃a,kvs[j]?=b3 a/\H b=b3 (.tup (a.1.map kV)))->Q (.ref l) (upd H l (.lst (bs.map V.ref)))
theorem K5{α β:Type}{F:α->β->Prop}:∀{l:List α}{m:List β}{j:Nat}{y:β},Paired F l m->m[j]?=b3 y->∃x,l[j]?=b3 x/\F x y
 |_,_,_,_,.nil,e=>by simp at e
 |_,_,0,_,.cons h _,e=>by cases e;exact⟨_,rfl,h⟩
 |_,_,j+1,_,.cons _ t,e=>by simpa using K5 t (by simpa using e)
theorem EU:∀{bs:List Ur}{a:List Uq},a=bs.map Ay->aY (bs.map V.ref) a
 |[],_,h=>by subst h;exact .nil
 |_::_,_,h=>by subst h;exact .cons rfl (EU rfl)
def mX(hc:X.calm=ba):Z4 X (.type "list") Xu:=by
 intro aa s σ H xs K Q I r h;obtain⟨p,kvs,rfl,e,q⟩:=h;obtain⟨u,rfl,n⟩:=VR r;cases n;obtain⟨z,lo,ys,f,o,es,ep,h1,h2,E,l,_⟩:=(show ZV X.prog X.w H s.heap p (.dT kvs) from I.hok p _ e);have d:ys.length=kvs.length:=(Ic f).symm;have hl:es.size=kvs.length:=by rw[<-Eb,l,Bm,d]
 refine W.kdl_call (ni (es:=es) (ep:=ep) lo) (I.ok.hd hc) ⟨o,h1,h2,E⟩ (by rw[hl];exact z) λh' tk acc c x B m=>?_;have J:acc.toList=(ys.map λy=>y.2.1).map Ay:=by
  refine Hd λj=>?_;by_cases g:j<acc.size
  ·obtain ⟨L,k,D⟩ := m.2 j acc[j] (by simp [g])
   rw[<-Nj,l,Bt]at k;obtain⟨y,C,rfl⟩:=Aj.mp k;rw[Lc,Bt,C,Nj,Array.getElem?_eq_getElem g,D];rfl
  ·rw[Ct (by rw[Eb];lia),Ct (by
    have:=m.1
    simp;lia)]
 have A:=I.hok.fresh (Ao s.heap.objs.size);refine⟨.ref s.heap.objs.size,_,I.laid (a:=s.heap.objs.size) (o:=.lst ((ys.map λy=>y.2.1).map V.ref)) (t':=tk) x (Ao _) ⟨by simp;rw[d];exact z,acc.toList,c,EU J,by simpa using B⟩,rfl,q _ _ A (by simp[d]) λj b i=>?_⟩;rw[Bt]at i;obtain⟨y,v,rfl⟩:=Aj.mp i;obtain⟨t,G,_,F,_⟩:=K5 f v;exact⟨t,G,F⟩
def rl:CalN K Xu CA:=by
 intro H N M x d c Q g h k;cases d with
 |dcn ks ds=>
  cases h;obtain⟨a,kvs,rfl,q,rfl,_⟩:=g.onK;refine⟨a,kvs,rfl,q,λl bs hl m i=>k l _ _ hl (bQ.of (by simp[m]) λj v d f e=>?_) rfl⟩;rw[Bt]at f e;obtain⟨b,f1,rfl⟩:=Aj.mp f;obtain⟨kk,f2,rfl⟩:=Aj.mp e;obtain⟨p,o,n⟩:=i j b f1;rw[Bt,o]at f2;cases f2;exact .tup (VE.of n) (Ww _)
 |_=>cases h
def lW:PE X (.Dict [] [] pos) (TN K ml ba (fC (.dcn [] []))):=zEW.imp λσ H Q b=>by obtain⟨B,O,δ,d,δ',S,q,k⟩:=b;cases q;exact λp a=>k p _ ⟨S.laid a,(Fr.refl _ _).trans (b7 a).fr,λ_=>(aN.refl _).trans (b7 a),.dcn (kvs:=[]) bU .nil,S.new a,S.fresh a⟩
noncomputable def ownT(δ:Ev)(i:Nat):Option (List (List Ky)×List cH):=match δ[i]? with
 |some (.ow (.dcn ks ds))=>b3 (ks,ds)
 |_=>b4
def qj{i:Nat}{z:List (List Ky)×List cH}(h:ownT δ i=b3 z):δ[i]?=b3 (.ow (.dcn z.1 z.2)):=by
 unfold ownT at h;split at h
 ·cases h;assumption
 ·cases h
def aP.owT{i:Nat}{z:List (List Ky)×List cH}(S:aP K ml B O H σ δ)(h:ownT δ i=b3 z):∃(l:Ur) (kvs:List (List Ky×V)),O i=b3 l/\σ[i]?=b3 (b3 (.ref l))/\H l=b3 (.dT kvs)/\kvs.map Bw=z.1/\bQ K (Nn B O) H (kvs.map Cz) z.2:=by
 obtain⟨b,a⟩:=z;obtain⟨l,d,c,w⟩:=S.ow i _ (qj h);have w:NY K (Nn B O) H l (.dcn b a):=w;generalize hw:cH.dcn b a=dd at w;cases w with
 |lst _ _=>cases hw
 |dct _ _=>cases hw
 |dcn q r=>cases hw;exact⟨l,_,d,c,q,rfl,r⟩
def CS(i:Nat)(fk fv:VF):VS:=λδ=>(fv δ).bind λp=>(ownT p.2 i).bind λ_=>(fk p.2).bind λq=>(tkD q.1).bind λk=>(ownT q.2 i).bind λz=>if inT k z.1=bb/\z.1.length<16777216 then b3 (.nx (q.2.set i (.ow (.dcn (z.1++[k]) (z.2++[p.1])))))else b4
def kD{i:Nat}{bh:Pos}(E:X.A.units+1<cLine)(G:PE X a (VC i))(I:PE X b (TV K ml pa ta ia fk))(C:PE X c (TV K ml pb ba ba fv))(F:Vc c (b3 (.Subscript a b bh)) pos.line X.env=pure bb:=by rfl):
  PS X (.Assign [.Subscript a b bh] c pos) (WG K ml (CS i fk fv)):=(AB E G I C F).imp λD σ H e=>by
 obtain⟨B,O,δ,o,S,q,k⟩:=e;unfold CS at q;obtain⟨⟨z,δ1⟩,h1,q⟩:=Ac.mp q;obtain⟨R,N,q⟩:=Ac.mp q;obtain⟨⟨y,δ2⟩,h2,q⟩:=Ac.mp q;obtain⟨d,M,q⟩:=Ac.mp q;obtain⟨u,L,q⟩:=Ac.mp q;split at q
 ·rename_i hz
  cases q;refine⟨B,O,δ,z,δ1,S,h1,λn H1 m=>?_⟩;obtain⟨l,x,g,Q,_⟩:=m.sta.owT N;refine⟨.ref l,Q,B,O,δ1,y,δ2,m.sta,h2,λT H2 R2=>?_⟩;obtain⟨b,rfl,J⟩:=We R2.rep M;obtain⟨U,kvs,s,_,r,p,P⟩:=R2.sta.owT L;rw[g]at s;cases s;rw[<-p]at hz;have v:=m.rep.fr R2.frm (λa z=>.inr z) λa z=>.inr z;refine⟨l,_,rfl,JG.t r J (by rw[Bv];simpa using hz.2),k σ _ O (R2.sta.wrote g (λz=>z) ?_)⟩;have f:d∉kvs.map Bw:=λz=>by have h:(kvs.map Bw).any (λj=>decide (j=d))=ba:=Rj.mpr ⟨d,z,decide_eq_true rfl⟩;rw[show(kvs.map Bw).any (λj=>decide (j=d))=bb from hz.1]at h;cases h
  rw[GJ f];have w:NY K (Nn B O) (upd H2 l (.dT (kvs++[(d,n)]))) l (.dcn ((kvs++[(d,n)]).map Bw) (u.2++[z])):=.dcn bU (by rw[Cu];exact(P.snoc v).fr (FS r λz=>z) λa z=>z▸ .inr ⟨i,g⟩)
  rw[Cu,p]at w;exact w
 ·cases q
end
def ZV.alive{P:Av}{w:Uy}{H:Hp}{h:Vb}{a:Ur}{o:HO}(x:ZV P w H h a o):∃u,h.get? a=b3 u:=by
 cases o with
 |lst xs=>obtain⟨_,_,_,_,e⟩:=x;exact⟨_,e⟩
 |tup xs=>obtain⟨_,_,_,ob,e,_⟩:=x;exact⟨_,e⟩
 |dK kvs=>obtain⟨_,_,_,_,o,_,_,e,_⟩:=x;exact⟨_,e⟩
 |dT kvs=>obtain⟨_,_,_,_,o,_,_,e,_⟩:=x;exact⟨_,e⟩
 |set S n=>obtain⟨o,_,_,_,e,_⟩:=x;exact⟨_,e⟩
 |ins C dx fs=>obtain⟨_,_,_,e,_⟩:=x;exact⟨_,e⟩
 |own y=>exact x
 |xd fs=>obtain⟨_,⟨_,_,_,e,_⟩,_⟩:=x;exact⟨_,e⟩
 |rng lo hi=>obtain⟨_,_,_,e⟩:=x;exact⟨_,e⟩
 |frz ob u=>obtain⟨e,_⟩:=x;exact⟨_,e⟩
 |tbl ps=>exact⟨_,(show h.get? a=b3 _ from x)⟩
 |met f y=>exact⟨_,(show h.get? a=b3 _ from x)⟩
 |ext b=>exact x.2.1
structure XP(K:Ai)(C Cp:Ur):Prop where
 at_:Ep K Uw "PackError"=b3 (b3 (.ref Cp))
 ty:W.typeIn K (.ref Cp)=b3 (.type "type")
 cls:(Sk K Cp).isSome=ba
 base:Qk K (.ref Cp) (.type "BaseException")=b3 ba
 sub:Qk K (.ref C) (.ref Cp)=b3 ba
structure XC(K:Ai)(x:Uv)(C:Ur):Prop where
 at_:Ep K Uw x=b3 (b3 (.ref C))
 att:XA K C
 cls:(Sk K C).isSome=ba
 pk:∃Cp,XP K C Cp
structure XE(K:Ai)(x:Uv)(C:Ur):Prop where
 xc:XC K x C
 exc:W.excIn K C vbs "ValueError.__new__"=ba
def ExcF(l:List Env)(g:Vb)(H:Hp)(C:Ur)(p:Option Ur)(e:Uq)(h:Vb):Prop:=
 ∃a a0 B,e=.ref a/\Ld B l a (.ref C) a0 h/\Dc a p h/\(∀b o,g.get? b=b3 o->b∉SM l->∃o',h.get? b=b3 o'/\B.get? b=b3 o')/\∀b u,H b=b3 u->∃o,h.get? b=b3 o/\B.get? b=b3 o
def G6(P:Av)(w:Uy):CXT:=λouter H s E e s'=>∃C p H1,s'.os=s.os/\Lw s'.gens/\Un (SM outer) [] H H1 s.heap s'.heap/\QQ P w H1 s'.heap/\ExcF outer s.heap H1 C p e s'.heap/\E (.ref C) p H1
def Zd{P:Av}{w:Uy}{H:Hp}{h h' B:Vb}(ok:QQ P w H h)(st:B.StaysIn h')(i:∀b u,H b=b3 u->∃o,h.get? b=b3 o/\B.get? b=b3 o):QQ P w H h':=λb u e=>
 (ok b u e).stay (λc v hc q => by
  have:∃u,H c=b3 u:=by
   rcases hc with rfl|hc
   ·exact⟨u,e⟩
   ·exact⟨_,hc⟩
  obtain⟨d,g⟩:=this;obtain⟨o,a,f⟩:=i c d g;rw[q]at a;cases a;exact st c v f) (λ_ q=>q) λ_ _ q=>q
section
variable{X:Cx}{aa:List (Ur×Ve)}{σ:St}{H H1:Hp}{s s':Ae}{g h' B:Vb}{C a:Ur}{a0:Uq}
def bS.fly(I:bS X aa σ H s)(st:B.StaysIn h')(t:s.heap.UpToSlots h')(G:∀b o,X.s₀.heap.get? b=b3 o->b∉SM X.stack->∃o',s.heap.get? b=b3 o'/\B.get? b=b3 o')(N:∀p∈X.pn++aa,B.get? p.1=b3 p.2)(O:∀b u,H b=b3 u->∃o,s.heap.get? b=b3 o/\B.get? b=b3 o):bS X aa σ H {s with heap:=h'}:=by
 have y:∀b o,X.s₀.heap.get? b=b3 o->b≠X.env.locals:=λb o e=>Au (Bb (Ak e) I.ok.above);have out:∀b o,X.s₀.heap.get? b=b3 o->b∉X.fs->b∉SM X.stack:=λb o e a z=>(Al.mp (I.stkSub b z)).elim (y b o e) a;have F:∀b∈X.fs,∀o,s.heap.get? b=b3 o->∃sl,h'.get? b=b3 {o with slots:=sl}:=λb a o e=>by obtain⟨_,o',D,w⟩:=I.funs.mem a;rw[e]at D;cases D;exact t b o e w
 have E:∀x c,X.env.cells.lookup x=b3 c->∀v,s.heap.IsCell c v->h'.IsCell c v:=λx c _ v q0=>by
  obtain⟨o,K,C⟩:=q0;obtain⟨sl,e⟩:=t c o K λvs q=>by rw[C]at q;cases q
  exact⟨_,e,C⟩
 refine⟨I.ok,I.os,I.bare,⟨λb o e n a j=>?_,λb o e n a j=>?_,I.base.free,λb o e j=>?_,I.base.tups,I.base.frzs,I.base.tbls⟩,?_,λx c e=>?_,I.free,I.freeC,λp A=>?_,Zd I.hok st O,I.len⟩
 ·obtain⟨o',g,f⟩:=G b o e (out b o e a)
  rw[I.base.keep b o e n a j]at g;cases g;exact st b o f
 ·obtain⟨sl,g⟩:=I.base.slot b o e n a j
  obtain⟨h,f⟩:=F b a _ g;exact⟨h,f⟩
 ·by_cases a:b∈X.fs
  ·obtain⟨o',g⟩:=I.base.there b o e j
   obtain⟨h,f⟩:=F b a _ g;exact⟨_,f⟩
  ·obtain⟨o',g,f⟩:=G b o e (out b o e a)
   exact⟨o',st b o' f⟩
 ·obtain⟨m,L,hl⟩:=I.loc
  refine⟨m,t.ns L,λi x v g f M=>?_⟩;obtain⟨u,r,l⟩:=hl i x v g f M;refine⟨u,r,?_⟩;rcases l with l|⟨k,c,e,z⟩
  ·exact .inl l
  ·exact .inr ⟨k,c,e,E x c e _ z⟩
 ·obtain⟨v,z⟩:=I.cell x c e
  exact⟨v,E x c e v z⟩
 ·obtain⟨e,n,J,w,d⟩:=I.pin p A
  exact⟨st _ _ (N p A),n,J,w,d⟩
structure Low(X:Cx)(aa:List (Ur×Ve))(g:Vb):Prop where
 s0:∀b o,X.s₀.heap.get? b=b3 o->b∉SM X.stack->∃o',g.get? b=b3 o'
 pin:∀p∈X.pn++aa,∃o,g.get? p.1=b3 o
def bS.low(I:bS X aa σ H s)(a:X.ex=[]):Low X aa s.heap:=
 ⟨λb o e _=>I.base.there b o e (by rw[a];simp),λp c=>⟨_,(I.pin p c).1⟩⟩
def bS.flyG(I:bS X aa σ H s)(lo:Low X aa g)(st:B.StaysIn h')(h:s.heap.UpToSlots h')(f:∀b o,g.get? b=b3 o->b∉SM X.stack->∃o',s.heap.get? b=b3 o'/\B.get? b=b3 o')(n:∀b u,H b=b3 u->∃o,s.heap.get? b=b3 o/\B.get? b=b3 o):bS X aa σ H {s with heap:=h'}:=by
 refine I.fly st h (λb o e c=>?_) (λp a=>?_) n
 ·obtain⟨o',m⟩:=lo.s0 b o e c
  exact f b o' m c
 ·obtain⟨o,e⟩:=lo.pin p a
  obtain⟨l,_,j,i,_⟩:=I.pin p a;obtain⟨o',d,k⟩:=f p.1 o e λz=>(Al.mp (I.stkSub _ z)).elim j i;rw[l]at d;cases d;exact k
def RzF(X:Cx)(R:Uv->Option Ur->St->Hp->Prop):Prop:=∀(aa:List (Ur×Ve)) (x:Uv) (C:Ur) (p:Option Ur) (σ:St) (H1:Hp) (e:Uq) (s':Ae) (g:Vb),XC X.K x C->bS X aa σ H1 s'->ExcF X.stack g H1 C p e s'.heap->Low X aa g->R x p σ H1->X.xe e s'
def RzM(X:Cx)(R:Uv->Option Ur->St->Hp->Prop):Prop:=∀(aa:List (Ur×Ve)) (x:Uv) (C a:Ur) (args:List Uq) (σ:St) (H1:Hp) (h:Vb) (s':Ae),XC X.K x C->bS X aa σ H1 {s' with heap:=h}->Heap.MadeExcOf h s'.heap a (.ref C) args->R x b4 σ H1->X.xe (.ref a) s'
def RzP(X:Cx)(R:Uv->Option Ur->St->Hp->Prop):Prop:=∀(aa:List (Ur×Ve)) (x nm:Uv) (C a:Ur) (v:V) (u:Uq) (σ:St) (H1:Hp) (h:Vb) (s':Ae),XC X.K x C->bS X aa σ H1 {s' with heap:=h}->Vr h s'.heap a C nm u->aV v u->(∀D,H1 D=b4->R x (b3 D) σ (upd H1 D (.xd [(nm,v)])))->X.xe (.ref a) s'
end
section
variable{P:Av}{w:Uy}{K:Ai}{mg:Uv->Option Uq}{base:Vb}{N:List Uv}{qual:Uv}{scope:Vf}{f:Ur}{cd:Uq}{A:Bz}{outer:List Env}{s:Ae}{H:Hp}{E:XK}
def rE(K:Ai)(E:XK):Uv->Option Ur->St->Hp->Prop:=λx p _ H1=>∀C,XC K x C->E (.ref C) p H1
def GF{aa:List (Ur×Ve)}{σ:St}{H1:Hp}{s':Ae}{g h' B:Vb}{C a:Ur}{p:Option Ur}{a0:Uq}{d:Drawn}{tk:Nat}(M:Dc a p h')(I:bS (RJ (G6 P w) P w K mg base N qual scope f cd A outer s H E) aa σ H1 s')(lo:∀b o,s.heap.get? b=b3 o->b∉SM (envOfC qual scope s.heap.objs.size f cd::outer)->∃o',g.get? b=b3 o')(k:Ld B outer a (.ref C) a0 h')(F:s'.heap.UpToSlots h')(O:∀b o,g.get? b=b3 o->b∉SM (envOfC qual scope s.heap.objs.size f cd::outer)->∃o',s'.heap.get? b=b3 o'/\B.get? b=b3 o')(D:∀b u,H1 b=b3 u->∃o,s'.heap.get? b=b3 o/\B.get? b=b3 o)(L:E (.ref C) p H1):G6 P w outer H s E (.ref a) {s' with heap:=h',drawn:=d,toks:=tk}:=by
 have bs:Un (SM outer) [] H H1 s.heap s'.heap:=I.base;have r:s'.heap.FunFrames base (envOfC qual scope s.heap.objs.size f cd::outer):=I.stack;have j:∀b o,s.heap.get? b=b3 o->b∉SM outer->∃o',s'.heap.get? b=b3 o'/\B.get? b=b3 o':=λb o q c=>by
  have v:b∉SM (envOfC qual scope s.heap.objs.size f cd::outer):=λz=>by
   rcases Al.mp (show b∈s.heap.objs.size::SM outer from z)with z|z
   ·have:=Ak q
    rw[z]at this;exact absurd this (Ci _)
   ·exact c z
  obtain⟨o',e⟩:=lo b o q v;exact O b o' e v
 have y:∀b∈SM outer,∀o,s'.heap.get? b=b3 o->∃sl,h'.get? b=b3 {o with slots:=sl}:=λb c o e=>by obtain⟨_,o',x,G⟩:=r.mem (Aq _ c:b∈s.heap.objs.size::SM outer);rw[e]at x;cases x;exact F b o e G
 refine⟨C,p,H1,I.os,I.bare,⟨λb o q n c m=>?_,λb o q n c m=>?_,bs.free,λb o q m=>?_,bs.tups,bs.frzs,bs.tbls⟩,Zd I.hok k.1 D,⟨a,a0,B,rfl,k,M,λb o e J=>?_,λb u e=>?_⟩,L⟩
 ·obtain⟨o',i,h⟩:=j b o q c
  rw[bs.keep b o q n c m]at i;cases i;exact k.1 b o h
 ·obtain⟨sl,i⟩:=bs.slot b o q n c m
  obtain⟨l,t⟩:=y b c _ i;exact⟨l,t⟩
 ·by_cases c:b∈SM outer
  ·obtain⟨o',i⟩:=bs.there b o q m
   obtain⟨l,t⟩:=y b c _ i;exact⟨_,t⟩
  ·obtain⟨o',i,h⟩:=j b o q c
   exact⟨o',k.1 b o' h⟩
 ·obtain⟨o',i,h⟩:=j b o e J
  exact⟨o',k.1 b o' h,h⟩
 ·obtain⟨o,i,h⟩:=D b u e
  exact⟨o,k.1 b o h,h⟩
def Q7:RzF (RJ (G6 P w) P w K mg base N qual scope f cd A outer s H E) (rE K E):=by intro aa x C p σ H1 e s' g i I F lo j;obtain⟨a,a0,B,rfl,k,l,n,m⟩:=F;exact M5 (KD.leave _ _) l (wpAny_leaves_onW (I.ok.frames.trans rfl) rfl k λh' b h c=>GF (d:=s'.drawn) (tk:=s'.toks) c I lo.s0 b h n m (j C i))
def GS:RzM (RJ (G6 P w) P w K mg base N qual scope f cd A outer s H E) (rE K E):=by
 intro aa x C a args σ H1 h s' n I M r;have i:h.FunFrames base (envOfC qual scope s.heap.objs.size f cd::outer):=I.stack;have j:∀env∈(envOfC qual scope s.heap.objs.size f cd::outer),∀b,env.frame=b3 b->b∈SM (envOfC qual scope s.heap.objs.size f cd::outer):=λenv p b k=>Ii.mpr ⟨env,p,k⟩;have y:Dc a b4 s'.heap:=by obtain⟨t,e,_⟩:=M.there;exact Dc.of e
 refine M5 (KD.leave _ _) y (wpAny_leaves_madeW (base:=Rx h (SM (envOfC qual scope s.heap.objs.size f cd::outer))) (h:=h) (I.ok.frames.trans rfl) rfl (λb o q=>Qr _ q) (Rm i j) M λh' t v _ _ m l=>?_);have c:h.UpToSlots h':=(Tp M.keeps).trans m;exact GF (s':={s' with heap:=h}) (g:=h) (d:=s'.drawn) (tk:=s'.toks) l I (λb o q _=>I.base.there b o q (λz=>nomatch z)) v c (λb o e k=>⟨o,e,Lv _ e k⟩) (λb u e=>by obtain⟨o,q⟩:=(I.hok b u e).alive;exact⟨o,q,Lv _ q λz=>by have:=I.stkFree b z;rw[e]at this;cases this⟩) (r C n)
def GU:RzP (RJ (G6 P w) P w K mg base N qual scope f cd A outer s H E) (rE K E):=by
 intro aa x nm C a v u σ H1 h s' V I M F X;obtain⟨t,D,k,ht,r,n,l⟩:=M.there;have Y:H1 D=b4:=I.hok.fresh r;have j:=I.laid (a:=D) (o:=.xd [(nm,v)]) (h':=s'.heap) (t':=s'.toks) M.keeps r ⟨_,l,λf=>by
  show QR (Hs f [(nm,v)]) (if f=nm then b3 u else b4);by_cases z:f=nm
  ·subst z
   simp[QR,F]
  ·rw[if_neg z]
   simp[Hs,beq_eq_false_iff_ne.mpr z,QR]⟩
 have i:s'.heap.FunFrames base (envOfC qual scope s.heap.objs.size f cd::outer):=j.stack;have J:a∉SM (envOfC qual scope s.heap.objs.size f cd::outer):=λz=>by obtain⟨_,o',B,G⟩:=i.mem z;rw[k]at B;cases B;exact G _ rfl
 have m:∀env∈(envOfC qual scope s.heap.objs.size f cd::outer),∀b,env.frame=b3 b->b∈a::SM (envOfC qual scope s.heap.objs.size f cd::outer):=λenv W b c=>Aq _ (Ii.mpr ⟨env,W,c⟩);refine M5 (KD.leave _ _) (Dc.of k) (wpAny_leaving_firstW (base:=Rx s'.heap (a::SM (envOfC qual scope s.heap.objs.size f cd::outer))) (I.ok.frames.trans rfl) (Rm i m) rfl k (λb o q=>Qr _ q) (Nv _ (At ..)) rfl rfl rfl λh' L p=>?_);obtain⟨U,⟨_,_,T⟩,S,R⟩:=L;have y:∀b o,s'.heap.get? b=b3 o->b≠a->b∉SM (envOfC qual scope s.heap.objs.size f cd::outer)->(Rx s'.heap (a::SM (envOfC qual scope s.heap.objs.size f cd::outer))).get? b=b3 o:=λb o e Q O=>Lv _ e λz=>(Al.mp z).elim Q O;refine GF (s':=s') (g:=h) (d:=s'.drawn) (tk:=s'.toks) p j (λb o q _=>I.base.there b o q (λz=>nomatch z)) ⟨U,Nv _ (At ..),T,S⟩ R (λb o e c=>⟨o,M.keeps b o e,y b o (M.keeps b o e) (λz=>by rw[z,M.new]at e;cases e) c⟩) (λb w e=>?_) (X D Y C V);obtain⟨o,q⟩:=(j.hok b w e).alive;refine⟨o,q,y b o q (λz=>?_) λz=>by have:=j.stkFree b z;rw[e]at this;cases this⟩;by_cases c:b=D
 ·exact n (c▸z)
 ·rw[bL c]at e
  obtain⟨Z,q2⟩:=(I.hok b w e).alive;rw[z,show({s' with heap:=h}:Ae).heap.get? a=b4 from M.new]at q2;cases q2
end
def mO{K:Ai}{h:Vb}{C:Ur}{c:List Uq}{f:String}(X:K.In h)(q:W.excIn K C c f=ba):∃bm N nm q bs hdct sn sub ab col dd k0 k1 k2 k3 k5 mN,h.get? C=b3 (Gs nm q C N bs bm hdct sn sub ab col dd k0 k1 k2 k3 k5 f)/\h.Ns N mN/\mN "__init__"=b4/\Ot h c bm:=by
 unfold W.excIn at q;split at q
 ·rename_i dd cd sl k
  split at q
  ·rename_i o bm k0 k1 k2 k3 n k5 e d
   simp only[Af,beq_iff_eq,Qm]at q;obtain⟨⟨⟨⟨⟨rfl,rfl⟩,g⟩,j⟩,a⟩,b⟩:=q;obtain⟨nm,bs,mro,ns,i,l,sn,sub,ab,col,m⟩:=cd;dsimp only at e g a b;subst e g;obtain⟨sl⟩:=sl;simp only at d;subst d;exact⟨bm,ns,nm,i,bs,l,sn,sub,ab,col,dd,k0,k1,k2,k3,k5,_,X _ _ k,.of_isNs (W.isNs_of_in X a),W.nsMap_none_of_in X a b,W.tail_of_in X j⟩
  ·cases q
 ·cases q
abbrev Xw:=Uv×Option (Uv×cH)
abbrev VZ:=Ev->Option (Xw×Ev)
noncomputable def Pay(K:Ai)(N:Ur->Prop)(H:Hp):Option Ur->Option (Uv×cH)->Prop
 |none,b4=>True
 |some D,b3 (n,d)=>∃v,H D=b3 (.xd [(n,v)])/\aT K N H N v d
 |_,_=>False
def Pay.mono{K:Ai}{N N':Ur->Prop}{H:Hp}{p:Option Ur}{y:Option (Uv×cH)}(h:Pay K N H p y)(b:∀a,N' a->N a):Pay K N' H p y:=by
 unfold Pay at h⊢;split at h
 ·trivial
 ·obtain⟨v,e,r⟩:=h
  exact⟨v,e,r.mono b b⟩
 ·exact h
def TZ(R:Uv->Option Ur->St->Hp->Prop)(K:Ai)(ml:List Nat)(z:VZ)(σ:St)(H:Hp):Prop:=∃B O δ x δ',aP K ml B O H σ δ/\z δ=b3 (x,δ')/\∀a H' b p,aP K ml B b H' a δ'->Pay K (Nn B b) H' p x.2->R x.1 p a H'
abbrev ZE(R:Uv->Option Ur->St->Hp->Prop)(K:Ai)(ml:List Nat)(z:VZ):TE:=λσ H _=>TZ R K ml z σ H
abbrev ZS(R:Uv->Option Ur->St->Hp->Prop)(K:Ai)(ml:List Nat)(z:VZ):TS:=λ_ σ H=>TZ R K ml z σ H
section
variable{X:Cx}{K:Ai}{ml:List Nat}{e a b c:Ux}{es:List Ux}{pa ta ia pb tb ib pc tc ic pu bt bi ps bs:Bool}{fa fb fc f:VF}{B B':Bs}{O:Nat->Option Ur}{H H1 H':Hp}{σ:St}{δ δ':Ev}{v:V}{d:cH}{pos:Pos}{st:Vd}{rest:List Vd}{g g':VS}{z z':VZ}{R:Uv->Option Ur->St->Hp->Prop}
def zNo:VZ:=λ_=>b4
def NU{a:List Vd}:WP X a (ZS R K ml zNo):=λ_ _ _ _ _ _ h=>by obtain⟨_,_,_,_,_,_,q,_⟩:=h;cases q
def UC(z z':VZ):VZ:=λδ=>match z δ with
 |some r=>b3 r
 |none=>z' δ
def oQ(h:TZ R K ml (UC z z') σ H):TZ R K ml z σ H∨TZ R K ml z' σ H:=by
 obtain⟨B,O,δ,x,δ',S,q,k⟩:=h;unfold UC at q;cases h1:z δ with
 |some r=>rw[h1]at q;exact .inl ⟨B,O,δ,x,δ',S,h1.trans q,k⟩
 |none=>rw[h1]at q;exact .inr ⟨B,O,δ,x,δ',S,q,k⟩
def PK{a:List Vd}(h1:WP X a (ZS R K ml z))(h2:WP X a (ZS R K ml z')):WP X a (ZS R K ml (UC z z')):=λaa s σ H D I h=>
 (oQ h).elim (h1 aa s σ H D I) (h2 aa s σ H D I)
noncomputable def QT(g:VS)(z:VZ):VZ:=λδ=>match g δ with
 |some (.nx δ')=>z δ'
 |_=>b4
def UB(h1:PS X st (WG K ml g))(h2:WP X rest (ZS R K ml z)):WP X (st::rest) (ZS R K ml (QT g z)):=(UQ h1 h2).imp λD σ H q0=>by
 obtain⟨B,O,δ,x,δ',S,q,k⟩:=q0;unfold QT at q;split at q
 ·rename_i δ1 b
  exact⟨B,O,δ,.nx δ1,S,b,λa H' d c=>⟨B,d,δ1,x,δ',c,q,k⟩⟩
 ·cases q
def aB(h:PS X st (ZS R K ml z)):WP X (st::rest) (ZS R K ml z):=(UQ h pD).imp λ_ _ _ h=>h
def C8(t:VB)(z z':VZ):VZ:=λδ=>(t δ).bind λp=>if p.1=ba then z p.2 else z' p.2
def JD{x y:List Vd}{t:VB}(b:PT X c (TB K ml pc t))(e:WP X x (ZS R K ml z))(d:WP X y (ZS R K ml z')):PS X (.If c x y pos) (ZS R K ml (C8 t z z')):=(Xb b e d).imp λD σ H q0=>by
 obtain⟨B,O,δ,x,δ',S,q,k⟩:=q0;unfold C8 at q;cases h1:t δ with
 |none=>rw[h1]at q;cases q
 |some p=>
  obtain⟨kk,δ1⟩:=p;rw[h1]at q;refine⟨B,O,δ,kk,δ1,S,h1,λH1 a=>?_⟩;cases kk with
  |true=>exact NH ⟨B,O,δ1,x,δ',a.sta,q,k⟩
  |false=>exact NG ⟨B,O,δ1,x,δ',a.sta,q,k⟩
def ly(h:PE X e (ZE R K ml z)):PS X (.Return (b3 e) pos) (ZS R K ml z):=(CK h).imp λ_ _ _ h=>h
def RA(h:PE X e (ZE R K ml z))(a:Vc e b4 pos.line X.env=pure bb:=by rfl):PS X (.Expr e pos) (ZS R K ml z):=(L8 h a).imp λ_ _ _ h=>h
def LN{x:Uv}{v af p1:Pos}{t:Uv}{j:Nat}(F:X.K=K)(hz:RzM X R)(hc:X.calm=ba)(E:Gl X x)(w:∃C,XE K x C/\X.mg x=b3 (.ref C))(f:(x==("__debug__":Uv))=bb:=by decide)(c:(Dx af (Uu [.Constant (.str t) j p1] X.env)).any (·.1)=bb:=by rfl):PS X (.Raise (b3 (.Call (.Name x v) [.Constant (.str t) j p1] [] af)) b4 pos) (ZS R K ml λδ=>b3 ((x,b4),δ)):=by intro aa s σ H D I h;obtain⟨B,O,δ,G,δ',S,q,k⟩:=h;cases q;subst F;obtain⟨C,l,A⟩:=w;obtain⟨bm,N,nm,q,bs,hdct,sn,sub,ab,col,dd,k0,k1,k2,k3,k5,mN,u,r,p,i⟩:=mO I.ok.mod.kin l.exc;refine wpAny_Raise_call_subT (C:=C) (nm:=nm) (q:=q) (N:=N) (bs:=bs) (bm:=bm) (hdct:=hdct) (sn:=sn) (sub:=sub) (ab:=ab) (col:=col) (dd:=dd) (k0:=k0) (k1:=k1) (k2:=k2) (k3:=k3) (k5:=k5) (mN:=mN) Hh (i.hasType (by decide)) (I.ok.hd hc) c p (T1 I E A ⟨rfl,?_⟩ f);have pa:PA X [.Constant (.str t) j p1] _:=a9 eG ZP;refine Em (Ax (pa af aa s σ H (λvs H'=>H'=H/\vs.length=1) I ⟨rfl,rfl⟩) (λg s2 y=>?_) λ_ _ z=>z);obtain⟨vs,H2,m,n,rfl,hl⟩:=y;have kp:∀b o,X.base.get? b=b3 o->s2.heap.get? b=b3 o:=λb o e=>(m.bs b o e).1;refine⟨rfl,?_,kp _ _ u,r.keeps kp,i.keeps kp,λh' a d=>hz aa x C a g σ H2 s2.heap _ l.xc m d (k σ H2 O b4 S trivial)⟩;show g.length<=sizeLine;rw[<-n.length,hl];decide
def jq{x:Uv}{kk:Nat}{qs:List Uv}{sp:Sp}{j:Ur}{fd:Cj}{p':Pos}{t:TA}{CX:CXT}(F:W0 X.prog X.w X.K X.mg X.base CX kk j fd qs sp)(m:YU kk X.A)(p:Gl X x)(n:X.mg x=b3 (.ref j))(o:Jm X.K (.ref j)=ba)(d:SS X.K fd qs [])(v:PA X (e::es) t)(i:(x==("__debug__":Uv))=bb:=by decide)(q:Uu (e::es) X.env=(bb,eval e X.env)::Uu es X.env:=by rfl)(g:(Dx pos (Uu es X.env)).any (·.1)=bb:=by rfl):PE X (.Call (.Name x p') (e::es) [] pos) (λσ H Q=>t σ H λvs H1=>∃E,(∀(aa:List (Ur×Ve)) (s:Ae) (f:Uq) (s':Ae),bS X aa σ H1 s->CX X.stack H1 s E f s'->X.xe f s')/\sp vs H1 Q E):=by
 intro aa s σ H Q I h;refine Ey (T1 I p n (Lb (h₀:=X.base) I.ok.mod.kin o (Y3 (v pos aa s σ H _ I h) λc s1 a=>?_) q g) i);obtain⟨vs,H1,b,k,E,y,l⟩:=a;have hl:c.length=qs.length:=by rw[<-k.length];exact F.len _ _ _ _ l
 have d:=d s1 c b.kIn (by simpa using hl);rw[Dk]at d;refine⟨b.kIn,Hv (Hw (F.run X.A X.stack s1 H1 ⟨c,[]⟩ c vs Q E m b.env0 d k l) λr s' a=>?_)⟩;cases r with
 |error f=>exact y aa s1 f s' b a
 |ok z=>cases z with
  |ret u=>exact b.after a
  |next=>cases a
  |brk=>cases a
  |cont=>cases a
def spX(K:Ai)(n:Nat)(a:List cH->Option Xw):Sp:=λvs H _ E=>∃(Z:Ur->Prop) (ds:List cH) (x:Xw),ds.length=n/\Wz K [] Z H vs ds/\a ds=b3 x/\∀C H' p,XC K x.1 C->aN H H'->Pay K Z H' p x.2->E (.ref C) p H'
structure JH(P:Av)(w:Uy)(K:Ai)(mg:Uv->Option Uq)(base:Vb)(x:Uv)(k:Nat)(ps:List Uv)(XF:List cH->Option Xw)(f:Ur):Prop where
 at_:mg x=b3 (.ref f)
 ok:∃fd,W0 P w K mg base (G6 P w) k f fd ps (spX K ps.length XF)/\SS K fd ps []
 kp:Jm K (.ref f)=ba
noncomputable def U6:List AV->Option (List cH)
 |[]=>b3 []
 |.d d::as=>(U6 as).map λds=>d::ds
 |.o _::_=>b4
theorem IH{N:Ur->Prop}:∀{vs:List V}{as:List AV}{ds:List cH},UE K N H σ vs as->U6 as=b3 ds->vs.length=ds.length/\∀(i:Nat) (d:cH),ds[i]?=b3 d->∃v,vs[i]?=b3 v/\aT K N H N v d
 |_,_,_,.nil,h=>by cases h;exact⟨rfl,λi d e=>by simp at e⟩
 | _,.d a :: as,_,.d r t,h => by
  unfold U6 at h;cases e:U6 as with
  |none=>rw[e]at h;cases h
  |some ds=>
   rw[e]at h;cases h;obtain⟨h1,h2⟩:=IH t e;refine⟨by simp[h1],λi d q=>?_⟩;cases i with
   |zero=>simp at q;subst q;exact⟨_,rfl,r⟩
   |succ i=>exact h2 i d (by simpa using q)
 |_,.o _::_,_,.o _ _,h=>by cases h
def YT(n:Nat)(a:List cH->Option Xw)(fs:ML):VZ:=λδ=>(fs δ).bind λp=>(U6 p.1).bind λds=>if ds.length=n then(a ds).map λx=>(x,p.2)else b4
def A5{fs:ML}{m:List cH->Option Xw}{n:Nat}{Q:VK}(hz:RzF X R)(M:X.K=K)(hex:X.ex=[])(h:TZ R K ml (YT n m fs) σ H):BD K ml ps fs σ H λvs H1=>∃E,(∀(aa:List (Ur×Ve)) (s:Ae) (f:Uq) (s':Ae),bS X aa σ H1 s->G6 X.prog X.w X.stack H1 s E f s'->X.xe f s')/\spX K n m vs H1 Q E:=by
 subst M;obtain⟨B,O,δ,x,δ',S,q,k⟩:=h;unfold YT at q;cases h1:fs δ with
 |none=>rw[h1]at q;cases q
 |some p=>
  obtain⟨as,δ1⟩:=p;rw[h1,Ap]at q;cases h2:U6 as with
  |none=>rw[h2]at q;cases q
  |some ds=>
   rw[h2,Ap]at q;split at q
   ·rename_i D
    cases l:m ds with
    |none=>rw[l]at q;cases q
    |some U=>
     rw[l]at q;cases q;refine⟨B,O,δ,as,δ1,S,h1,λvs H1 G=>⟨λv p H2=>∃x C,v=.ref C/\XC X.K x C/\R x p σ H2,λaa s f s' I hc=>?_,?_⟩⟩
     ·obtain⟨C,p,H2,os,c,un,ok,F,t,V,u,g,L⟩:=hc
      cases u;exact hz aa t C p σ H2 f s' s.heap g (I.call' os un ok c λb J=>nomatch J) F (I.low hex) L
     ·obtain⟨P,N⟩:=IH G.rep h2
      have o:∀a,Zp (Nn B O) [] vs a->Nn B O a:=λa z=>z.elim id λ⟨i,hi,_⟩=>nomatch hi;refine⟨Nn B O,ds,x,D,⟨P,λi hi=>(nomatch hi),λi d _ e=>?_,λi d hi=>(nomatch hi),λi j a hi=>(nomatch hi),λa z=>G.sta.nin z⟩,l,λC H2 p g y A=>⟨x.1,C,rfl,g,k σ H2 O p (G.sta.same y) A⟩⟩;obtain⟨v,T,r⟩:=N i d e;exact⟨v,T,r.mono o o⟩
   ·cases q
def Q9{x:Uv}{kk j:Nat}{qs:List Uv}{c:List cH->Option Xw}{m:Ur}{p':Pos}{fs:ML}(hz:RzF X R)(l:X.K=K)(D:JH X.prog X.w K X.mg X.base x kk qs c m)(d:YU j X.A)(f:kk<=j)(g:Gl X x)(hex:X.ex=[])(k:PA X (e::es) (BD K ml ps fs))(b:(x==("__debug__":Uv))=bb:=by decide)(i:Uu (e::es) X.env=(bb,eval e X.env)::Uu es X.env:=by rfl)(a:(Dx pos (Uu es X.env)).any (·.1)=bb:=by rfl):PE X (.Call (.Name x p') (e::es) [] pos) (ZE R K ml (YT qs.length c fs)):=by obtain⟨fd,F,n⟩:=D.ok;subst l;exact(jq F (d.mono f) g D.at_ D.kp n k b i a).imp λσ H Q h=>A5 hz rfl hex h
end
noncomputable def VN(n:Nat)(z:VZ):List cH->Option Xw:=λds=>(z (bF [] n ds)).map (·.1)
def QP.okX{P:Av}{w:Uy}{K:Ai}{mg:Uv->Option Uq}{base:Vb}{x qual:Uv}{st:Vd}{f:Ur}{fd:Cj}{N ps:List Uv}{k:Nat}{z:VZ}(F:QP K x qual st f fd)(S:Z7 N ps (b5 st))(g:ps.length<=N.length)(I:∀(c:Uq) (A:Bz) (outer:List Env) (s:Ae) (H:Hp) (E:XK),YU k (A.deeper (envOfC qual (b5 st) s.heap.objs.size f c))->WP (RJ (G6 P w) P w K mg base N qual (b5 st) f c A outer s H E) (Z1 st) (ZS (rE K E) K [] z)):W0 P w K mg base (G6 P w) (k+1) f fd ps (spX K ps.length (VN N.length z)):=by
 obtain⟨O,od,kV,doc,M,R,c,ct,r,rfl,u,l⟩:=F.ex;refine Xj u l S (λvs H Q E h=>?_) λA outer s H vs Q E v e=>⟨_,I c A outer s H E v,?_⟩
 ·obtain⟨Z,ds,x,j,AV,_⟩:=h
  rw[AV.len,j]
 ·obtain⟨Z,ds,x,j,AV,d,D⟩:=e
  obtain⟨t,B,J⟩:=IU (N:=N) AV (by rw[j];exact g);unfold VN at d;cases h1:z (bF [] N.length ds)with
  |none=>rw[h1]at d;cases d
  |some p=>
   obtain⟨n,δ'⟩:=p;rw[h1]at d;cases d;exact⟨_,t,_,n,δ',J,h1,λm H' T p L y C G=>D C H' p G (λb o q=>L.frm b o q λ⟨i,hi,_⟩=>nomatch hi) (y.mono λa z=>.inl z)⟩
end L2
namespace L2
open PySem PySem.Spec PyProof.Rows PySem.W PySem.Calls PySem.Builtin PySem.Builtin.ObjectAttr PySem.Builtin.Getset_descriptor
section
variable{prog:Av}{w:Uy}{A:Bz}{E:Uq->Ae->Prop}{s:Ae}{K:Vj}{x C:Ur}{o:Ve}{R:Tv->Ae->Prop}
def fA{a:Uq}(X:K.In s.heap)(b:s.heap.get? x=b3 o)(hc:o.cls=.ref C)(F:XA K C)(h:R (.ok (.ret (.ref C))) s):Hj (Ut prog w) A (.call (.builtin "getset_descriptor.__get__") ⟨[.builtin "object.__class__",.ref x,a],[]⟩) R s:=by
 obtain⟨c,g,d,t,os⟩:=s;have f:Looks (Ut prog w) c (Nw (.ref x)) (.ref C):=hc▸(Np b).andThen .now;have e:=looks_mroIn (M:=Ut prog w) X F.mro;refine Fv KF.slot_gs.plain KF.entry_gs (KF.slot_gs.check _ _ _ _ _ _ _ _ KF.type_class (KF.args_gs _ _ _) ?_);unfold Fa.«getset_descriptor.__get__» descrGet;rw[dga_obj];refine Aa (Ag ?_);unfold descrGetter descrCheckInstance descrNameAndClass Lp;simp only[KF.owner_class];repeat lk
 refine⟨Iq _ (by decide+kernel),Ir KF.entry_class ?_⟩;unfold Fa.«object.__class__» shownTypeOf;repeat lk
 exact h
def qG{tk:Vm}{Q:Fin->Ae->Prop}(X:K.In s.heap)(b:s.heap.get? x=b3 o)(hc:o.cls=.ref C)(F:XA K C)(h:Q (.done (.ret (.ref C))) s):Us (Ut prog w) A (Fa.«object.__getattribute__» ⟨[.ref x,.str "__class__" tk],[]⟩) Q E s:=by
 obtain⟨a,g,c,t,os⟩:=s;have j:Looks (Ut prog w) a (Nw (.ref x)) (.ref C):=hc▸(Np b).andThen .now;have i:=Hz (M:=Ut prog w) X F.cls;have f:Looks (Ut prog w) a (getOf (b3 (.builtin "object.__class__"))) (b3 (.builtin "getset_descriptor.__get__")):=looks_specialIn X F.get;have e:=looks_takesIn (M:=Ut prog w) X F.tak;have d:Looks (Ut prog w) a (find (.ref x) (.ref C) "__class__") (.bind (.builtin "getset_descriptor.__get__") (.builtin "object.__class__")):=
  i.andThen (f.andThen ((show Looks (Ut prog w) a (dataDescriptor? (b3 (.builtin "object.__class__")) (b3 (.builtin "getset_descriptor.__get__"))) (b3 (.builtin "getset_descriptor.__get__",.builtin "object.__class__")) from e.andThen .now).andThen (Looks.tag .now)))
 unfold Fa.«object.__getattribute__»;repeat (any_goals (first|assumption|with_reducible refine Looks.at j ?_|with_reducible refine Looks.at d ?_|wp_step))
 refine fA (s:=⟨a,g,c,t,os⟩) X b hc F ?_;exact Ag h
def jj{tk:Vm}(X:K.In s.heap)(b:s.heap.get? x=b3 o)(hc:o.cls=.ref C)(F:XA K C)(h:R (.ok (.ret (.ref C))) s):Hj (Ut prog w) A (.call (.builtin "BaseException.__getattribute__") ⟨[.ref x,.str "__class__" tk],[]⟩) R s:=by
 obtain⟨a,g,c,t,os⟩:=s;have i:Looks (Ut prog w) a (Nw (.ref x)) (.ref C):=hc▸(Np b).andThen .now;have f:=looks_subIn (M:=Ut prog w) X F.sub;have e:builtinKind "BaseException.__getattribute__"=b3 .slot:=by decide+kernel
 have d:splitId "BaseException.__getattribute__"=b3 ("BaseException","__getattribute__"):=by decide+kernel
 have j:=Nr (.ref x) (.str "__class__" tk);refine Fv PySem.F.excAttr_ValueError.ga.plain Nf (Ax (Q:=λ_ s'=>s'=⟨a,g,c,t,os⟩) ?_ (λ_ s' z=>?_) λ_ _ z=>z)
 ·simp only[Ml,e,d]
  unfold Lp;repeat (any_goals (first|rfl|assumption|with_reducible refine Looks.at i ?_|with_reducible refine Looks.at f ?_|wp_step))
 ·subst z
  refine qG (s:=⟨a,g,c,t,os⟩) X b hc F ?_;exact h
def mv{Q:Option Uq->Ae->Prop}(X:K.In s.heap)(a:s.heap.get? x=b3 o)(hc:o.cls=.ref C)(F:XA K C)(h:Q (b3 (.ref C)) {s with toks:=s.toks+1}):Us (Ut prog w) A (To (.ref x) "__class__") Q E s:=by
 obtain⟨b,g,d,t,os⟩:=s;have c:Looks (Ut prog w) b (Nw (.ref x)) (.ref C):=hc▸(Np a).andThen .now;have f:=Hz (M:=Ut prog w) X F.ga;have e:=Hz (M:=Ut prog w) X F.no;have fb:=PySem.F.excAttr_ValueError.ga.bind (.ref x);unfold To getAttrBy? getAttrBy;refine Aa (Qw (Aa (Md (Bp (Aa (c.at (Aa (f.at ?_))))))));show Us _ _ (Ko _ _ _ _ _ _) _ _ _;unfold Ko hookBefore callGetattribute boundAndCalled;repeat (any_goals (first|assumption|with_reducible refine Looks.at c ?_|with_reducible refine Looks.at e ?_|wp_step))
 refine jj (s:=⟨b,g,d,t+1,os⟩) X a hc F ?_;refine handed_on rfl ?_;first|exact h|exact Ag h|exact Ag (Ag h)
def DR(F:XA K C)(hdct:(clsIn K C).isSome=ba):KitX K (.ref x) (.ref C) (λh=>∃o,h.get? x=b3 o/\o.cls=.ref C) where
 ty:=λM h _ p=>by obtain⟨o,h1,h2⟩:=p;exact h2▸(Np h1).andThen .now
 it:=λ_ _ X _=>by
  unfold clsIn at hdct;split at hdct
  ·rename_i b
   intro i f g s' k q;unfold isType loadHead;exact Aa (Od (k _ _ (X _ _ b)) (Ag q))
  ·cases hdct
 ne:=λh c dd d n sl X a=>by
  refine Bool.eq_false_iff.mpr λq=>?_;have e:C=c:=Value.ref.inj (beq_iff_eq.mp q);subst e;unfold clsIn at hdct;split at hdct
  ·rename_i b
   have z:=(X _ _ b).symm.trans a;cases z
  ·cases hdct
 ca:=λX p k=>by obtain⟨o,h1,h2⟩:=p;exact mv X h1 h2 F k
end
end L2
namespace L2
open PySem PySem.Spec PyProof.Rows
structure XT(k:Nat)(A:Bz):Prop where
 dp:A.depth+3*k+5<Fg
 un:A.units+16*k+200<cLine
def YU.h{k:Nat}{A:Bz}(r:YU k A):XT k A:=⟨r.dp,r.un⟩
def XT.mono{j k:Nat}{A:Bz}(r:XT k A)(h:j<=k):XT j A:=⟨by have:=r.dp;lia,by have:=r.un;lia⟩
def XT.deeper{k:Nat}{A:Bz}(r:XT (k+1) A)(env:Env):XT k (A.deeper env):=
 ⟨by have:=r.dp;show A.depth+1+3*k+5<_;lia,by have:=r.un;show A.units+3+16*k+200<_;lia⟩
def XT.units{k:Nat}{A:Bz}(r:XT k A):A.units+64<cLine:=by have:=r.un;lia
def XT.unit{k:Nat}{A:Bz}(r:XT k A):A.units+1<cLine:=by have:=r.un;lia
def cxH(P:Av)(w:Uy)(K:Ai)(mg:Uv->Option Uq)(base:Vb)(N:List Uv)(qual:Uv)(scope:Vf)(f:Ur)(cd:Uq)(A:Bz)(outer:List Env)(s:Ae)(H:Hp):Cx:=
 {RJ CX0 P w K mg base N qual scope f cd A outer s H E0 with calm:=bb,xe:=λ_ _=>False}
structure FnH(P:Av)(w:Uy)(K:Ai)(mg:Uv->Option Uq)(base:Vb)(k:Nat)(f:Ur)(fd:Cj)(ps:List Uv)(sp:Sp):Prop where
 len:∀vs H Q E,sp vs H Q E->vs.length=ps.length
 run:∀(A:Bz) (outer:List Env) (s:Ae) (H:Hp) (args:Args) (us:List Uq) (vs:List V) (Q:VK),XT k A->Env0 P w K mg base A outer s H->Qa s fd args (ps.zip us)->aY vs us->sp vs H Q E0->
  Hj (Ut P w) A (.call (.ref f) args) (CR CX0 outer P w H s Q E0) s
def bS.around{X:Cx}{a:Bz}{aa:List (Ur×Ve)}{σ:St}{H:Hp}{s:Ae}{xe:Uq->Ae->Prop}(I:bS X aa σ H s)(b:a.frames=X.A.frames):bS {X with A:=a,calm:=bb,xe:=xe} aa σ H s:=
 ⟨⟨I.ok.mod,I.ok.kind,I.ok.glob,I.ok.blt,I.ok.above,I.ok.inj,I.ok.has,I.ok.cab,λz=>(nomatch z),b.trans I.ok.frames,I.ok.stk,I.ok.exf,I.ok.bs,I.ok.bsz,I.ok.noex,I.ok.exfs,I.ok.funs,I.ok.frf⟩,I.os,I.bare,I.base,I.loc,I.cell,I.free,I.freeC,I.pin,I.hok,I.len⟩
def bS.back{X:Cx}{a:Bz}{aa:List (Ur×Ve)}{σ:St}{H:Hp}{s:Ae}{xe:Uq->Ae->Prop}(ok:X.Ok)(I:bS {X with A:=a,calm:=bb,xe:=xe} aa σ H s):bS X aa σ H s:=
 ⟨ok,I.os,I.bare,I.base,I.loc,I.cell,I.free,I.freeC,I.pin,I.hok,I.len⟩
def QP.okH{P:Av}{w:Uy}{K:Ai}{mg:Uv->Option Uq}{base:Vb}{x qual:Uv}{st:Vd}{f:Ur}{fd:Cj}{N ps:List Uv}{k:Nat}{sp:Sp}(F:QP K x qual st f fd)(S:Z7 N ps (b5 st))(len:∀vs H Q E,sp vs H Q E->vs.length=ps.length)(Z:∀(a:Uq) (A:Bz) (outer:List Env) (s:Ae) (H:Hp) (vs:List V) (Q:VK),XT k (A.deeper (envOfC qual (b5 st) s.heap.objs.size f a))->sp vs H Q E0->∃t,WP (cxH P w K mg base N qual (b5 st) f a A outer s H) (Z1 st) t/\t {nx:=λ_ H'=>Q .non H',rt:=Q} (start N vs) H):FnH P w K mg base (k+1) f fd ps sp:=by
 obtain⟨oc,od,kV,doc,pm,an,a,ct,C,rfl,D,m⟩:=F.ex;refine⟨len,λA outer s H args B vs Q p c R r h=>?_⟩;have hl:=len _ _ _ _ h;have z:K.In s.heap:=c.mod.kin.keeps λb o e=>(c.bs b o e).1;have l:s.heap.NoLimit:=c.mod.nolimit.keeps λb o e=>(c.bs b o e).1;have Y:∀y∈ps.zip B,(b5 st).names.lookup y.1=b3 .local∨((b5 st).names.lookup y.1=b3 .cell/\((Vg (s.heap.objs.size+1) (b5 st).names []).lookup y.1).isSome=ba):=λ⟨n,v⟩ G=>by
  rcases S.par n (Ik G).1 with q|q
  ·exact .inl q
  ·exact .inr ⟨q,Mj _ _ _ (.inl q)⟩
 have X:A.depth<Fg:=by have:=p.dp;lia
 refine Jo X (z _ _ D) rfl S.co S.gen rfl (W.codeRec_of z m) (R _ _ _ _ ?_);refine Hg S.kind Y λenv O s1 x=>?_;subst O;refine⟨l.keeps x.toInCall.keep,Qs ?_⟩;obtain⟨t,L,M⟩:=Z a A outer s H vs Q (p.deeper _) h;have U:Env0 P w K mg base {A with handled:=b4} outer s H:=⟨c.frames,c.mod,c.bs,c.bsz,c.funs,c.frf,c.hok,c.bare⟩;have I0:bS (RJ CX0 P w K mg base N qual (b5 st) f a {A with handled:=b4} outer s H E0) [] (start N vs) H s1:=HU S rfl U hl r x;have I:bS (cxH P w K mg base N qual (b5 st) f a A outer s H) [] (start N vs) H s1:=I0.around rfl;refine Ax (L [] s1 (start N vs) H _ I M) (λT s' g=>?_) λe s' g=>(show False from g).elim;have i:∀{d:St}{H':Hp}{v:V}{u:Uq},bS (cxH P w K mg base N qual (b5 st) f a A outer s H) [] d H' s'->aV v u->Q v H'->CE outer P w H s Q u s':=
  λ{d H' v u} J j q=>⟨v,H',J.os,J.bare,J.base,J.hok,j,q⟩
 cases T with
 |ret u=>
  obtain⟨v,d,H',J,j,q⟩:=g;exact i J j q
 |next=>
  obtain⟨d,H',J,q⟩:=g;exact i (v:=V.non) (u:=Value.none) J rfl q
 |brk=>
  obtain⟨_,_,_,q⟩:=g;cases q
 |cont=>
  obtain⟨_,_,_,q⟩:=g;cases q
structure DefH(P:Av)(w:Uy)(K:Ai)(mg:Uv->Option Uq)(base:Vb)(x:Uv)(k:Nat)(ps:List Uv)(sp:Sp)(f:Ur):Prop where
 at_:mg x=b3 (.ref f)
 ok:∃fd,FnH P w K mg base k f fd ps sp/\SS K fd ps []
 kp:Jm K (.ref f)=ba
section
variable{X:Cx}{K:Ai}{ml:List Nat}{e a b c:Ux}{es:List Ux}{ps:Bool}{pos:Pos}
def pO{x:Uv}{kk j n:Nat}{qs:List Uv}{mF:List Nat}{F:aX}{B:Ur}{p':Pos}{fs:ML}(D:DefH X.prog X.w K X.mg X.base x kk qs (spV K mF n F) B)(m:XT j X.A)(v:PA X (e::es) (BD K ml ps fs))(y:X.K=K:=by rfl)(o:kk<=j:=by decide)(p:Gl X x:=by rfl)(g:(x==("__debug__":Uv))=bb:=by decide)(q:Uu (e::es) X.env=(bb,eval e X.env)::Uu es X.env:=by rfl)(f:(Dx pos (Uu es X.env)).any (·.1)=bb:=by rfl):PE X (.Call (.Name x p') (e::es) [] pos) (TV K ml (ps&&mF.isEmpty) ba ba (bZ n mF F fs)):=by
 subst y;obtain⟨fd,l,C⟩:=D.ok;refine PE.imp (t:=AU (spV X.K mF n F) [] E0 (BD X.K ml ps fs)) (λaa s σ H Q I h=>?_) λ_ _ _ h=>G2 h;refine Ey (T1 I p D.at_ (Lb (h₀:=X.base) I.ok.mod.kin D.kp (Y3 (v pos aa s σ H _ I h) λb s1 a=>?_) q f) g);obtain⟨vs,H1,c,i,d⟩:=a;rw[Dk]at d;have hl:b.length=qs.length:=by rw[<-i.length];exact l.len _ _ _ _ d
 have k:=C s1 b c.kIn (by simpa using hl);rw[Dk]at k;refine⟨c.kIn,Hv (Hw (l.run X.A X.stack s1 H1 ⟨b,[]⟩ b vs Q (m.mono o) c.env0 k i d) λr s' a=>?_)⟩;cases r with
 |error E=>cases a
 |ok z=>cases z with
  |ret u=>exact c.after a
  |next=>cases a
  |brk=>cases a
  |cont=>cases a
end
def QP.okVH{P:Av}{w:Uy}{K:Ai}{mg:Uv->Option Uq}{base:Vb}{x qual:Uv}{st:Vd}{f:Ur}{fd:Cj}{N ps:List Uv}{k:Nat}{ml:List Nat}{g:VS}(F:QP K x qual st f fd)(S:Z7 N ps (b5 st))(b:ps.length<=N.length)(e:∀(a:Uq) (A:Bz) (outer:List Env) (s:Ae) (H:Hp),XT k (A.deeper (envOfC qual (b5 st) s.heap.objs.size f a))->WP (cxH P w K mg base N qual (b5 st) f a A outer s H) (Z1 st) (WG K ml g)):FnH P w K mg base (k+1) f fd ps (spV K ml ps.length (aC N.length ml g)):=by refine F.okH S (λvs H Q E h=>?_) (λa A outer s H vs Q c h=>⟨_,e a A outer s H c,Za (E:=E0) b h⟩);obtain⟨Z,ds,r,os,d,AV,_⟩:=h;rw[AV.len,d]
structure XQ(K:Ai)(C Cp:Ur)(r:Bool):Prop where
 ty:W.typeIn K (.ref Cp)=b3 (.type "type")
 cls:(Sk K Cp).isSome=ba
 base:Qk K (.ref Cp) (.type "BaseException")=b3 ba
 sub:Qk K (.ref C) (.ref Cp)=b3 r
def XP.q{K:Ai}{C Cp:Ur}(h:XP K C Cp):XQ K C Cp ba:=⟨h.ty,h.cls,h.base,h.sub⟩
def nh{r:Bool}{prog:Av}{w:Uy}{A:Bz}{E:Uq->Ae->Prop}{s:Ae}{K:Ai}{x C Cp:Ur}{o:Ve}{Q:Bool->Ae->Prop}(X:K.In s.heap)(c:s.heap.get? x=b3 o)(hc:o.cls=.ref C)(F:XQ K C Cp r)(h:Q r s):Us (Ut prog w) A (excMatches (.ref x) (.ref Cp)) Q E s:=by
 obtain⟨b,g,n,t,os⟩:=s;cases r
 all_goals
  have m:W.Looks (Ut prog w) b (Nw (.ref x)) (.ref C):=hc▸(W.Looks.ld c).andThen .now;have l:=W.looks_typeIn (M:=Ut prog w) X F.ty;have j:=W.looks_subIn (M:=Ut prog w) X F.base;have i:=W.looks_subIn (M:=Ut prog w) X F.sub;have e:W.Looks (Ut prog w) b (isType (.ref Cp)) ba:=by
   have a:=F.cls;unfold Sk at a;split at a
   ·rename_i d
    intro v p u s' k q;unfold isType loadHead;exact Aa (Od (k _ _ (X _ _ d)) (Ag q))
   ·cases a
  have f:=tc_notTuple;unfold excMatches isExcClass Lp;repeat (any_goals (first|assumption|with_reducible refine W.Looks.at m ?_|with_reducible refine W.Looks.at l ?_|with_reducible refine W.Looks.at j ?_|with_reducible refine W.Looks.at i ?_|with_reducible refine W.Looks.at e ?_|wp_step))
def excP(a C:Ur):Option Ur->Vb->Prop
 |none=>λh=>Vz h a C
 |some D=>λh=>Yw h a C D
section
variable{X:Cx}{aa:List (Ur×Ve)}{σ:St}{H:Hp}{s:Ae}{h':Vb}{a C:Ur}
def bS.track{o:Ve}{vs:Array Uq}{p:Option Ur}(I:bS X aa σ H s)(N:H a=b4)(i:s.heap.get? a=b3 o)(hc:o.cls=.ref C)(w:o.data=.fields vs)(g:o.dict=p)(L:X.s₀.heap.get? a=b4)(M:∀p∈X.pn++aa,p.1≠a):bS X aa σ (upd H a (.ext (excP a C p))) s:=by
 have y:∀b o,X.s₀.heap.get? b=b3 o->b≠a:=λb o e z=>by rw[z,L]at e;cases e
 have f:∀b u,H b=b3 u->b≠a:=λb u e z=>by rw[z,N]at e;cases e
 refine⟨I.ok,I.os,I.bare,⟨I.base.keep,I.base.slot,λb o e n K=>?_,I.base.there,λb xs e=>?_,λb o u e=>?_,λb ps e=>?_⟩,I.loc,I.cell,?_,λx c e=>?_,λp E=>?_,λb u e=>?_,I.len⟩
 ·rw[bL (y b o e)];exact I.base.free b o e n K
 ·have q:=I.base.tups b xs e
  rw[bL (f b _ q)];exact q
 ·have q:=I.base.frzs b o u e
  rw[bL (f b _ q)];exact q
 ·obtain⟨more,q⟩:=I.base.tbls b ps e
  exact⟨more,by rw[bL (f b _ q)];exact q⟩
 ·obtain⟨m,⟨Q,_,_,r,t,_⟩,_⟩:=I.loc
  have:X.env.locals≠a:=λz=>by rw[z,i]at r;cases r;rw[w]at t;cases t
  rw[bL this];exact I.free
 ·obtain⟨v,P,l,g⟩:=I.cell x c e
  have:c≠a:=λz=>by rw[z,i]at l;cases l;rw[w]at g;cases g
  rw[bL this];exact I.freeC x c e
 ·obtain⟨e,n,J,G,d⟩:=I.pin p E
  exact⟨e,by rw[bL (M p E)];exact n,J,G,d⟩
 ·by_cases F:b=a
  ·subst F
   rw[bU]at e;cases e;cases p with
   |none=>exact⟨⟨o,vs,i,hc,w⟩,⟨o,i⟩,λh1 h2 q k=>by obtain⟨j,h,D,B,A⟩:=q;exact⟨j,h,k j D,B,A⟩⟩
   |some R=>exact⟨⟨o,vs,i,hc,w,g⟩,⟨o,i⟩,λh1 h2 q k=>by obtain⟨j,h,D,B,A,O⟩:=q;exact⟨j,h,k j D,B,A,O⟩⟩
  ·rw[bL F]at e
   exact(I.hok b u e).stay (λ_ _ _ q=>q) (λc q=>by rw[bL (f c _ q)];exact q) λc xs q=>by rw[bL (f c _ q)];exact q
def bS.unbound{r:Uv->Option Uq}{t':Nat}(I:bS X aa σ H s)(ns:h'.Ns X.env.locals r)(f:Es X.env.locals s.heap h'):bS X aa (Az X.N.length b4) H {s with heap:=h',toks:=t'}:=by
 have a:∀b o,X.s₀.heap.get? b=b3 o->b≠X.env.locals:=λb o e=>Au (Bb (Ak e) I.ok.above);have g:∀b u,H b=b3 u->b≠X.env.locals:=λb u e z=>by rw[z,I.free]at e;cases e
 refine⟨I.ok,I.os,I.bare,⟨λb o e n j h=>(f.2 b (a b o e)).trans (I.base.keep b o e n j h),λb o e n j h=>?_,I.base.free,λb o e h=>?_,I.base.tups,I.base.frzs,I.base.tbls⟩,⟨r,ns,λi x v _ k _=>?_⟩,λx c e=>?_,I.free,I.freeC,λp w=>?_,λb u e=>?_,by simp⟩
 ·obtain⟨sl,l⟩:=I.base.slot b o e n j h
  exact⟨sl,(f.2 b (a b o e)).trans l⟩
 ·obtain⟨o',l⟩:=I.base.there b o e h
  exact⟨o',(f.2 b (a b o e)).trans l⟩
 ·rw[Dt]at k
  split at k<;>cases k
 ·obtain⟨v,z⟩:=I.cell x c e
  exact⟨v,z.sameBut f (I.cne x c e)⟩
 ·obtain⟨e,n,m,t,d⟩:=I.pin p w
  exact⟨(f.2 p.1 m).trans e,n,m,t,d⟩
 ·refine (I.hok b u e).stay (λc v hc q => (f.2 c ?_).trans q) (λ_ q => q) λ_ _ q => q
  rcases hc with rfl|hc
  ·exact g _ u e
  ·exact g c _ hc
end
def Cx.Ok.pns{X:Cx}(ok:X.Ok)(pn:List (Ur×Ve))(xe:Uq->Ae->Prop):Cx.Ok {X with pn:=pn,xe:=xe}:=
 ⟨ok.mod,ok.kind,ok.glob,ok.blt,ok.above,ok.inj,ok.has,ok.cab,ok.hd,ok.frames,ok.stk,ok.exf,ok.bs,ok.bsz,ok.noex,ok.exfs,ok.funs,ok.frf⟩
abbrev Cx.hnd(X:Cx)(a:Ur):Cx:={X with A:=X.A.mark (b3 (.ref a)),calm:=bb,xe:=λ_ _=>False}
noncomputable def FN:Xw->cH
 |(x,b4)=>.exn x
 |(x,b3 (n,d))=>.exr x n d
section
variable{X:Cx}{K:Ai}{ml:List Nat}{pos:Pos}{g k kA:VS}{z:VZ}
def jF{n:Uv}{br:Pos}{b0:Vd}{bz:List Vd}{i:Nat}{aa:List (Ur×Ve)}{D:M0}{B:Bs}{R:Nat->Option Ur}{δ1 δ2:Ev}{d:cH}{E:Xw}{C a:Ur}{a0:Uq}{p:Option Ur}{c:St}{H2:Hp}{s':Ae}{gh Q S:Vb}(hN:X.N.Nodup)(hi:X.N[i]?=b3 n)(hl:X.env.kindOf n=b3 .local)(him:i∉ml)(Y:X.stack=X.env::X.outer)(hk:∀a,WP (X.hnd a) (b0::bz) (WG X.K ml k))(hx:XC X.K E.1 C)(J':bS X aa c H2 s')(t:Low X aa gh)(fl5:Ld S (X.env::X.outer) a (.ref C) a0 Q)(dc5:Dc a p Q)(U:s'.heap.UpToSlots Q)(c1:∀b o,gh.get? b=b3 o->b∉SM X.stack->∃o',s'.heap.get? b=b3 o'/\S.get? b=b3 o')(c2:∀b u,H2 b=b3 u->∃o,s'.heap.get? b=b3 o/\S.get? b=b3 o)(S1:aP X.K ml B R H2 c δ1)(s:Pay X.K (Nn B R) H2 p E.2)(h3:k (δ1.set i (.va (FN E)))=b3 (.rt d δ2))(G:Post X.K ml B D (.rt d δ2)):Hj (Ut X.prog X.w) (X.A.mark (b3 (.ref a))) (.handlers (.ref a) [.ExceptHandler b4 (b3 n) (b0::bz) br] X.env) (λr l=>match r with
   |.ok f=>Us (Ut X.prog X.w) X.A (do Jk X.env n .none;unbindBehindTheSuite X.env n br) (λ_ F=>SP X aa D f F) X.xe l
   |.error x=>cameBackBy (Ut X.prog X.w) X.A X.env X.xe x l) {s' with heap:=Q}:=by
 refine codeAny_handlers_suite_as (M5 (KD.flight _ _) dc5 (lands_againW fl5 λh6 g T dc6=>?_));have I6:bS X aa c H2 {s' with heap:=h6}:=J'.flyG t g.1 (U.trans T) c1 c2;obtain⟨oe,vs,_,_,_,I,hcl,J,_⟩:=id g.2.2.2;have dct:oe.dict=p:=dc6.at I;have Bn:S.get? a=b4:=g.2.1;have H:a∉SM X.stack:=λhb=>by rw[Y]at hb;obtain⟨_,o',e',nf⟩:=g.2.2.1.mem hb;rw[I]at e';cases e';exact nf vs J
 have na:∀b o,gh.get? b=b3 o->b≠a:=λb o e z=>by subst z;obtain⟨o',_,j⟩:=c1 b o e H;rw[Bn]at j;cases j
 have P:H2 a=b4:=by
  cases e:H2 a with
  |none=>rfl
  |some u=>
   obtain⟨o',_,j⟩:=c2 a u e;rw[Bn]at j;cases j
 have Z:X.s₀.heap.get? a=b4:=by
  cases e:X.s₀.heap.get? a with
  |none=>rfl
  |some o'=>
   obtain⟨V,j⟩:=t.s0 a o' e H;exact absurd rfl (na a V j)
 have I7:=I6.track (p:=p) (C:=C) P I hcl.1 J dct Z λq hq=>by obtain⟨V,j⟩:=t.pin q hq;exact na _ V j
 have S7:aP X.K ml B R (upd H2 a (.ext (excP a C p))) c δ1:=S1.same (b7 P);refine YH (X:=X.hnd a) (I7.around rfl) hN hi (.inl hl) (v:=.ref a) rfl (λs8 I8=>?_) (.inr hl);have rx:∀M,aT X.K (Nn B R) (upd H2 a (.ext (excP a C p))) M (.ref a) (FN E):=λM=>by
  obtain⟨xn,y⟩:=E;cases p with
  |none=>
   cases y with
   |none=>exact .exn hx.at_ bU λh z=>z
   |some y=>exact s.elim
  |some D0=>
   cases y with
   |none=>exact s.elim
   |some y=>
    obtain⟨yn,yd⟩:=y;obtain⟨v,e,r⟩:=s;have nD:D0≠a:=λq=>by rw[q,P]at e;cases e
    exact .exr hx.at_ bU (λh z=>z) (by rw[bL nD];exact e) (r.same (b7 P))
 have S8:=S7.setVa (i:=i) (v:=.ref a) (d:=FN E) him (rx _);refine Ax (hk a aa s8 _ _ ⟨λ_ _=>False,D.rt,λ_ _=>False,λ_ _=>False⟩ I8 ⟨B,_,_,.rt d δ2,S8,h3,G⟩) (λf s9 O=>?_) λe s9 I=>(show False from I).elim;cases f with
 |next=>obtain⟨_,_,_,z⟩:=O;cases z
 |brk=>obtain⟨_,_,_,z⟩:=O;cases z
 |cont=>obtain⟨_,_,_,z⟩:=O;cases z
 |ret u=>
  obtain⟨v,σ9,H9,L,r9,hD⟩:=O;have L:=L.back J'.ok;obtain⟨m,hn,_⟩:=id L.loc;refine wpAny_nameGoes hl hn (by rw[L.ok.kind];rfl) λh' m' W sb=>?_;exact⟨v,_,H9,L.unbound W sb,r9,hD⟩
def MX(g:VS)(z:VZ)(i:Nat)(kk:Uv->VS):VS:=λδ=>match g δ with
 |some o=>b3 o
 | none => match z δ with
  |some (x,δ1)=>match kk x.1 (δ1.set i (.va (FN x)))with
   |some (.rt d δ2)=>b3 (.rt d δ2)
   |_=>b4
  |none=>b4
def LG(g:VS)(z:VZ)(i:Nat)(cs:List Uv)(y:Uv)(kA k:VS):VS:=MX g z i λx=>if x∈cs then(if x=y then kA else k)else λ_=>b4
structure Yg(X:Cx)(ml:List Nat)(i:Nat)(kk:Uv->VS)(aa:List (Ur×Ve))(D:M0)(C a:Ur)(x:Xw)(s':Ae)(h5:Vb):Prop where
 xc:XC X.K x.1 C
 ex:∃B O' δ1 δ2 d a0 p σ2 H2 gh Bh,bS X aa σ2 H2 s'/\Low X aa gh/\Ld Bh (X.env::X.outer) a (.ref C) a0 h5/\Dc a p h5/\s'.heap.UpToSlots h5/\(∀b o,gh.get? b=b3 o->b∉SM X.stack->∃o',s'.heap.get? b=b3 o'/\Bh.get? b=b3 o')∧
  (∀b u,H2 b=b3 u->∃o,s'.heap.get? b=b3 o/\Bh.get? b=b3 o)/\aP X.K ml B O' H2 σ2 δ1/\Pay X.K (Nn B O') H2 p x.2/\kk x.1 (δ1.set i (.va (FN x)))=b3 (.rt d δ2)/\Post X.K ml B D (.rt d δ2)
def lJ{body:List Vd}{Y:Pt}{W:List Pt}{i:Nat}{kk:Uv->VS}(hK:X.K=K)(n:X.stack=X.env::X.outer)(L:X.env.frame=b3 X.env.locals)(hg:WP X.nox body (WG K ml g))(hz:∀(pn:List (Ur×Ve)) (xe:Uq->Ae->Prop) (R:Uv->Option Ur->St->Hp->Prop),RzF {X with pn:=pn,xe:=xe} R->WP {X with pn:=pn,xe:=xe} body (ZS R K ml z))(hh:∀aa D C a x s' r,Yg X ml i kk aa D C a x s' r->Us (Ut X.prog X.w) X.A (handleBy (.ref a) X.env (Y::W)) (λf s=>SP X aa D f s) X.xe {s' with heap:=r}):PS X (.Try body (Y::W) [] [] pos) (WG K ml (MX g z i kk)):=by
 intro aa s σ H D I h;obtain⟨B,O,δ,o,S,q,c⟩:=h;refine wpAny_Try_except ?_;unfold MX at q;cases h1:g δ with
 |some o'=>
  rw[h1]at q;cases q;refine Ax (hg aa s σ H D (I.wish _) ⟨B,O,δ,o,S,h1,c⟩) (λf s1 b=>?_) λe s1 M=>(show False from M).elim;have b:=b.unwish;cases f with
  |next=>exact Gm b
  |_=>exact b
 |none=>
  rw[h1]at q;dsimp only at q;cases h2:z δ with
  |none=>rw[h2]at q;cases q
  |some p=>
   obtain⟨k,δ1⟩:=p;rw[h2]at q;dsimp only at q;cases P:kk k.1 (δ1.set i (.va (FN k)))with
   |none=>rw[P]at q;cases q
   |some ok=>
    rw[P]at q;cases ok with
    |nx _=>cases q
    |bk _=>cases q
    |ct _=>cases q
    |rt d δ2=>
     cases q;subst hK;have I1:∀{xe:Uq->Ae->Prop}{σ:St}{H:Hp}{s:Ae},bS X aa σ H s->bS {X with pn:=X.pn++aa,xe:=xe} [] σ H s:=λI=>⟨I.ok.pns _ _,I.os,I.bare,I.base,I.loc,I.cell,I.free,I.freeC,λp j=>I.pin p (by simpa using j),I.hok,I.len⟩;have I2:∀{xe:Uq->Ae->Prop}{ps:List (Ur×Ve)}{σ:St}{H:Hp}{s:Ae},bS {X with pn:=X.pn++aa,xe:=xe} ps σ H s->bS X aa σ H s:=λJ=>⟨I.ok,J.os,J.bare,J.base,J.loc,J.cell,J.free,J.freeC,λp j=>J.pin p (Bf _ j),J.hok,J.len⟩;refine Ax (hz (X.pn++aa) _ (λx p m H'=>x=k.1/\∃l,aP X.K ml B l H' m δ1/\Pay X.K (Nn B l) H' p k.2) (λps x C p t H2 e s' Z hx J F lo hR=>?_) [] s σ H ⟨λ_ _=>False,λ_ _=>False,λ_ _=>False,λ_ _=>False⟩ (I1 I) ⟨B,O,δ,k,δ1,S,h2,λm H' l p S' j=>⟨rfl,l,S',j⟩⟩) (λf s1 b=>?_) λe s1 M=>M;rotate_left
     ·cases f with
      |next=>obtain⟨_,_,_,z⟩:=b;cases z
      |brk=>obtain⟨_,_,_,z⟩:=b;cases z
      |cont=>obtain⟨_,_,_,z⟩:=b;cases z
      |ret u=>obtain⟨_,_,_,_,_,z⟩:=b;cases z
     obtain⟨rfl,l,S1,E⟩:=hR;have J':=I2 J;have G:Low X aa Z:=⟨lo.s0,λp j=>lo.pin p (Bf _ j)⟩;obtain⟨a,a0,Bh,rfl,T,dc,c1,c2⟩:=F;have T:Ld Bh (X.env::X.outer) a (.ref C) a0 s'.heap:=n▸T;refine M5 (KD.note _ _) dc (wpAny_looks_onW (J'.ok.frames.trans (by rw[n])) L T λh4 N y V=>M5 (KD.flight _ _) V (wpAny_landsW N λr Q v U=>?_));exact hh aa D C a k s' r ⟨hx,B,l,δ1,δ2,d,a0,p,t,H2,Z,Bh,J',G,Q,U,y.trans v,c1,c2,S1,E,P,c⟩
def HL{n l:Uv}{T br:Pos}{M:Vd}{J:List Vd}{rest:List Pt}{i:Nat}{kk:Uv->VS}{aa:List (Ur×Ve)}{D:M0}{C a Q:Ur}{x:Xw}{s':Ae}{j:Vb}{r:Bool}(o:X.stack=X.env::X.outer)(hN:X.N.Nodup)(hi:X.N[i]?=b3 n)(hl:X.env.kindOf n=b3 .local)(u:i∉ml)(v:Gl X l)(Z:X.mg l=b3 (.ref Q))(Y:XQ X.K C Q r)(z:(l==("__debug__":Uv))=bb)(L:Yg X ml i kk aa D C a x s' j)(t:r=ba->(∀a,WP (X.hnd a) (M::J) (WG X.K ml k))/\kk x.1=k)(W:r=bb->Us (Ut X.prog X.w) X.A (handleBy (.ref a) X.env rest) (λf s=>SP X aa D f s) X.xe {s' with heap:=j}):Us (Ut X.prog X.w) X.A (handleBy (.ref a) X.env (.ExceptHandler (b3 (.Name l T)) (b3 n) (M::J) br::rest)) (λf s=>SP X aa D f s) X.xe {s' with heap:=j}:=by
 obtain⟨V,B,O',δ1,δ2,d,a0,p,c,H2,gh,Bh,O,h,b,E,e,I,H,S1,m,G,g⟩:=L;have P:bS X aa c H2 {s' with heap:=j}:=O.flyG h b.1 e I H;have F:bS (X.hnd a) aa c H2 {s' with heap:=j}:=P.around rfl;refine wpAny_handleBy_cons (codeAny_handlers_test (T1 (X:=X.hnd a) F v Z ?_ z)) (by intro q;cases q);obtain⟨S,R,_,_,_,y,U,_⟩:=id b.2.2.2;refine nh P.kIn y U.1 Y ?_;cases r with
 |false=>exact W rfl
 |true=>
  obtain⟨t,ek⟩:=t rfl;rw[ek]at G;exact jF hN hi hl u o t V O h b E e I H S1 m G g
def iO{body:List Vd}{n y:Uv}{cs:List Uv}{w M d J:Pos}{v u:Vd}{t s:List Vd}{i:Nat}(I:X.K=K)(b:X.stack=X.env::X.outer)(j:X.env.frame=b3 X.env.locals)(p:X.N.Nodup)(hi:X.N[i]?=b3 n)(hl:X.env.kindOf n=b3 .local)(c:i∉ml)(h:Gl X "PackError")(B:∀C,Ep K Uw "PackError"=b3 (b3 (.ref C))->X.mg "PackError"=b3 (.ref C))(A:Gl X y)(l:(y==("__debug__":Uv))=bb)(G:∃m,X.mg y=b3 (.ref m)/\∀x∈cs,∀C,Ep K Uw x=b3 (b3 (.ref C))->XQ K C m (decide (x=y)))(F:WP X.nox body (WG K ml g))(hz:∀(pn:List (Ur×Ve)) (xe:Uq->Ae->Prop) (R:Uv->Option Ur->St->Hp->Prop),RzF {X with pn:=pn,xe:=xe} R->WP {X with pn:=pn,xe:=xe} body (ZS R K ml z))(f:∀a,WP (X.hnd a) (v::t) (WG K ml kA))(E:∀a,WP (X.hnd a) (u::s) (WG K ml k)):PS X (.Try body [.ExceptHandler (b3 (.Name y w)) (b3 n) (v::t) M,.ExceptHandler (b3 (.Name "PackError" d)) (b3 n) (u::s) J] [] [] pos) (WG K ml (LG g z i cs y kA k)):=by
 subst I;refine lJ rfl b j F hz λaa D C a x s' O L=>?_;obtain⟨Cp,o⟩:=L.xc.pk;obtain⟨m,e,H⟩:=G;have hc:x.1∈cs:=by
  obtain⟨_,_,_,_,_,_,_,_,_,_,_,_,_,_,_,_,_,_,_,_,q,_⟩:=L.ex;by_cases z:x.1∈cs
  ·exact z
  ·rw[if_neg z]at q
   cases q
 refine HL (r:=decide (x.1=y)) (k:=kA) b p hi hl c A e (H _ hc _ L.xc.at_) l L (λz=>⟨f,by rw[if_pos hc,if_pos (of_decide_eq_true z)]⟩) λz=>?_;exact HL (r:=ba) (k:=k) b p hi hl c h (B Cp o.at_) o.q (by decide) L (λ_=>⟨E,by rw[if_pos hc,if_neg (of_decide_eq_false z)]⟩) λz=>nomatch z
end
section
variable{X:Cx}{K:Ai}{ml:List Nat}{e a b c fx:Ux}{es:List Ux}{pa ta ia pb tb ib pf ft fi ps:Bool}{fa fb fe:VF}{B:Bs}{O:Nat->Option Ur}{H H1 H':Hp}{σ:St}{δ δ':Ev}{v:V}{d:cH}{pos:Pos}{R:Uv->Option Ur->St->Hp->Prop}
noncomputable def VL:List cH->Option (List Bool)
 |[]=>b3 []
 |.bl i::ds=>(VL ds).map λns=>i::ns
 |_=>b4
theorem HH{N:Ur->Prop}:∀{xs:List V}{ds:List cH}{ns:List Bool},bQ K N H xs ds->VL ds=b3 ns->xs=ns.map V.bl
 |_,_,_,.nil,h=>by cases h;rfl
 | _,_,_,@bQ.cons _ _ _ v vs d ds h t,e => by
  cases d with
  |bl k=>
   cases h;have e:(VL ds).map (λks=>k::ks)=b3 _:=e;cases h2:VL ds with
   |none=>rw[h2]at e;cases e
   |some ks=>
    rw[h2]at e;cases e;rw[HH t h2];rfl
  |_=>cases e
noncomputable def CI(n:Bool):List Bool->Option Nat
 |[]=>b4
 |i::ns=>if i=n then b3 0 else(CI n ns).map (· +1)
theorem II{n:Bool}:∀{ns:List Bool}{j:Nat},CI n ns=b3 j->ns[j]?=b3 n/\∀m,m<j->ns[m]? ≠b3 n
 |[],_,h=>by cases h
 | i :: ns,j,h => by
  unfold CI at h;split at h
  ·rename_i hi
   cases h;exact⟨by rw[hi];rfl,λm a=>absurd a (Nc _)⟩
  ·rename_i hi
   cases h1:CI n ns with
   |none=>rw[h1]at h;cases h
   |some k=>
    rw[h1]at h;cases h;obtain⟨h2,b⟩:=II h1;refine⟨by simpa using h2,λm a=>?_⟩;cases m with
    |zero=>simpa using hi
    |succ m=>simpa using b m (Mp a)
noncomputable def DP(n:Bool):Uq->Bool
 |.bool i=>i==n
 |_=>bb
theorem J4:∀{ns:List Bool}{a:List Uq},aY (ns.map V.bl) a->a=ns.map Gw
 |[],_,.nil=>rfl
 |i::ns,_,.cons r t=>by rw[J4 t];cases r;rfl
def GN(K:Ai):V->List V->Hp->VK->Prop:=λx vs H Q=>∃(l:Ur) (ns:List Bool) (n:Bool) (j:Nat),x=.ref l/\vs=[.bl n]/\XR K H l (ns.map V.bl)/\CI n ns=b3 j/\Q (.int j) H
def GL(K:Ai):V->List V->Hp->VK->Prop:=λx vs H Q=>∃(l:Ur) (ns:List Bool) (n:Bool),x=.ref l/\vs=[.bl n]/\XR K H l (ns.map V.bl)/\Q (.int (ns.count n:Nat)) H
def Zs{a:List Uq}{n:Bool}(r:aY [V.bl n] a):a=[.bool n]:=by
 cases r with
 |cons r t=>cases t;cases r;rfl
def hZ:MtM X "list.index" (GN X.K):=by
 intro aa s σ H x vs v C Q I p t h;obtain⟨l,ns,n,j,rfl,rfl,w,B,q⟩:=h;cases p;obtain rfl:=Zs t;obtain⟨u,r,⟨o,c,e,hc,g,k⟩,hz⟩:=I.list w;obtain⟨cls,dd,data,sl⟩:=o;simp only at hc g k;subst hc g k;have hl:=r.length;obtain rfl:=J4 r;obtain⟨h1,h2⟩:=II B;have a:j<ns.length:=(Ah.mp h1).1;have hsz:ns.length<=16777216:=by rw[Bm]at hz;rw[<-Bv];exact hz
 refine Ga Qj ⟨_,e,rfl⟩ Pf (Oo _ _) (Pg l (ns.map Gw).toArray c b4 sl (.bool n) (DP n) j (by simpa using a) (by lia) ?_ ?_) ⟨e,?_,?_⟩
 ·have : ns[j] = n := by have := Bx a;rw [h1]at this;exact (Cq this).symm
  simp[DP,this]
 ·intro m A d
  have f:m<ns.length:=by simpa using A
  have:=h2 m d
  rw[Bx f]at this;simp only[List.getElem_toArray,List.getElem_map,DP];exact beq_eq_false_iff_ne.mpr λz=>this (by rw[z])
 ·intro y b
  have b:y∈ns.map Gw:=by simpa using b
  obtain⟨i,_,rfl⟩:=Cv.mp b;exact Nu i n
 ·exact⟨.int j,H,I.tok _,⟨_,rfl⟩,q⟩
def lO:MtM X "list.count" (GL X.K):=by
 intro aa s σ H x vs v p Q I f g h;obtain⟨l,ns,n,rfl,rfl,m,q⟩:=h;cases f;obtain rfl:=Zs g;obtain⟨k,r,⟨o,c,e,hc,b,d⟩,hz⟩:=I.list m;obtain⟨cls,dd,data,sl⟩:=o;simp only at hc b d;subst hc b d;obtain rfl:=J4 r;refine Ga F.slot_list_count ⟨_,e,rfl⟩ F.entry_list_count (F.args_list_count_2 _ _) (SeqAt.list_countAt l (ns.map Gw).toArray c b4 sl (.bool n) (DP n)) ⟨e,?_,?_⟩
 ·intro y a
  have a:y∈ns.map Gw:=by simpa using a
  obtain⟨i,_,rfl⟩:=Cv.mp a;exact Nu i n
 ·have j:(ns.map Gw).toArray.toList.countP (DP n)=ns.count n:=by rw[List.toList_toArray,List.countP_map];rfl
  refine⟨.int (ns.count n:Nat),H,I.tok _,⟨s.toks,?_⟩,q⟩;rw[j]
def F8:cH->cH->Option cH
 |.lst ds,.bl n=>(VL ds).bind λns=>(CI n ns).map λj=>.int j
 |_,_=>b4
def F6:cH->cH->Option cH
 |.lst ds,.bl n=>(VL ds).map λns=>.int (ns.count n:Nat)
 |_,_=>b4
def dC{aj af:Pos}{name:Uv}{id:String}{r:V->List V->Hp->VK->Prop}{o:cH->cH->Option cH}(u:X.K=K)(sl:Slot "list" name id)(ty:Nw (.builtin id)=pure (.type "method_descriptor"))(mt:MtM X id r)(p:∀{x y d:cH},o x y=b3 d->∃ds n ns i,x=.lst ds/\y=.bl n/\VL ds=b3 ns/\d=.int i/\∀(H:Hp) (l:Ur) (Q:VK),XR K H l (ns.map V.bl)->Q (.int i) H->r (.ref l) [.bl n] H Q)(t:PE X a (TV K ml pa ta ia fa))(s:PE X b (TV K ml pb tb ib fb))(E:Ff a name X.env (eval a X.env)=eval a X.env:=by rfl)(D:((Dx af (Uu (b::[]) X.env)).all (λx=> !x.1)&&(Ho af (Fb [] X.env)).all (λx=>x.1.isSome)&&decide ((b::([]:List Ux)).length+([]:List Hr).length+(if([]:List Hr).isEmpty then 0 else 1)<30))=ba:=by rfl)(F:(aj.endLine==af.line)=ba:=by rfl)(f:Uu (b::[]) X.env=(bb,eval b X.env)::Uu [] X.env:=by rfl)(G:(Dx af (Uu [] X.env)).any (·.1)=bb:=by rfl)(hl:(pb || (ta&&ia))=ba:=by rfl):PE X (.Call (.Attribute a name aj) [b] [] af) (TV K ml (pa&&pb) ba ba (f2 o fa fb)):=
 (kBm (K := K) u Ge sl ty mt t (a9 s ZP f) E D F f G).imp λσ H Q q0 => by
  obtain⟨B,O,δ,d,δ2,S,q,k⟩:=q0;obtain⟨x,δ1,y,h1,h2,A⟩:=PY q;obtain⟨ds,n,ns,i,rfl,rfl,w,rfl,v⟩:=p A;refine⟨B,O,δ,_,δ1,S,h1,λJ H1 c=>?_⟩;obtain⟨l,xs,rfl,sq,_⟩:=c.rep.lstE;refine⟨.inl ⟨rfl,xs,sq⟩,B,O,δ1,_,δ2,c.sta,h2,λI H2 R2=>?_⟩;have m:=R2.rep;cases m;obtain⟨L,j,C,e,r'⟩:=(R2.live hl c.rep).lstE;cases C;have:=HH r' w
  subst this;exact v H2 l Q e (k _ H2 ⟨R2.sta,c.frm.trans R2.frm,λz=>by obtain⟨h,g⟩:=(Af _ _).mp z;exact(c.pur h).trans (R2.pur g),.int _⟩)
def rH{x y d:cH}(h:F8 x y=b3 d):∃ds n ns i,x=.lst ds/\y=.bl n/\VL ds=b3 ns/\d=.int i/\∀(H:Hp) (l:Ur) (Q:VK),XR K H l (ns.map V.bl)->Q (.int i) H->GN K (.ref l) [.bl n] H Q:=by
 unfold F8 at h;split at h
 ·rename_i ds n
  cases h1:VL ds with
  |none=>rw[h1]at h;cases h
  |some ns=>
   rw[h1,Ap]at h;cases h2:CI n ns with
   |none=>rw[h2]at h;cases h
   |some j=>
    rw[h2]at h;cases h;exact⟨ds,n,ns,j,rfl,rfl,h1,rfl,λH l Q sq q=>⟨l,ns,n,j,rfl,rfl,sq,h2,q⟩⟩
 ·cases h
def oM{x y d:cH}(h:F6 x y=b3 d):∃ds n ns i,x=.lst ds/\y=.bl n/\VL ds=b3 ns/\d=.int i/\∀(H:Hp) (l:Ur) (Q:VK),XR K H l (ns.map V.bl)->Q (.int i) H->GL K (.ref l) [.bl n] H Q:=by
 unfold F6 at h;split at h
 ·rename_i ds n
  cases h1:VL ds with
  |none=>rw[h1]at h;cases h
  |some ns=>
   rw[h1]at h;cases h;exact⟨ds,n,ns,_,rfl,rfl,h1,rfl,λH l Q sq q=>⟨l,ns,n,rfl,rfl,sq,q⟩⟩
 ·cases h
def oA(h:X.K=K:=by rfl):MtM X "list.index" (GN K):=by subst h;exact hZ
def lM(h:X.K=K:=by rfl):MtM X "list.count" (GL K):=by subst h;exact lO
def rIsx(K:Ai):RC:=λxs H Q=>∃a C b u k,xs=[.ref a,u]/\H a=b3 (.ext b)/\(∀h,b h->Vz h a C)/\XA K C/\(Sk K C).isSome=ba/\((∃D,u=.ref D/\Hn K (.ref C) (.ref D)=b3 k)∨∃n,u=.ty n/\Hn K (.ref C) (.type n)=b3 k)/\Q (.bl k) H
def lf:Z4 X (.builtin "isinstance") (rIsx X.K):=by
 intro aa s σ H xs t Q I r h;obtain⟨a,C,p,u,k,rfl,m,e,f,hc,b,q⟩:=h;obtain⟨v,c,rfl,l,g⟩:=ES r;cases l;obtain⟨o,vs,j,i,_⟩:=e _ (I.hok a _ m).1;have d:∀tk,EP X aa σ Q (.bool k) {s with toks:=tk}:=λtk=>⟨.bl k,H,I.tok tk,rfl,q⟩;rcases b with⟨D,rfl,b⟩|⟨n,rfl,b⟩
 ·cases g
  exact Fd (DR f hc) I.kIn ⟨o,j,i⟩ b (λz=>nomatch z) d
 ·cases g
  exact Fd (DR f hc) I.kIn ⟨o,j,i⟩ b (λz=>nomatch z) d
def P8(h:X.K=K:=by rfl):Z4 X (.builtin "isinstance") (rIsx K):=by subst h;exact lf
structure XI(K:Ai)(cs all:List Uv):Prop where
 own:∀c∈cs,∃C,XC K c C
 isi:∀c∈cs,∀C,Ep K Uw c=b3 (b3 (.ref C))->∀x∈all,∃D,Ep K Uw x=b3 (b3 (.ref D))/\Hn K (.ref C) (.ref D)=b3 (decide (c=x))
 val:∀c∈cs,∀C,Ep K Uw c=b3 (b3 (.ref C))->Hn K (.ref C) (.type "ValueError")=b3 ba
 pke:∀c∈cs,∀C,Ep K Uw c=b3 (b3 (.ref C))->∃D,Ep K Uw "PackError"=b3 (b3 (.ref D))/\Hn K (.ref C) (.ref D)=b3 ba
noncomputable def Vv(cs all:List Uv)(c:Uv):cH->Option cH
 |.fn x=>if c∈cs/\x∈all then b3 (.bl (decide (c=x)))else if c∈cs/\x= "PackError" then b3 (.bl ba)else b4
 |.ty n=>if c∈cs/\n= "ValueError" then b3 (.bl ba)else b4
 |_=>b4
def RV(cs all:List Uv):cH->cH->Option cH
 |.exn c,y=>Vv cs all c y
 |.exr c _ _,y=>Vv cs all c y
 |_,_=>b4
def Zq{cs all:List Uv}(F:XI K cs all){N M:Ur->Prop}{p:Uv}{C a:Ur}{m:Vb->Prop}{y d:cH}{u:V}{Q:VK}(g:Ep K Uw p=b3 (b3 (.ref C)))(j:H a=b3 (.ext m))(f:∀h,m h->Vz h a C)(n:aT K N H M u y)(h:Vv cs all p y=b3 d)(k:∀b:Bool,d=.bl b->Q (.bl b) H):rIsx K [.ref a,u] H Q:=by
 unfold Vv at h;split at h
 ·rename_i r
  cases n with
  |fn o=>
   split at h
   ·rename_i c
    cases h;obtain⟨q,e⟩:=F.own _ c.1;have:=g.symm.trans e.at_
    cases this;obtain⟨D,l,i⟩:=F.isi _ c.1 _ g _ c.2;have:=o.symm.trans l
    cases this;exact⟨_,_,_,_,_,rfl,j,f,e.att,e.cls,.inl ⟨_,rfl,i⟩,k _ rfl⟩
   ·split at h
    ·rename_i c
     cases h;obtain⟨c,rfl⟩:=c;obtain⟨q,e⟩:=F.own _ c;have:=g.symm.trans e.at_
     cases this;obtain⟨D,l,i⟩:=F.pke _ c _ g;have:=o.symm.trans l
     cases this;exact⟨_,_,_,_,_,rfl,j,f,e.att,e.cls,.inl ⟨_,rfl,i⟩,k _ rfl⟩
    ·cases h
 ·rename_i s
  cases n;split at h
  ·rename_i c
   cases h;obtain⟨c,rfl⟩:=c;obtain⟨q,e⟩:=F.own _ c;have:=g.symm.trans e.at_
   cases this;exact⟨_,_,_,_,_,rfl,j,f,e.att,e.cls,.inr ⟨_,rfl,F.val _ c _ g⟩,k _ rfl⟩
  ·cases h
 ·cases h
def VO{cs all:List Uv}(F:XI K cs all):JW K (rIsx K) (RV cs all):=by
 intro H N N' M M' x y d e c Q j i h k;unfold RV at h;split at h
 ·cases j with
  |exn f g a=>exact Zq F f g a i h λb e=>k (.bl b) λ_ _ _=>by rw[e];exact .bl b
 ·cases j with
  |exr f g a _ _=>exact Zq F f g (λh z=>by obtain⟨o,vs,n,m,l,_⟩:=a h z;exact⟨o,vs,n,m,l⟩) i h λb e=>k (.bl b) λ_ _ _=>by rw[e];exact .bl b
 ·cases h
noncomputable def F9(cs:List Uv)(nm:Uv):cH->Option cH
 |.exr x n d=>if x∈cs/\n=nm then b3 d else b4
 |_=>b4
def jx{v:V}{u:Uq}(h:aV v u):W.handedIn u=ba:=by
 cases v<;>first|(cases h;rfl)|(obtain⟨_,h⟩:=h;cases h;rfl)
def kl{cs:List Uv}{nm:Uv}(E:X.K=K)(G:∀x∈cs,∀C,Ep K Uw x=b3 (b3 (.ref C))->∃Cp,XG K C Cp nm/\XA K C)(D:PE X a (TV K ml pa ta ia fa))(A:Ff a nm X.env (eval a X.env)=eval a X.env:=by rfl):PE X (.Attribute a nm pos) (TV K ml pa ia ia (f1 (F9 cs nm) fa)):=by
 subst E;intro aa s σ H Q I h;obtain⟨B,O,δ,d,δ',S,q,k⟩:=h;obtain⟨x,h1,h2⟩:=PX q;unfold F9 at h2;split at h2
 ·rename_i j n y
  split at h2
  ·rename_i hc
   cases h2;obtain⟨hc,rfl⟩:=hc;refine oJ A (Ax (D aa s σ H (λv H1=>∃B O δ',Res X.K ml B O H σ pa ta ia H1 δ' v (.exr j n d)/\∀v H',Res X.K ml B O H σ pa ia ia H' δ' v d->Q v H') I ⟨B,O,δ,_,δ',S,h1,λv H1 R=>⟨B,O,δ',R,k⟩⟩) (λu s1 t=>?_) λ_ _ z=>z);obtain⟨v,H1,c,l,B,O,δ',R,k⟩:=t;have r:=R.rep;cases r with
   |exr w F e J m=>
    cases l;obtain⟨Cp,g,i⟩:=G _ hc _ w;obtain⟨o,vs,T,P,N,M⟩:=e _ (c.hok _ _ F).1;obtain⟨p,ns,b⟩:=(c.hok _ _ J);have b:=b n;have L:∀y:V,Hs n [(n,y)]=b3 y:=λy=>by unfold Hs;rw[beq_self_eq_true]
    rw[L]at b;cases f:p n with
    |none=>rw[f]at b;cases b
    |some u=>
     rw[f]at b;have b:aV _ u:=b;exact nK c.kIn T P N M ns f (jx b) g i ⟨_,H1,c.tok _,b,k _ H1 ⟨R.sta,R.frm,R.pur,m.mono (λ_ z=>z) Xf⟩⟩
  ·cases h2
 ·cases h2
def qL{b:TE}{t:TA}(j:PE X fx b)(n:PA X (e::es) t)(hc:eval (.Call fx (e::es) [] pos) X.env=(do Pl pos (<-eval fx X.env) [] (Dx pos (Uu (e::es) X.env)) (Ho pos (Fb [] X.env))):=by rfl)
  (l:Uu (e::es) X.env=(bb,eval e X.env)::Uu es X.env:=by rfl) (a:(Dx pos (Uu es X.env)).any (·.1)=bb:=by rfl):
  PE X (.Call fx (e::es) [] pos) (mI X b t):=by
 intro aa s σ H Q I h;rw[hc];refine Aa (Y3 (j aa s σ H _ I h) λu s1 ⟨x,H1,o,d,f,sp,ex,F,q⟩=>?_);subst ex;obtain rfl:u=Ay f:=d;obtain⟨k,fd,qs,F,g,i,m⟩:=F;refine Lb (h₀:=X.base) I.ok.mod.kin i (Y3 (n pos aa s1 σ H1 _ o q) λp s2 ⟨vs,H2,c,r,q2⟩=>⟨c.kIn,eD (dvs:=[]) (ds:=[]) F g m .nil Xp c r ?_⟩) l a;rwa[Dk]
def RL(n:Nat)(mF:List Nat)(tb:List (Uv×aX))(fe:VF)(fs:ML):VF:=λδ=>match fe δ with
 |some (.fn x,δ1)=>(QO tb x).bind λF=>bZ n mF F fs δ1
 |_=>b4
def fR{n:Nat}{mF:List Nat}{tb:List (Uv×aX)}{fs:ML}(l:Vw X K mF n tb)(m:PE X fx (TV K ml pf ft fi fe))(p:PA X (e::es) (BD K ml ps fs))(hc:eval (.Call fx (e::es) [] pos) X.env=(do Pl pos (<-eval fx X.env) [] (Dx pos (Uu (e::es) X.env)) (Ho pos (Fb [] X.env))):=by rfl)
  (o:Uu (e::es) X.env=(bb,eval e X.env)::Uu es X.env:=by rfl) (b:(Dx pos (Uu es X.env)).any (·.1)=bb:=by rfl):
  PE X (.Call fx (e::es) [] pos) (TV K ml bb ba ba (RL n mF tb fe fs)):=(qL m p hc o b).imp λσ H Q h=>by
 obtain⟨B,O,δ,d,δ',S,q,k⟩:=h;unfold RL at q;split at q
 ·rename_i x δ1 j
  cases c:QO tb x with
  |none=>rw[c]at q;cases q
  |some F=>
   rw[c]at q;refine⟨B,O,δ,_,δ1,S,j,λv H1 f=>?_⟩;have r:=f.rep;cases r with
   |fn h=>
    refine⟨_,_,rfl,l x F _ c h,?_⟩;obtain⟨B',t,δ2,as,a,s,i,k'⟩:=G2 (F:=F) (fs:=fs) (K:=K) (ml:=ml) (ps:=ps) (n:=n) (mF:=mF) (σ:=σ) (H:=H1) (Q:=Q) ⟨B,O,δ1,d,δ',f.sta,q,λv H' g=>k v H' ⟨g.sta,f.frm.trans g.frm,(λz=>nomatch z),g.rep⟩⟩;exact⟨B',t,δ2,as,a,s,i,λvs H' R=>by have z:spV K mF n F (vs++[]) H' Q E0:=k' vs H' R;rwa[Dk]at z⟩
 ·cases q
noncomputable def R7:List (Uv×(List cH->Option Xw))->Uv->Option (List cH->Option Xw)
 |[],_=>b4
 |(y,F)::r,x=>if y=x then b3 F else R7 r x
def TabX(X:Cx)(K:Ai)(n:Nat)(tb:List (Uv×(List cH->Option Xw))):Prop:=∀x F a,R7 tb x=b3 F->Ep K Uw x=b3 (b3 (.ref a))->
 ∃(k:Nat) (fd:Cj) (qs:List Uv),W0 X.prog X.w X.K X.mg X.base (G6 X.prog X.w) k a fd qs (spX K n F)/\YU k X.A/\Jm X.K (.ref a)=ba/\SS X.K fd qs []
def ny{n:Nat}:TabX X K n []:=λ_ _ _ h=>nomatch h
def UU{x:Uv}{kk j:Nat}{qs:List Uv}{F:List cH->Option Xw}{h:Ur}{tb:List (Uv×(List cH->Option Xw))}(g:X.K=K)(d:∀x a,Ep K Uw x=b3 (b3 (.ref a))->X.mg x=b3 (.ref a))(c:YU j X.A)
  (D:JH X.prog X.w K X.mg X.base x kk qs F h) (f:kk<=j) (t:TabX X K qs.length tb):TabX X K qs.length ((x,F)::tb):=λy G a h1 h2=>by
 unfold R7 at h1;split at h1
 ·rename_i b
  subst b;cases h1;have e:=(d x a h2).symm.trans D.at_;cases e;subst g;obtain⟨fd,F,i⟩:=D.ok;exact⟨kk,fd,qs,F,c.mono f,D.kp,i⟩
 ·exact t y G a h1 h2
def NV(n:Nat)(tb:List (Uv×(List cH->Option Xw)))(fe:VF)(fs:ML):VZ:=λδ=>match fe δ with
 |some (.fn x,δ1)=>(R7 tb x).bind λF=>YT n F fs δ1
 |_=>b4
def qC{n:Nat}{tb:List (Uv×(List cH->Option Xw))}{fs:ML}(hz:RzF X R)(L:X.K=K)(hex:X.ex=[])(y:TabX X K n tb)(D:PE X fx (TV K ml pf ft fi fe))(J:PA X (e::es) (BD K ml ps fs))(hc:eval (.Call fx (e::es) [] pos) X.env=(do Pl pos (<-eval fx X.env) [] (Dx pos (Uu (e::es) X.env)) (Ho pos (Fb [] X.env))):=by rfl)
  (G:Uu (e::es) X.env=(bb,eval e X.env)::Uu es X.env:=by rfl) (g:(Dx pos (Uu es X.env)).any (·.1)=bb:=by rfl):
  PE X (.Call fx (e::es) [] pos) (ZE R K ml (NV n tb fe fs)):=by
 intro aa s σ H Q I h;obtain⟨B,O,δ,p,δ',S,q,k⟩:=h;unfold NV at q;split at q
 ·rename_i x δ1 w
  cases j:R7 tb x with
  |none=>rw[j]at q;cases q
  |some T=>
   rw[j,Ap]at q;rw[hc];refine Aa (Y3 (D aa s σ H (λv H1=>∃a,v=.ref a/\Ep K Uw x=b3 (b3 (.ref a))/\aP K ml B O H1 σ δ1) I ⟨B,O,δ,_,δ1,S,w,λv H1 o=>?_⟩) λu s1 b=>?_)
   ·have r:=o.rep
    cases r with
    |fn h=>exact⟨_,rfl,h,o.sta⟩
   ·obtain⟨v,H1,V,t,a,rfl,C,U⟩:=b
    obtain rfl:u=Ay a:=t;obtain⟨kk,fd,qs,F,z,i,f⟩:=y x T a j C;refine Lb (h₀:=X.base) I.ok.mod.kin i (Y3 (J pos aa s1 σ H1 _ V (A5 (ps:=ps) (Q:=Q) hz L hex ⟨B,O,δ1,p,δ',U,q,k⟩)) λd s2 b=>?_) G g;obtain⟨vs,H2,c,l,E,M,m⟩:=b;have hl:d.length=qs.length:=by rw[<-l.length];exact F.len _ _ _ _ m
    have f:=f s2 d c.kIn (by simpa using hl);rw[Dk]at f;refine⟨c.kIn,Hv (Hw (F.run X.A X.stack s2 H2 ⟨d,[]⟩ d vs Q E z c.env0 f l m) λr s' b=>?_)⟩;cases r with
    |error P=>exact M aa s2 P s' c b
    |ok N=>cases N with
     |ret u=>exact c.after b
     |next=>cases b
     |brk=>cases b
     |cont=>cases b
 ·cases q
end
end L2
namespace L2
open PySem PySem.Spec PyProof.Rows PySem.W
def B8{K:Vj}{h:Vb}{N:Ur}{m:Uv->Option Uq}{n:Uv}{v:Uq}(X:K.In h)(G:h.Ns N m)(e:nsIn K N n=b3 (b3 v)):m n=b3 v:=by
 obtain⟨o,es,ep,a,g,_,b⟩:=G;unfold nsIn at e;split at e
 ·rename_i c d i j sl q
  have:=X _ _ q
  rw[a]at this;cases this;cases g;split at e
  ·rename_i f
   cases e;rw[<-b];unfold nsFind findBy;rw[<-Pa,f];rfl
  ·split at e<;>cases e
 ·cases e
def excI(K:Vj)(C fI:Ur):Bool:=match K.lookup C with
 |some ⟨.type "type",_,.cls cd,sl⟩=>(match cd.mro,sl.toList with
  |.ref C'::bm,[_,_,_,_,b3 (.builtin n),_]=>C'==C&&(n== "ValueError.__new__"&&(!cd.hasDel&&(tailIn K vbs bm&&(nsOkIn K cd.ns&&nsIn K cd.ns "__init__"==b3 (b3 (.ref fI))))))
  |_,_=>bb)
 |_=>bb
def o6{K:Vj}{h:Vb}{C fI:Ur}(X:K.In h)(q:excI K C fI=ba):∃bm N nm q bs hdct sn sub ab col dd k0 k1 k2 k3 k5 mN,h.get? C=b3 (Gs nm q C N bs bm hdct sn sub ab col dd k0 k1 k2 k3 k5 "ValueError.__new__")/\h.Ns N mN/\mN "__init__"=b3 (.ref fI)/\Ot h vbs bm:=by
 unfold excI at q;split at q
 ·rename_i dd cd sl i
  split at q
  ·rename_i l bm k0 k1 k2 k3 n k5 d c
   simp only[Af,beq_iff_eq,Qm]at q;obtain⟨rfl,rfl,e,g,a,b⟩:=q;obtain⟨nm,bs,mro,ns,f,j,sn,sub,ab,col,k⟩:=cd;dsimp only at d e a b;subst d e;obtain⟨sl⟩:=sl;simp only at c;subst c;have G:=Heap.Ns.of_isNs (isNs_of_in X a);exact⟨bm,ns,nm,f,bs,j,sn,sub,ab,col,dd,k0,k1,k2,k3,k5,_,X _ _ i,G,B8 X G b,tail_of_in X g⟩
  ·cases q
 ·cases q
structure XZ(K:Vj)(x nm:Uv)(C:Ur):Prop where
 xc:XC K x C
 mak:∃Cp fI qual st txt fd,nsIn K Uw "PackError"=b3 (b3 (.ref Cp))/\excI K C fI=ba/\typeIn K (.ref fI)=b3 (.type "function")/\G9 K qual st nm txt fI fd/\XG K C Cp nm/\XH K Cp
noncomputable def U8(x nm:Uv)(fs:ML):VZ:=λδ=>(fs δ).bind λp=>match p.1 with
 |[.d d]=>b3 ((x,b3 (nm,d)),p.2)
 |_=>b4
section
variable{X:Cx}{K:Vj}{ml:List Nat}{R:Uv->Option Ur->St->Hp->Prop}{pos:Pos}
def NT{x nm:Uv}{T af:Pos}{e:Ux}{ps:Bool}{fs:ML}{j:Nat}(hK:X.K=K)(hz:RzP X R)(hc:X.calm=ba)(V:YU j X.A)(Z:Gl X x)(U:∃C,XZ K x nm C/\X.mg x=b3 (.ref C))(Y:∀C,nsIn K Uw "PackError"=b3 (b3 (.ref C))->X.mg "PackError"=b3 (.ref C))(ha:PA X [e] (BD K ml ps fs))(l:(x==("__debug__":Uv))=bb:=by decide)(he:Uu [e] X.env=[(bb,eval e X.env)]:=by rfl):PS X (.Raise (b3 (.Call (.Name x T) [e] [] af)) b4 pos) (ZS R K ml (U8 x nm fs)):=by
 intro aa s σ H D I h;obtain⟨B,O,δ,x',δ',S,q,k⟩:=h;subst hK;unfold U8 at q;cases h1:fs δ with
 |none=>rw[h1]at q;cases q
 |some p=>
  obtain⟨as,δ1⟩:=p;rw[h1,Ap]at q;dsimp only at q;split at q
  ·rename_i d
   cases q;obtain⟨C,w,i⟩:=U;obtain⟨Cp,fI,qual,st,txt,fd,m,hE,hf,hI,hG,hH⟩:=w.mak;obtain⟨bm,N,g,q,bs,hdct,sn,sub,ab,col,dd,k0,k1,k2,k3,k5,mN,Q,P,L,n⟩:=o6 I.ok.mod.kin hE;have f:Dx af (Uu [e] X.env)=[(bb,eval e X.env)]:=by rw[he];rfl
   refine nA (C:=C) (cn:=g) (q:=q) (N:=N) (bs:=bs) (bm:=bm) (hdct:=hdct) (sn:=sn) (sub:=sub) (ab:=ab) (col:=col) (dd:=dd) (k0:=k0) (k1:=k1) (k2:=k2) (k3:=k3) (k5:=k5) (mN:=mN) (mg:=X.mg) (Cp:=Cp) (fI:=fI) (K:=X.K) (nm:=nm) (qual:=qual) (st:=st) (txt:=txt) (fd:=fd) (n.hasType (by decide)) (I.ok.hd hc) (by have:=V.dp;lia) (by rw[f];rfl) (T1 I Z i ⟨rfl,?_⟩ l);rw[f];refine Em ?_;rw[<-f];refine Ax (ha af aa s σ H (λvs H'=>aP X.K ml B O H' σ δ'/\UE X.K (Nn B O) H' σ vs [.d d]) I ⟨B,O,δ,_,δ',S,h1,λvs H' G=>⟨G.sta,G.rep⟩⟩) (λy s2 W=>?_) λ_ _ z=>z;obtain⟨vs,H2,c,E,S2,J⟩:=W;cases J with
   |d r t=>
    cases t;obtain⟨u,rfl,F⟩:∃u,y=[u]/\aV _ u:=by
     cases E with
     |cons a b=>cases b;exact⟨_,rfl,a⟩
    have kp:∀b o,X.base.get? b=b3 o->s2.heap.get? b=b3 o:=c.bk;refine⟨u,rfl,c.kIn,c.nolimit,c.mod.glob.keeps kp,Y Cp m,kp _ _ Q,P.keeps kp,L,hf,n.keeps kp,hI,hG,hH,λh' a tk M=>hz aa x nm C a _ u σ H2 s2.heap _ w.xc (c.tok tk) M F λD v=>?_⟩;exact k σ _ O (b3 D) (S2.same (b7 v)) ⟨_,bU,r.same (b7 v)⟩
  ·cases q
end
end L2
namespace L2
open PySem PySem.Spec PyProof.Rows
def oU(l b:Ur)(u v:Array Uq)(n m:Nat)(sl:Array (Option Uq))(e:¬(!u.isEmpty&&Fz (u.size+v.size))=ba)(h1:u.size<=sizeLine)(h2:(u++v).size<=sizeLine+1):Meets (Fa.«list.extend» ⟨[.ref l,.ref b],[]⟩) (λ_ R s=>s.heap.get? l=b3 ⟨.type "list",b4,.seq u n,#[]⟩/\s.heap.get? b=b3 ⟨.type "list",b4,.seq v m,sl⟩/\R (.ok (.ret .none)) {s with heap:=s.heap.update l (Hb λx=>x++v)}):=
 .of_wp λprog w A R s h=>by
  obtain⟨c,g,d,tk,os⟩:=s;obtain⟨hl,a,h⟩:=h;have f1:=Mm;have f2:=AutoSeq1.sub_tuple_tuple;have f3:=AutoSeq1.sub_list_list;have i:=AutoSeq1.sub_tuple_list;have f:=AutoSeq1.sub_list_tuple;wp_walk using(wpAny_updateSeq hl rfl (hz:=h1) (_hz':=h2)),Dg hl,Dg a
  exact⟨_,rfl,h⟩
def Wm(K:Ai):V->List V->Hp->VK->Prop:=λx vs H Q=>∃l b xs zs,x=.ref l/\vs=[.ref b]/\H l=b3 (.lst xs)/\XR K H b zs/\xs.length+zs.length<=sizeLine/\Q .non (upd H l (.lst (xs++zs)))
def mm{X:Cx}:MtM X "list.extend" (Wm X.K):=by
 intro aa s σ H x vs v y Q I j k h;obtain⟨l,b,xs,zs,rfl,rfl,g,t,hz,q⟩:=h;cases j;obtain⟨u,rfl,m⟩:=k.one;cases m;obtain⟨z,a,n,r,hl,e⟩:=I.lstM g;obtain⟨c,d,⟨⟨cls,dd,data,sl⟩,o,w,hc,f,i⟩,_⟩:=I.list t;simp only at hc f i;subst hc f i;have p:=d.length;have hsz:a.toArray.size+c.toArray.size<=sizeLine:=by rw[Am,Am];lia
 refine Ga F.slot_list_extend ⟨_,e,rfl⟩ F.entry_list_extend (F.args_list_extend_2 _ _) (oU l b a.toArray c.toArray n o sl (by rw[qv hsz,Oe];exact Ch) (by rw[Am];lia) (by rw[Ql];lia)) ⟨e,w,?_⟩
 refine⟨.non,_,I.lset (its':=a++c) g e (by simp) (r.append d) ?_,rfl,q⟩;rw[Cc];lia
def Wl{X:Cx}{K:Ai}(h:X.K=K):MtM X "list.extend" (Wm K):=by subst h;exact mm
noncomputable def mExt:List cH->List cH->Option (List cH)
 |ds,[.lst es]=>if ds.length+es.length<=16777216 then b3 (ds++es)else b4
 |_,_=>b4
def BX{K:Ai}:MuV K (Wm K) mExt:=by
 intro H N l xs vs ds es f Q hl g a c h k;cases c with
 |nil=>cases h
 | @cons v vs d es e t=>
  cases t with
  |cons _ _=>cases d<;>cases h
  |nil=>
   cases d with
   |lst es=>
    simp only[mExt]at h;split at h
    ·rename_i hz
     cases h;obtain⟨b,zs,rfl,sq,r⟩:=e.lstE;exact⟨l,b,xs,zs,rfl,rfl,hl,sq,by rw[a.length,r.length,Bv];exact hz,k _ _ (a.append r)⟩
    ·cases h
   |_=>cases h
def JN:Bo "ValueError"=b3 (.type "ValueError"):=by decide+kernel
def XT.mark{k:Nat}{A:Bz}(r:XT k A)(h:Option Uq):XT k (A.mark h):=⟨r.dp,r.un⟩
noncomputable def xiOk(K:Ai)(cs all:List Uv):Bool:=cs.all λc=>match Ep K Uw c with
 |some (b3 (.ref C))=>all.all (λx=>match Ep K Uw x with
  |some (b3 (.ref D))=>Hn K (.ref C) (.ref D)==b3 (decide (c=x))
  |_=>bb)&&(Hn K (.ref C) (.type "ValueError")==b3 ba&&match Ep K Uw "PackError" with
  |some (b3 (.ref D))=>Hn K (.ref C) (.ref D)==b3 ba
  |_=>bb)
 |_=>bb
def XI.of{K:Ai}{cs all:List Uv}(own:∀c∈cs,∃C,XC K c C)(h:xiOk K cs all=ba):XI K cs all:=by
 have key:∀c∈cs,∀C,Ep K Uw c=b3 (b3 (.ref C))->(∀x∈all,∃D,Ep K Uw x=b3 (b3 (.ref D))/\Hn K (.ref C) (.ref D)=b3 (decide (c=x)))/\Hn K (.ref C) (.type "ValueError")=b3 ba/\∃D,Ep K Uw "PackError"=b3 (b3 (.ref D))/\Hn K (.ref C) (.ref D)=b3 ba:=by
  intro c hc C a;have:=Fc.mp h c hc
  rw[a]at this;simp only[Af,beq_iff_eq]at this;refine⟨λx d=>?_,this.2.1,?_⟩;rotate_left
  ·have h2:=this.2.2
   split at h2
   ·rename_i D b
    exact⟨D,b,beq_iff_eq.mp h2⟩
   ·cases h2
  have h2:=Fc.mp this.1 x d;split at h2
  ·rename_i D b
   exact⟨D,b,beq_iff_eq.mp h2⟩
  ·cases h2
 exact⟨own,λc hc C a=>(key c hc C a).1,λc hc C a=>(key c hc C a).2.1,λc hc C a=>(key c hc C a).2.2⟩
noncomputable def xqOk(K:Ai)(cs:List Uv)(y:Uv)(a:Ur):Bool:=W.typeIn K (.ref a)==b3 (.type "type")&&((Sk K a).isSome&&(Qk K (.ref a) (.type "BaseException")==b3 ba&&cs.all λc=>match Ep K Uw c with
 |some (b3 (.ref C))=>Qk K (.ref C) (.ref a)==b3 (decide (c=y))
 |_=>bb))
def XQ.of{K:Ai}{cs:List Uv}{y:Uv}{a:Ur}(h:xqOk K cs y a=ba):∀x∈cs,∀C,Ep K Uw x=b3 (b3 (.ref C))->XQ K C a (decide (x=y)):=by intro x b C c;unfold xqOk at h;simp only[Af,beq_iff_eq]at h;have h2:=Fc.mp h.2.2.2 x b;rw[c]at h2;exact⟨h.1,h.2.1,h.2.2.1,beq_iff_eq.mp h2⟩
def jo{K:Ai}{mg:Uv->Option Uq}{x nm:Uv}(h:∃C,XZ K x nm C/\mg x=b3 (.ref C)):∀y∈[x],∀C,Ep K Uw y=b3 (b3 (.ref C))->∃Cp,XG K C Cp nm/\XA K C:=by
 intro y a C b;obtain⟨d,hz,_⟩:=h;cases Aw.mp a;have:=b.symm.trans hz.xc.at_
 cases this;obtain⟨Cp,_,_,_,_,_,_,_,_,_,c,_⟩:=hz.mak;exact⟨Cp,c,hz.xc.att⟩
def okZ(P:Av)(w:Uy)(K:Ai)(mg:Uv->Option Uq)(base:Vb){x qual:Uv}{st:Vd}{f:Ur}{fd:Cj}(N ps:List Uv)(k:Nat)(z:VZ)(F:QP K x qual st f fd)(S:Z7 N ps (b5 st))(d:∀(a:Uq) (A:Bz) (outer:List Env) (s:Ae) (H:Hp) (E:XK) (b:YU k (A.deeper (envOfC qual (b5 st) s.heap.objs.size f a))) (_:(A.deeper (envOfC qual (b5 st) s.heap.objs.size f a)).units+64<cLine) (_:(A.deeper (envOfC qual (b5 st) s.heap.objs.size f a)).units+1<cLine),WP (RJ (G6 P w) P w K mg base N qual (b5 st) f a A outer s H E) (Z1 st) (ZS (rE K E) K [] z))(c:ps.length<=N.length:=by decide):W0 P w K mg base (G6 P w) (k+1) f fd ps (spX K ps.length (VN N.length z)):=
 QP.okX F S c λa A outer s H E b=>d a A outer s H E b b.units (Zz b)
def okWH(P:Av)(w:Uy)(K:Ai)(mg:Uv->Option Uq)(base:Vb){x qual:Uv}{st:Vd}{f:Ur}{fd:Cj}(N ps:List Uv)(k:Nat)(g:VS)(ml:List Nat)(F:QP K x qual st f fd)(S:Z7 N ps (b5 st))(d:∀(a:Uq) (A:Bz) (outer:List Env) (s:Ae) (H:Hp) (b:XT k (A.deeper (envOfC qual (b5 st) s.heap.objs.size f a))) (_:(A.deeper (envOfC qual (b5 st) s.heap.objs.size f a)).units+64<cLine) (_:(A.deeper (envOfC qual (b5 st) s.heap.objs.size f a)).units+1<cLine),WP (cxH P w K mg base N qual (b5 st) f a A outer s H) (Z1 st) (WG K ml g))(c:ps.length<=N.length:=by decide):FnH P w K mg base (k+1) f fd ps (spV K ml ps.length (aC N.length ml g)):=
 QP.okVH F S c λa A outer s H b=>d a A outer s H b b.units b.unit
def U0{α:Type}(k:Nat)(xs:List α):List α:=(Az k xs).flatten
def LB{α:Type}(k:Nat)(xs:List α):(U0 k xs).length=xs.length*k:=by
 unfold U0;induction k with
 |zero=>simp
 |succ k a=>rw[Ed,Gb,Cc,a,Nat.mul_succ,Qu]
def aY.repV{xs:List V}{a:List Uq}(r:aY xs a)(k:Nat):aY (U0 k xs) (U0 k a):=by
 unfold U0;induction k with
 |zero=>exact .nil
 |succ k b=>rw[Ed,Ed,Gb,Gb];exact r.append b
def bQ.rep{K:Ai}{N:Ur->Prop}{H:Hp}{xs:List V}{ds:List cH}(r:bQ K N H xs ds)(k:Nat):bQ K N H (U0 k xs) (U0 k ds):=by
 unfold U0;induction k with
 |zero=>exact .nil
 |succ k a=>rw[Ed,Ed,Gb,Gb];exact r.append a
def NL:fillsNumberSlot (.type "tuple") "mul"=pure bb:=
 PySem.fillsNumberSlot_seq (id:= "tuple.__mul__") (r:=b3 (.builtin "tuple.__rmul__")) F.slot_tuple_mul.lookup (by decide+kernel) F.slot_tuple_rmul.lookup (by decide+kernel)
def GQ:seqRepeat? (.type "tuple")=pure (b3 (.builtin "tuple.__mul__")):=by unfold seqRepeat?;rw[Rn (T:= "tuple") (name:= "__mul__") (id:= "tuple.__mul__") F.slot_tuple_mul.lookup (by decide+kernel),Rn (T:= "tuple") (name:= "__rmul__") (id:= "tuple.__rmul__") F.slot_tuple_rmul.lookup (by decide+kernel)];rfl
def CQ(a:Int)(t:Vm)(l:Ur)(u:Array Uq)(n:Nat)(dd:Option Ur)(sl:Array (Option Uq)):Meets (Fa.«int.__rmul__» ⟨[.int a t,.ref l],[]⟩) (λ_ R s=>s.heap.get? l=b3 ⟨.type "tuple",dd,.seq u n,sl⟩/\R (.ok (.ret Value.notImplemented)) s):=
 .of_wp λprog w A R s h=>by obtain⟨b,g,d,tk,os⟩:=s;obtain⟨hl,h⟩:=h;wp_walk;exact⟨_,rfl,h⟩
def BY(l:Ur)(t:Vm)(u:Array Uq)(n:Nat)(dd:Option Ur)(sl:Array (Option Uq)):Meets (Fa.«tuple.__mul__» ⟨[.ref l,.int 1 t],[]⟩) (λ_ R s=>s.heap.get? l=b3 ⟨.type "tuple",dd,.seq u n,sl⟩/\R (.ok (.ret (.ref l))) s):=
 .of_wp λprog w A R s h=>by
  obtain⟨a,g,d,tk,os⟩:=s;obtain⟨hl,h⟩:=h;have f1:=Mm;unfold Fa.«tuple.__mul__»;wp_walk using Dg hl
  exact⟨_,rfl,h⟩
def BZ(l:Ur)(x:Int)(t:Vm)(u:Array Uq)(n:Nat)(dd:Option Ur)(sl:Array (Option Uq))(h1:1<x)(h2:x<2 ^ 62)(e:u.isEmpty=bb)(hz:u.size*x.toNat<=16777216):Meets (Fa.«tuple.__mul__» ⟨[.ref l,.int x t],[]⟩) (λ_ R s=>s.heap.get? l=b3 ⟨.type "tuple",dd,.seq u n,sl⟩/\R (.ok (.ret (.ref s.heap.objs.size))) {s with heap:=s.heap.push {cls:=.type "tuple",data:=.seq ((Az x.toNat u).foldl (· ++ ·) #[])}}):=
 .of_wp λprog w A R s h=>by
  obtain⟨o,g,d,tk,os⟩:=s;obtain⟨hl,h⟩:=h;have f1:=Mm;unfold Fa.«tuple.__mul__»;have m:(decide (x< -2 ^ 63) || decide (x≥2 ^ 63))=bb:=by simp;lia
  have k:(x==1)=bb:=by simp;lia
  have j:decide (x<=0)=bb:=by simp;lia
  have a:(u.size:Int)*x=((u.size*x.toNat:Nat):Int):=by rw[Int.natCast_mul,Int.toNat_of_nonneg (by lia)]
  have i:¬((u.size:Int)*x>(2 ^ 63-1)/8):=by rw[a];lia
  have f:Kz ((u.size:Int)*x)=bb:=by rw[a];unfold Kz;simp only[Bv,decide_eq_false_iff_not];lia
  wp_walk using Dg hl
  rw[m];wp_walk using Dg hl
  simp only[e,k,j,Te];wp_walk;rw[f,if_neg i];have p:¬(List.foldl (λc b=>c++b) #[] (Az x.toNat u)).size>sizeLine:=by
   have:=LB x.toNat u.toList
   unfold U0 at this;rw[listMul_foldl,Am];show¬([]++(Az x.toNat u.toList).flatten).length>sizeLine;rw[Fk,this,Eb,Bv];lia
  wp_walk;exact⟨_,rfl,h⟩
section
variable{X:Cx}{K:Ai}
def Yn(K:Ai):R2:=λx y H Q=>∃l xs k,x=.ref l/\y=.int k/\XR K H l xs/\(0<=k/\k<2 ^ 62)/\xs.length*k.toNat<=16777216/\∀p,H p=b4->Q (.ref p) (upd H p (.lst (U0 k.toNat xs)))
def zHZ:WM X (Fo .Mult) (Yn X.K):=by
 intro aa s σ H x y v u Q I i g h;obtain⟨l,xs,x,rfl,rfl,j,⟨m,k⟩,hz,q⟩:=h;cases i;obtain⟨t,rfl⟩:=g;obtain⟨a,r,⟨⟨cls,dd,data,sl⟩,n,c,hc,d,f⟩,_⟩:=I.list j;simp only at hc d f;subst hc d f;have hl:=r.length;have hsz:a.toArray.size*x.toNat<=16777216:=by rw[Am,<-hl];exact hz
 refine Li (T:= "list") (U:= "int") (by decide) ⟨_,c,rfl⟩ (λs'=>Nl s' x t) noFill_list_mul Sm Kq repeat_list F.slot_int_index.lookup
  (Ga Kq (Nl s x t) Ro (Qn _ _) (lm_int_rmul_list_any x t l a.toArray n b4 sl) ⟨c,rfl,⟨_,c,rfl⟩,?_⟩)
 refine Ga F.slot_list_mul ⟨_,c,rfl⟩ F.entry_list_mul (F.args_list_mul_2 _ _) (lm_list_mul_any l a.toArray n b4 sl x t (by simp[Builtin.List.listFitsIndex];lia) (by lia) (by simp[Fz,sizeLine];lia)) ⟨c,?_⟩;rw[listMul_foldl_if];refine⟨.ref s.heap.objs.size,_,I.laid (t':=s.toks) (o:=.lst (U0 x.toNat xs)) (λb ob e=>Ad _ e) (Ao _) ?_,rfl,q _ (I.hok.fresh (Ao _))⟩;exact⟨by rw[LB,Bv];exact hz,U0 x.toNat a,0,r.repV _,An _ rfl⟩
def dF(K:Ai):R2:=λx y H Q=>∃l xs k,x=.ref l/\y=.int k/\VE K H l xs/\xs≠[]/\(1<=k/\k<2 ^ 62)/\xs.length*k.toNat<=16777216/\(k=1->Q (.ref l) H)/\∀p,H p=b4->Q (.ref p) (upd H p (.tup (U0 k.toNat xs)))
def iP:WM X (Fo .Mult) (dF X.K):=by
 intro aa s σ H x y v u Q I k j h;obtain⟨l,xs,x,rfl,rfl,p,f,⟨z,i⟩,hz,q1,q⟩:=h;cases k;obtain⟨t,rfl⟩:=j;obtain⟨c,r,⟨⟨cls,dd,data,sl⟩,d,hc,n,g⟩,_⟩:=I.tuple p;simp only at hc g;subst hc g;have hl:=r.length;have hsz:c.toArray.size*x.toNat<=16777216:=by rw[Am,<-hl];exact hz
 have m:c.toArray.isEmpty=bb:=by
  cases c with
  |nil=>exact absurd (r.nil_iff.mp rfl) f
  |cons a b=>rfl
 refine Li (T:= "tuple") (U:= "int") (by decide) ⟨_,d,rfl⟩ (λs'=>Nl s' x t) NL Sm Kq GQ F.slot_int_index.lookup
  (Ga Kq (Nl s x t) Ro (Qn _ _) (CQ x t l c.toArray n dd sl) ⟨d,rfl,⟨_,d,rfl⟩,?_⟩)
 by_cases w:x=1
 ·subst w
  exact Ga Rp ⟨_,d,rfl⟩ Qo (Pu _ _) (BY l t c.toArray n dd sl) ⟨d,⟨.ref l,H,I,rfl,q1 rfl⟩⟩
 ·refine Ga Rp ⟨_,d,rfl⟩ Qo (Pu _ _) (BZ l x t c.toArray n dd sl (by lia) i m hsz) ⟨d,?_⟩
  rw[listMul_foldl];refine⟨.ref s.heap.objs.size,_,I.laid (t':=s.toks) (o:=.tup (U0 x.toNat xs)) (λb ob e=>Ad _ e) (Ao _) ?_,rfl,q _ (I.hok.fresh (Ao _))⟩;exact⟨by rw[LB,Bv];exact hz,U0 x.toNat c,r.repV _,Kj _ _⟩
def Zr(K:Ai):R2:=λx y H Q=>Yn K x y H Q∨dF K x y H Q
def kRep(h:X.K=K:=by rfl):WM X (Fo .Mult) (Zr K):=by subst h;exact zHZ.or iP
noncomputable def UN:cH->cH->Option cH
 |.lst ds,.int k=>if(0<=k/\k<2 ^ 62)/\ds.length*k.toNat<=16777216 then b3 (.lst (U0 k.toNat ds))else b4
 |.tup (d::ds),.int k=>if(1<=k/\k<2 ^ 62)/\(ds.length+1)*k.toNat<=16777216 then b3 (.tup (U0 k.toNat (d::ds)))else b4
 |_,_=>b4
def DF:OpC K (Zr K) UN:=by
 intro H N M M' x y d e c Q l j h k;cases d with
 |lst ds=>
  cases e with
  |int i=>
   simp only[UN]at h;split at h
   ·rename_i hz
    cases h;obtain⟨a,xs,rfl,q1,b⟩:=l.lstE;cases j;exact .inl ⟨a,xs,i,rfl,rfl,q1,hz.1,by rw[b.length];exact hz.2,λp f=>k _ _ (b7 f) λM g=>.lst bU (λz=>by obtain⟨o,q⟩:=g _ z;rw[f]at q;cases q) ((b.rep _).same (b7 f))⟩
   ·cases h
  |_=>cases h
 |tup ds=>
  cases ds with
  |nil=>cases h
  |cons d ds=>
   cases e with
   |int i=>
    simp only[UN]at h;split at h
    ·rename_i hz
     cases h;obtain⟨a,xs,rfl,q1,b⟩:=l.tupE;cases j;refine .inr ⟨a,xs,i,rfl,rfl,q1,λz=>?_,hz.1,by rw[b.length];exact hz.2,λz=>?_,λp f=>k _ _ (b7 f) λM g=>.tup (VE.of bU) ((b.rep _).same (b7 f))⟩
     ·subst z
      cases b
     ·subst z
      refine k _ _ (aN.refl _) λM g=>?_;rw[show U0 (1:Int).toNat (d::ds)=d::ds by simp[U0]];exact .tup q1 b
    ·cases h
   |_=>cases h
 |_=>cases h
end
noncomputable def litA:Ux->Option cH
 |.Constant (.int i) _ _=>b3 (.int i)
 |.Constant (.bool i) _ _=>b3 (.bl i)
 |.Constant (.str i) _ _=>b3 (.str i)
 |.Constant .none _ _=>b3 .non
 |.UnaryOp .USub (.Constant (.int i) _ _) _=>b3 (.int (-i))
 |_=>b4
noncomputable def JR(f:Ux->Option cH):List Ux->Option (List cH)
 |[]=>b3 []
 |e::es=>(f e).bind λd=>(JR f es).map λds=>d::ds
def DW:Nat->Ux->Option cH
 |0,e=>litA e
 |k+1,e=>match e with
  |.Tuple es _ _=>(JR (DW k) es).bind λds=>if ds.length<=16777216 then b3 (.tup ds)else b4
  |.List es _=>(JR (DW k) es).bind λds=>if ds.length<=16777216 then b3 (.lst ds)else b4
  |e=>litA e
section
variable{X:Cx}{K:Ai}{ml:List Nat}
def cY{e:Ux}{d:cH}(h:litA e=b3 d):PE X e (TV K ml ba ba ba (fC d)):=by
 unfold litA at h;split at h
 ·cases h;exact cD
 ·cases h;exact ZC
 ·cases h;exact bR
 ·cases h;exact Y9
 ·cases h;exact SD cD
 ·cases h
def HY{e:Ux}{es:List Ux}{d:cH}(h:litA e=b3 d):Uu (e::es) X.env=(bb,eval e X.env)::Uu es X.env:=by
 unfold litA at h;split at h<;>first
  |rfl
  |cases h
theorem F4{f:Ux->Option cH}(c:∀e d,f e=b3 d->PE X e (TV K ml ba ba ba (fC d))/\∀es,Uu (e::es) X.env=(bb,eval e X.env)::Uu es X.env):∀{es:List Ux}{ds:List cH},JR f es=b3 ds->PA X es (TAV K ml ba ba λδ=>b3 (ds,δ))
 |[],_,h=>by
  cases h;exact bW
 | e :: es,ds,h => by
  have h:((f e).bind λd=>(JR f es).map λds=>d::ds)=b3 ds:=h;cases h1:f e with
  |none=>rw[h1]at h;cases h
  |some d=>
   rw[h1]at h;have h:(JR f es).map (λds=>d::ds)=b3 ds:=h;cases h2:JR f es with
   |none=>rw[h2]at h;cases h
   |some g=>
    rw[h2]at h;cases h;obtain⟨a,b⟩:=c e d h1;exact cG a (F4 c h2) (b es)
theorem F3:∀{k:Nat}{e:Ux}{d:cH},DW k e=b3 d->PE X e (TV K ml ba ba ba (fC d))/\∀es,Uu (e::es) X.env=(bb,eval e X.env)::Uu es X.env
 |0,e,d,h=>⟨cY h,λes=>HY h⟩
 | k + 1,e,d,h => by
  have hl:∀(es:List Ux) (g:List cH->cH) (c:MC->VF),(∀fs δ,c fs δ=(fs δ).bind λp=>if p.1.length<=16777216 then b3 (g p.1,p.2)else b4)->((JR (DW k) es).bind λds=>if ds.length<=16777216 then b3 (g ds)else b4)=b3 d->∃ds,PA X es (TAV K ml ba ba λδ=>b3 (ds,δ))/\c (λδ=>b3 (ds,δ))=fC d:=by
   intro es g c f h;cases h1:JR (DW k) es with
   |none=>rw[h1]at h;cases h
   |some ds=>
    rw[h1]at h;have h:(if ds.length<=16777216 then b3 (g ds)else b4)=b3 d:=h;split at h
    ·rename_i hz
     cases h;refine⟨ds,F4 (λe d=>F3) h1,funext λδ=>?_⟩;rw[f];show(if ds.length<=16777216 then b3 (g ds,δ)else b4)=_;rw[if_pos hz];rfl
    ·cases h
  unfold DW at h;split at h
  ·rename_i es i pos
   obtain⟨ds,a,b⟩:=hl es .tup ZT (λ_ _=>rfl) h;exact⟨b▸aZ a,λ_=>rfl⟩
  ·rename_i es pos
   obtain⟨ds,a,b⟩:=hl es .lst Y8 (λ_ _=>rfl) h;exact⟨b▸iJ a,λ_=>rfl⟩
  ·exact⟨cY h,λes=>HY h⟩
def WL{k:Nat}{e:Ux}{d:cH}(h:DW k e=b3 d):PE X e (TV K ml ba ba ba (fC d)):=(F3 h).1
def UA{k:Nat}{es:List Ux}{pos:Pos}{ds:List cH}(h:JR (DW k) es=b3 ds)(hz:ds.length<=16777216):PE X (.List es pos) (TN K ml ba (fC (.lst ds))):=by
 have a:=aH (pos:=pos) (F4 (X:=X) (K:=K) (ml:=ml) (λe d=>F3 (k:=k)) h);have b:Y8 (λδ=>b3 (ds,δ))=fC (.lst ds):=funext λδ=>by show(if ds.length<=16777216 then b3 (cH.lst ds,δ)else b4)=_;rw[if_pos hz];rfl
 exact b▸a
end
section
variable{X:Cx}{K:Ai}{ml:List Nat}{e a b c:Ux}{es:List Ux}{pa ta ia pb tb ib pc tc ic pu bt bi ps bs:Bool}{fa fb fc f:VF}{B B':Bs}{O:Nat->Option Ur}{H H1 H':Hp}{σ:St}{δ δ':Ev}{v:V}{d:cH}{pos:Pos}{st:Vd}{rest:List Vd}{g g':VS}{z z':VZ}{R:Uv->Option Ur->St->Hp->Prop}
def NS{a:List Vd}:WP X a (WG K ml λ_=>b4):=λ_ _ _ _ _ _ ⟨_,_,_,_,_,q,_⟩=>nomatch q
end
section
variable{X:Cx}{K:Ai}{ml:List Nat}{e a b c l:Ux}{es:List Ux}{pa ta ia pb tb ib pc tc ic pu bt bi ps bs:Bool}{fa fb fc f:VF}{B B':Bs}{O:Nat->Option Ur}{H H1 H':Hp}{σ:St}{δ δ':Ev}{v:V}{d:cH}{p:Ur}{pos:Pos}{tg:Ux}
def jP(K:Ai):RC:=λxs H Q=>∃(p:Ur) (ns:List Int),xs=[.ref p]/\XR K H p (ns.map V.int)/\ns.length+1<4096/\∀l,H l=b4->Q (.ref l) (upd H l (.set (λk=>(Pw (λi=>ns.getD i 0) ns.length).any (· ==k)) (Pw (λi=>ns.getD i 0) ns.length).length))
def gP(hc:X.calm=ba):Z4 X (.type "set") (jP X.K):=by
 intro aa s σ H xs l Q I r h;obtain⟨p,ns,rfl,g,j,q⟩:=h;obtain⟨u,rfl,f⟩:=VR r;cases f;obtain⟨a,c,pl,hz⟩:=I.list g;have hi:PyProof.Rows.IntsAre a.toArray.toList ns:=KR c;have hl:a.length=ns.length:=by rw[<-c.length];simp
 refine PySem.call_set_list (I.ok.hd hc) pl.isList hi (by simp[hl];exact j) λh' tk d kp=>?_;simp only[Am,hl]at d;exact⟨.ref s.heap.objs.size,_,I.laid (t':=tk) (λb o e=>kp b o (Ak e) e) (Ao _) (show ZV X.prog X.w _ h' _ (.set (λk=>(Pw (λi=>ns.getD i 0) ns.length).any (· ==k)) (Pw (λi=>ns.getD i 0) ns.length).length) from d),rfl,q _ (I.hok.fresh (Ao _))⟩
def jt:Z4 X (.builtin "len") (λxs H Q=>∃p S n,xs=[.ref p]/\H p=b3 (.set S n)/\Q (.int (n:Nat)) H):=by
 intro aa s σ H xs i Q I r h;obtain⟨p,S,n,rfl,b,q⟩:=h;obtain⟨u,rfl,a⟩:=VR r;cases a;obtain⟨o,es,ep,t,g,f,e,k,j,d,c,rfl⟩:=I.hok p _ b;refine PySem.call_len_set g f e c ?_ ⟨.int es.size,H,I.tok _,⟨_,rfl⟩,q⟩;have:es.size<4096:=d
 lia
def Zo:cH->Option cH
 |.lst ds=>(WS ds).bind λns=>if ns.length+1<4096 then b3 (.int (Pw (λi=>ns.getD i 0) ns.length).length)else b4
 |_=>b4
def jl{p' b bh:Pos}(o:X.mg "len"=b4)(f:X.mg "set"=b4)(s:PE X a (TV K ml pa ta ba fa))(hc:X.calm=ba:=by rfl)(t:X.K=K:=by rfl)(p:Gl X "len":=by rfl)(g:Gl X "set":=by rfl)(m:SE X a []:=by rfl)(c:Uu (Expr.Call (.Name "set" b) [a] [] bh::[]) X.env=(bb,eval (Expr.Call (.Name "set" b) [a] [] bh) X.env)::Uu [] X.env:=by rfl):PE X (.Call (.Name "len" p') [.Call (.Name "set" b) [a] [] bh] [] pos) (TV K ml pa ba ba (f1 Zo fa)):=by
 subst t;refine(OW jt p o BI (a9 (V1 (gP hc) g f (by decide+kernel) (a9 s ZP m) (by decide) (by decide) m) ZP c) (by decide) (by decide) c).imp λσ H Q h=>?_;obtain⟨B,O,δ,d,δ',S,q,k⟩:=h;obtain⟨x,h1,h2⟩:=PX q;refine⟨B,O,δ,x,δ',S,h1,λv H1 e=>?_⟩;cases x with
 |lst ds=>
  have h2:((WS ds).bind λns=>if ns.length+1<4096 then b3 (cH.int (Pw (λi=>ns.getD i 0) ns.length).length)else b4)=b3 d:=h2;cases j:WS ds with
  |none=>rw[j]at h2;cases h2
  |some ns=>
   rw[j,Ap]at h2;split at h2
   ·rename_i n
    cases h2;obtain⟨a,xs,rfl,sq,r⟩:=e.rep.lstE;have u:=UJ r j;subst u;refine⟨a,ns,rfl,sq,n,λl hl=>⟨l,_,_,rfl,bU,k _ _ ⟨e.sta.same (b7 hl),e.frm.trans (b7 hl).fr,λz=>(e.pur z).trans (b7 hl),.int _⟩⟩⟩
   ·cases h2
 |_=>cases h2
end
end L2
namespace L2
open PySem
section
variable{α β:Type}{d x y z c:cH}{δ δ1 δ':Ev}{fa fb fc:VF}{o o':cH->cH->Option cH}{i j k n:Nat}{s:Sl}{b:Bool}{ds:List cH}
def q0(r:Option α)(δ:Ev):Option (α×Ev):=r.map λc=>(c,δ)
@[simp] theorem q0_s{a:α}:q0 (b3 a) δ=b3 (a,δ):=rfl
@[simp] theorem fC_e:fC d δ=b3 (d,δ):=rfl
noncomputable def qV:Option Sl->Ev->Option (cH×Ev)
 |some (.va d),δ=>b3 (d,δ)
 |_,_=>b4
noncomputable def qO:Option Sl->Ev->Option (cH×Ev)
 |some (.va d),δ=>b3 (d,δ)
 |some (.ow d),δ=>b3 (d,δ)
 |_,_=>b4
@[simp] theorem fV_e:fV i δ=qV δ[i]? δ:=by unfold fV qV;split<;>simp_all
@[simp] theorem fO_e:fO i δ=qO δ[i]? δ:=by unfold fO qO;split<;>simp_all
@[simp] theorem qV_s:qV (b3 (.va d)) δ=b3 (d,δ):=rfl
@[simp] theorem qO_v:qO (b3 (.va d)) δ=b3 (d,δ):=rfl
@[simp] theorem qO_o:qO (b3 (.ow d)) δ=b3 (d,δ):=rfl
def q1(o:cH->Option cH)(r:Option (cH×Ev)):Option (cH×Ev):=r.bind λp=>q0 (o p.1) p.2
@[simp] theorem f1_e{o:cH->Option cH}:f1 o fa δ=q1 o (fa δ):=rfl
@[simp] theorem q1_s{o:cH->Option cH}:q1 o (b3 (x,δ))=q0 (o x) δ:=rfl
def q2(o:cH->cH->Option cH)(r:Option (cH×Ev))(fb:VF):Option (cH×Ev):=r.bind λp=>(fb p.2).bind λq=>q0 (o p.1 q.1) q.2
def q2b(o:cH->cH->Option cH)(x:cH)(r:Option (cH×Ev)):Option (cH×Ev):=r.bind λq=>q0 (o x q.1) q.2
@[simp] theorem f2_e:f2 o fa fb δ=q2 o (fa δ) fb:=rfl
@[simp] theorem q2_s:q2 o (b3 (x,δ)) fb=q2b o x (fb δ):=rfl
@[simp] theorem uW:q2b o x (b3 (y,δ))=q0 (o x y) δ:=rfl
noncomputable def q3(o o':cH->cH->Option cH)(r:Option (cH×Ev))(fb fc:VF):Option (cH×Ev):=r.bind λp=>(fb p.2).bind λq=>(o p.1 q.1).bind λz=>match z with
 |.bl ba=>(fc q.2).bind λs=>(o' q.1 s.1).map λu=>(u,s.2)
 |.bl bb=>b3 (.bl bb,q.2)
 |_=>b4
def q3b(o o':cH->cH->Option cH)(x:cH)(r:Option (cH×Ev))(fc:VF):Option (cH×Ev):=q3 o o' (b3 (x,[])) (λ_=>r) fc
noncomputable def q3c(o':cH->cH->Option cH)(y:cH)(δ:Ev)(fc:VF):Option cH->Option (cH×Ev)
 |some (.bl ba)=>q2b o' y (fc δ)
 |some (.bl bb)=>b3 (.bl bb,δ)
 |_=>b4
@[simp] theorem f3_e:f3 o o' fa fb fc δ=q3 o o' (fa δ) fb fc:=rfl
@[simp] theorem q3_s:q3 o o' (b3 (x,δ)) fb fc=q3b o o' x (fb δ) fc:=rfl
@[simp] theorem uC:q3b o o' x (b3 (y,δ)) fc=q3c o' y δ fc (o x y):=by
 simp only[q3b,q3,Ap];cases o x y with
 |none=>rfl
 |some z=>cases z with
  |bl b=>cases b<;>rfl
  |_=>rfl
@[simp] theorem tM:q3c o' y δ fc (b3 (.bl ba))=q2b o' y (fc δ):=rfl
@[simp] theorem ur:q3c o' y δ fc (b3 (.bl bb))=b3 (.bl bb,δ):=rfl
noncomputable def qc(r:Option (cH×Ev))(fs:MC):Option (List cH×Ev):=r.bind λp=>(fs p.2).map λq=>(p.1::q.1,q.2)
noncomputable def qcb(x:cH)(r:Option (List cH×Ev)):Option (List cH×Ev):=r.map λq=>(x::q.1,q.2)
@[simp] theorem sO:bH δ=b3 ([],δ):=rfl
@[simp] theorem vm{fs:MC}:cA fa fs δ=qc (fa δ) fs:=rfl
@[simp] theorem qc_s{fs:MC}:qc (b3 (x,δ)) fs=qcb x (fs δ):=rfl
@[simp] theorem uT:qcb x (b3 (ds,δ))=b3 (x::ds,δ):=rfl
noncomputable def qT(g:List cH->cH)(r:Option (List cH×Ev)):Option (cH×Ev):=r.bind λp=>if p.1.length<=16777216 then b3 (g p.1,p.2)else b4
@[simp] theorem vE{fs:MC}:ZT fs δ=qT .tup (fs δ):=rfl
@[simp] theorem wg{fs:MC}:Y8 fs δ=qT .lst (fs δ):=rfl
@[simp] theorem qT_s{g:List cH->cH}:qT g (b3 (ds,δ))=if ds.length<=16777216 then b3 (g ds,δ)else b4:=rfl
noncomputable def qB:Option (cH×Ev)->Option (Bool×Ev)
 |some (.bl k,δ)=>b3 (k,δ)
 |_=>b4
@[simp] theorem fB_e:fB fa δ=qB (fa δ):=by
 unfold fB qB;cases fa δ with
 |none=>rfl
 |some p=>
  obtain⟨d,e⟩:=p;cases d<;>rfl
@[simp] theorem qB_s:qB (b3 (.bl b,δ))=b3 (b,δ):=rfl
variable{tb tb':VB}{g g':VS}
noncomputable def qAnd(r:Option (Bool×Ev))(y:VB):Option (Bool×Ev):=r.bind λp=>if p.1=ba then y p.2 else b3 (bb,p.2)
noncomputable def qOr(r:Option (Bool×Ev))(y:VB):Option (Bool×Ev):=r.bind λp=>if p.1=ba then b3 (ba,p.2)else y p.2
noncomputable def qNot(r:Option (Bool×Ev)):Option (Bool×Ev):=r.map λp=>(!p.1,p.2)
@[simp] theorem uK:M6 tb tb' δ=qAnd (tb δ) tb':=rfl
@[simp] theorem sr:FC tb tb' δ=qOr (tb δ) tb':=rfl
@[simp] theorem rY:VA tb δ=qNot (tb δ):=rfl
@[simp] theorem mZ:X7 δ=b3 (ba,δ):=rfl
@[simp] theorem wj:qAnd (b3 (ba,δ)) tb=tb δ:=rfl
@[simp] theorem vq:qAnd (b3 (bb,δ)) tb=b3 (bb,δ):=rfl
@[simp] theorem rJ:qOr (b3 (ba,δ)) tb=b3 (ba,δ):=rfl
@[simp] theorem uq:qOr (b3 (bb,δ)) tb=tb δ:=rfl
@[simp] theorem rQ:qNot (b3 (b,δ))=b3 (!b,δ):=rfl
noncomputable def qA(r:Option (cH×Ev))(y:VF):Option (cH×Ev):=r.bind λp=>match p.1 with
 |.bl ba=>y p.2
 |.bl bb=>b3 (.bl bb,p.2)
 |_=>b4
noncomputable def qR(r:Option (cH×Ev))(y:VF):Option (cH×Ev):=r.bind λp=>match p.1 with
 |.bl bb=>y p.2
 |.bl ba=>b3 (.bl ba,p.2)
 |_=>b4
noncomputable def qN(r:Option (cH×Ev)):Option (cH×Ev):=r.bind λp=>match p.1 with
 |.bl k=>b3 (.bl (!k),p.2)
 |_=>b4
@[simp] theorem tF:RK fa fb δ=qA (fa δ) fb:=rfl
@[simp] theorem uD:fOr fa fb δ=qR (fa δ) fb:=rfl
@[simp] theorem tH:fNot fa δ=qN (fa δ):=rfl
@[simp] theorem qA_t:qA (b3 (.bl ba,δ)) fb=fb δ:=rfl
@[simp] theorem qA_f:qA (b3 (.bl bb,δ)) fb=b3 (.bl bb,δ):=rfl
@[simp] theorem qR_t:qR (b3 (.bl ba,δ)) fb=b3 (.bl ba,δ):=rfl
@[simp] theorem qR_f:qR (b3 (.bl bb,δ)) fb=fb δ:=rfl
@[simp] theorem qN_s:qN (b3 (.bl b,δ))=b3 (.bl (!b),δ):=rfl
def qI(r:Option (Bool×Ev))(x y:VF):Option (cH×Ev):=r.bind λp=>if p.1=ba then x p.2 else y p.2
@[simp] theorem uZ:fIf tb fa fb δ=qI (tb δ) fa fb:=rfl
@[simp] theorem qI_t:qI (b3 (ba,δ)) fa fb=fa δ:=rfl
@[simp] theorem qI_f:qI (b3 (bb,δ)) fa fb=fb δ:=rfl
def qS(r:Option Ou)(g:VS):Option Ou:=r.bind λo=>match o with
 |.nx δ'=>g δ'
 |o=>b3 o
@[simp] theorem tz:Z2 δ=b3 (.nx δ):=rfl
@[simp] theorem X3:bV g g' δ=qS (g δ) g':=rfl
@[simp] theorem OZ:qS (b3 (.nx δ)) g=g δ:=rfl
@[simp] theorem qS_r:qS (b3 (.rt d δ)) g=b3 (.rt d δ):=rfl
@[simp] theorem qS_b:qS (b3 (.bk δ)) g=b3 (.bk δ):=rfl
@[simp] theorem qS_c:qS (b3 (.ct δ)) g=b3 (.ct δ):=rfl
def qJ(r:Option (Bool×Ev))(x y:VS):Option Ou:=r.bind λp=>if p.1=ba then x p.2 else y p.2
@[simp] theorem vN:XS tb g g' δ=qJ (tb δ) g g':=rfl
@[simp] theorem qJ_t:qJ (b3 (ba,δ)) g g'=g δ:=rfl
@[simp] theorem qJ_f:qJ (b3 (bb,δ)) g g'=g' δ:=rfl
noncomputable def qRet(r:Option (cH×Ev)):Option Ou:=r.map λp=>.rt p.1 p.2
def Xn(r:Option (cH×Ev)):Option Ou:=r.map λp=>.nx p.2
@[simp] theorem sH:bE fa δ=qRet (fa δ):=rfl
@[simp] theorem uN:qRet (b3 (d,δ))=b3 (.rt d δ):=rfl
@[simp] theorem uw:US fa δ=Xn (fa δ):=rfl
@[simp] theorem rM:Xn (b3 (d,δ))=b3 (.nx δ):=rfl
noncomputable def qx(f:cH->Sl)(r:Option (cH×Ev)):Option (Sl×Ev):=r.map λp=>(f p.1,p.2)
@[simp] theorem xV_e:xV fa δ=qx .va (fa δ):=rfl
@[simp] theorem xO_e:xO fa δ=qx .ow (fa δ):=rfl
@[simp] theorem qx_s{f:cH->Sl}:qx f (b3 (d,δ))=b3 (f d,δ):=rfl
noncomputable def qSet(i:Nat)(r:Option (Sl×Ev)):Option Ou:=r.bind λp=>if i<p.2.length then b3 (.nx (p.2.set i p.1))else b4
@[simp] theorem sj{x:VX}:aL i x δ=qSet i (x δ):=rfl
@[simp] theorem ue:qSet i (b3 (s,δ))=if i<δ.length then b3 (.nx (δ.set i s))else b4:=rfl
noncomputable def qP2(i j:Nat)(r:Option (Sl×Ev))(y:VX):Option Ou:=r.bind λp=>(y p.2).bind λq=>if i<q.2.length/\j<q.2.length then b3 (.nx ((q.2.set j q.1).set i p.1))else b4
noncomputable def qP2b(i j:Nat)(s:Sl)(r:Option (Sl×Ev)):Option Ou:=r.bind λq=>if i<q.2.length/\j<q.2.length then b3 (.nx ((q.2.set j q.1).set i s))else b4
@[simp] theorem vp{x y:VX}:EH i j x y δ=qP2 i j (x δ) y:=rfl
@[simp] theorem sK{y:VX}:qP2 i j (b3 (s,δ)) y=qP2b i j s (y δ):=rfl
@[simp] theorem sB{s':Sl}:qP2b i j s (b3 (s',δ))=if i<δ.length/\j<δ.length then b3 (.nx ((δ.set j s').set i s))else b4:=rfl
noncomputable def qP3(i j k:Nat)(r:Option (Sl×Ev))(y z:VX):Option Ou:=r.bind λp=>(y p.2).bind λq=>(z q.2).bind λr=>if i<r.2.length/\j<r.2.length/\k<r.2.length then b3 (.nx (((r.2.set k r.1).set j q.1).set i p.1))else b4
noncomputable def qP3b(i j k:Nat)(s:Sl)(r:Option (Sl×Ev))(z:VX):Option Ou:=r.bind λq=>(z q.2).bind λr=>if i<r.2.length/\j<r.2.length/\k<r.2.length then b3 (.nx (((r.2.set k r.1).set j q.1).set i s))else b4
noncomputable def qP3c(i j k:Nat)(s s':Sl)(r:Option (Sl×Ev)):Option Ou:=r.bind λr=>if i<r.2.length/\j<r.2.length/\k<r.2.length then b3 (.nx (((r.2.set k r.1).set j s').set i s))else b4
@[simp] theorem uj{x y z:VX}:LD i j k x y z δ=qP3 i j k (x δ) y z:=rfl
@[simp] theorem sg{y z:VX}:qP3 i j k (b3 (s,δ)) y z=qP3b i j k s (y δ) z:=rfl
@[simp] theorem sI{s':Sl}{z:VX}:qP3b i j k s (b3 (s',δ)) z=qP3c i j k s s' (z δ):=rfl
@[simp] theorem sF{s' a:Sl}:qP3c i j k s s' (b3 (a,δ))=if i<δ.length/\j<δ.length/\k<δ.length then b3 (.nx (((δ.set k a).set j s').set i s))else b4:=rfl
@[simp] theorem gN_e:gN i d δ=b3 (δ.set i (.va d)):=rfl
def qg(r:Option Ev)(a:VGs)(ds:List cH):Option Ev:=r.bind λδ1=>a ds δ1
@[simp] theorem uE:WI [] δ=b3 δ:=rfl
@[simp] theorem sE{gg:VG}{a:VGs}:aG gg a (d::ds) δ=qg (gg d δ) a ds:=rfl
@[simp] theorem qg_s{a:VGs}:qg (b3 δ) a ds=a ds δ:=rfl
@[simp] theorem uU{a:VGs}:E6 n a (.tup ds) δ=if ds.length=n then a ds δ else b4:=rfl
@[simp] theorem vQ{a:VGs}:E6 n a (.lst ds) δ=if ds.length=n then a ds δ else b4:=rfl
noncomputable def qAsg(r:Option (cH×Ev))(gg:VG):Option Ou:=r.bind λp=>(gg p.1 p.2).map Ou.nx
@[simp] theorem vn{gg:VG}:sAsg fa gg δ=qAsg (fa δ) gg:=rfl
@[simp] theorem vL{gg:VG}:qAsg (b3 (d,δ)) gg=(gg d δ).map Ou.nx:=rfl
def qM(i:Nat)(m:List cH->List cH->Option (List cH))(r:Option (List cH))(δ:Ev)(fs:MC):Option Ou:=r.bind λ_=>(fs δ).bind λp=>(MG p.2 i).bind λds=>(m ds p.1).map λa=>.nx (p.2.set i (.ow (.lst a)))
def qMb(i:Nat)(m:List cH->List cH->Option (List cH))(r:Option (List cH×Ev)):Option Ou:=r.bind λp=>(MG p.2 i).bind λds=>(m ds p.1).map λa=>.nx (p.2.set i (.ow (.lst a)))
noncomputable def qMc(i:Nat)(m:List cH->List cH->Option (List cH))(es:List cH)(δ:Ev)(r:Option (List cH)):Option Ou:=r.bind λds=>(m ds es).map λa=>.nx (δ.set i (.ow (.lst a)))
noncomputable def qMd(i:Nat)(δ:Ev)(r:Option (List cH)):Option Ou:=r.map λa=>.nx (δ.set i (.ow (.lst a)))
@[simp] theorem uV{m:List cH->List cH->Option (List cH)}{fs:MC}:T7 i m fs δ=qM i m (MG δ i) δ fs:=rfl
@[simp] theorem qM_s{m:List cH->List cH->Option (List cH)}{fs:MC}:qM i m (b3 ds) δ fs=qMb i m (fs δ):=rfl
@[simp] theorem um{m:List cH->List cH->Option (List cH)}{es:List cH}:qMb i m (b3 (es,δ))=qMc i m es δ (MG δ i):=rfl
@[simp] theorem uh{m:List cH->List cH->Option (List cH)}{es:List cH}:qMc i m es δ (b3 ds)=qMd i δ (m ds es):=rfl
@[simp] theorem tq:qMd i δ (b3 ds)=b3 (.nx (δ.set i (.ow (.lst ds)))):=rfl
noncomputable def qOl:Option Sl->Option (List cH)
 |some (.ow (.lst ds))=>b3 ds
 |_=>b4
@[simp] theorem tN:MG δ i=qOl δ[i]? :=by unfold MG qOl;split<;>simp_all
@[simp] theorem sU:qOl (b3 (.ow (.lst ds)))=b3 ds:=rfl
@[simp] theorem vU:QA ds [d]=if ds.length<16777216 then b3 (ds++[d])else b4:=rfl
noncomputable def qOd:Option Sl->Option (List Z5×List cH)
 |some (.ow (.dct ks ds))=>b3 (ks,ds)
 |_=>b4
@[simp] theorem wa:WK δ i=qOd δ[i]? :=by unfold WK qOd;split<;>simp_all
@[simp] theorem sC{ks:List Z5}:qOd (b3 (.ow (.dct ks ds)))=b3 (ks,ds):=rfl
def qi(r:Option (cH×Ev)):Option (List cH×Ev):=r.bind λp=>(XB p.1).map λds=>(ds,p.2)
@[simp] theorem sV:YG fa δ=qi (fa δ):=rfl
@[simp] theorem qi_t:qi (b3 (.tup ds,δ))=b3 (ds,δ):=rfl
@[simp] theorem qi_l:qi (b3 (.lst ds,δ))=b3 (ds,δ):=rfl
noncomputable def qr1:Option (cH×Ev)->Option (List cH×Ev)
 |some (.int j,δ)=>if -4611686018427387904<=j/\j<4611686018427387904 then b3 (YR 0 j.toNat,δ)else b4
 |_=>b4
@[simp] theorem ve:iR1 fa δ=qr1 (fa δ):=by
 unfold iR1 qr1;cases fa δ with
 |none=>rfl
 |some p=>
  obtain⟨d,e⟩:=p;cases d<;>rfl
@[simp] theorem vy{j:Int}:qr1 (b3 (.int j,δ))=if -4611686018427387904<=j/\j<4611686018427387904 then b3 (YR 0 j.toNat,δ)else b4:=rfl
def qe(r:Option (cH×Ev)):Option (List cH×Ev):=r.bind λp=>(XB p.1).map λds=>(XW 0 ds,p.2)
@[simp] theorem sM:KQ fa δ=qe (fa δ):=rfl
@[simp] theorem qe_t:qe (b3 (.tup ds,δ))=b3 (XW 0 ds,δ):=rfl
@[simp] theorem qe_l:qe (b3 (.lst ds,δ))=b3 (XW 0 ds,δ):=rfl
def qz(r:Option (cH×Ev))(g:VF):Option (List cH×Ev):=r.bind λp=>(g p.2).bind λq=>(XB p.1).bind λds=>(XB q.1).map λes=>(QU ds es,q.2)
def qzb(x:cH)(r:Option (cH×Ev)):Option (List cH×Ev):=r.bind λq=>(XB x).bind λds=>(XB q.1).map λes=>(QU ds es,q.2)
@[simp] theorem vh:iZip fa fb δ=qz (fa δ) fb:=rfl
@[simp] theorem qz_s:qz (b3 (x,δ)) fb=qzb x (fb δ):=rfl
@[simp] theorem vM:qzb x (b3 (y,δ))=(XB x).bind λds=>(XB y).map λes=>(QU ds es,δ):=rfl
@[simp] theorem wu:XB (.tup ds)=b3 ds:=rfl
@[simp] theorem tw:XB (.lst ds)=b3 ds:=rfl
def qF(r:Option (List cH×Ev))(gg:VG)(g:VS):Option Ou:=r.bind λp=>V9 gg g p.1 p.2
@[simp] theorem dP{fi:VI}{gg:VG}:MI fi gg g δ=qF (fi δ) gg g:=rfl
@[simp] theorem qF_s{gg:VG}:qF (b3 (ds,δ)) gg g=V9 gg g ds δ:=rfl
def qK(ix:List Nat)(nl:Nat)(r:Option (List cH×Ev))(gg:VG)(tb:VB)(fe:VF):Option (cH×Ev):=r.bind λp=>(Y0 ix.length nl gg tb fe p.1 [] (aI ix p.2)).map λq=>(.lst q.1,ZO ix q.2 p.2)
def qKb(ix:List Nat)(δ:Ev)(r:Option (List cH×Ev)):Option (cH×Ev):=r.map λq=>(.lst q.1,ZO ix q.2 δ)
@[simp] theorem uY{ix:List Nat}{nl:Nat}{fi:VI}{gg:VG}:ZZ ix nl fi gg tb fa δ=qK ix nl (fi δ) gg tb fa:=rfl
@[simp] theorem qK_s{ix:List Nat}{nl:Nat}{gg:VG}:qK ix nl (b3 (ds,δ)) gg tb fa=qKb ix δ (Y0 ix.length nl gg tb fa ds [] (aI ix δ)):=rfl
@[simp] theorem tZ{ix:List Nat}:qKb ix δ (b3 (ds,δ1))=b3 (.lst ds,ZO ix δ1 δ):=rfl
variable{as:List AV}{fs:ML}{mF:List Nat}{F:aX}
noncomputable def qa(r:Option (cH×Ev))(fs:ML):Option (List AV×Ev):=r.bind λp=>(fs p.2).map λq=>(.d p.1::q.1,q.2)
noncomputable def qab(x:AV)(r:Option (List AV×Ev)):Option (List AV×Ev):=r.map λq=>(x::q.1,q.2)
@[simp] theorem qr:bT δ=b3 ([],δ):=rfl
@[simp] theorem DC:aE fa fs δ=qa (fa δ) fs:=rfl
@[simp] theorem qa_s:qa (b3 (x,δ)) fs=qab (.d x) (fs δ):=rfl
@[simp] theorem Wd{a:AV}:qab a (b3 (as,δ))=b3 (a::as,δ):=rfl
def qao(j:Nat)(r:Option cH)(δ:Ev)(fs:ML):Option (List AV×Ev):=r.bind λ_=>qab (.o j) (fs δ)
@[simp] theorem aO_e:aO j fs δ=qao j (slot δ j) δ fs:=rfl
@[simp] theorem lQ:qao j (b3 d) δ fs=qab (.o j) (fs δ):=rfl
noncomputable def qsl:Option Sl->Option cH
 |some (.va d)=>b3 d
 |some (.ow d)=>b3 d
 |_=>b4
@[simp] theorem uQ:slot δ j=qsl δ[j]? :=by unfold slot qsl;split<;>simp_all
@[simp] theorem uk:qsl (b3 (.va d))=b3 d:=rfl
@[simp] theorem wl:qsl (b3 (.ow d))=b3 d:=rfl
@[simp] theorem uG:U2 δ []=b3 []:=rfl
@[simp] theorem sv:U2 δ (.d d::as)=(U2 δ as).map λds=>d::ds:=rfl
@[simp] theorem su:U2 δ (.o j::as)=(slot δ j).bind λd=>(U2 δ as).map λds=>d::ds:=rfl
def Yz(n:Nat)(mF:List Nat)(F:aX)(r:Option (List AV×Ev)):Option (cH×Ev):=r.bind λp=>(U2 p.2 p.1).bind λds=>if ds.length=n/\TL mF p.1 p.2=ba then(F ds).bind λq=>if UY mF p.1 q.1 q.2=ba then b3 (q.1,UR p.1 mF q.2 p.2)else b4 else b4
def qCb(n:Nat)(mF:List Nat)(F:aX)(as:List AV)(δ:Ev)(r:Option (List cH)):Option (cH×Ev):=r.bind λds=>if ds.length=n/\TL mF as δ=ba then(F ds).bind λq=>if UY mF as q.1 q.2=ba then b3 (q.1,UR as mF q.2 δ)else b4 else b4
def qCc(mF:List Nat)(as:List AV)(δ:Ev)(r:Option (cH×List cH)):Option (cH×Ev):=r.bind λq=>if UY mF as q.1 q.2=ba then b3 (q.1,UR as mF q.2 δ)else b4
@[simp] theorem LX:bZ n mF F fs δ=Yz n mF F (fs δ):=rfl
@[simp] theorem rq:Yz n mF F (b3 (as,δ))=qCb n mF F as δ (U2 δ as):=rfl
@[simp] theorem ng:qCb n mF F as δ (b3 ds)=if ds.length=n/\TL mF as δ=ba then qCc mF as δ (F ds)else b4:=rfl
@[simp] theorem pV{os:List cH}:qCc mF as δ (b3 (d,os))=if UY mF as d os=ba then b3 (d,UR as mF os δ)else b4:=rfl
@[simp] theorem vB:Wb δ as i=(match as[i]? with
 |some (.o j)=>match δ[j]? with
  |some (.ow _)=>ba
  |_=>bb
 |_=>bb):=rfl
@[simp] theorem wq:SN []=[]:=rfl
@[simp] theorem vY:SN (.d d::as)=SN as:=rfl
@[simp] theorem vc:SN (.o j::as)=j::SN as:=rfl
@[simp] theorem vj:TL mF as δ=(mF.all (Wb δ as)&&decide (SN as).Nodup):=rfl
@[simp] theorem tG:VJ mF [] i=ba:=rfl
@[simp] theorem tW:VJ mF (.d d::as) i=VJ mF as (i+1):=rfl
@[simp] theorem we:VJ mF (.o j::as) i=(decide (i∈mF)&&VJ mF as (i+1)):=rfl
@[simp] theorem tT{os:List cH}:UY mF as d os=((VJ mF as 0 || d.hard)&&(VJ mF as 0 || os.all RT)&&decide (mF.length=os.length)):=rfl
@[simp] theorem wd{os:List cH}:UR as [] os δ=δ:=by cases os<;>rfl
@[simp] theorem rX{os:List cH}{is:List Nat}:UR as (i::is) (d::os) δ=(match as[i]? with
  |some (.o j)=>UR as is os (δ.set j (.ow d))
  |_=>UR as is os δ):=rfl
@[simp] theorem vC:pNo δ=b3 (b4,δ):=rfl
noncomputable def qpS:Option (cH×Ev)->Option (Option Int×Ev)
 |some (.int i,δ)=>b3 (b3 i,δ)
 |_=>b4
@[simp] theorem v9:pSo fa δ=qpS (fa δ):=by
 unfold pSo qpS;cases fa δ with
 |none=>rfl
 |some p=>
  obtain⟨d,e⟩:=p;cases d<;>rfl
@[simp] theorem w9{i:Int}:qpS (b3 (.int i,δ))=b3 (b3 i,δ):=rfl
def qSl(r:Option (cH×Ev))(a b:VP):Option (cH×Ev):=r.bind λp=>(a p.2).bind λl=>(b l.2).bind λu=>(oSl p.1 l.1 u.1).map λc=>(c,u.2)
def qSlb(x:cH)(r:Option (Option Int×Ev))(a:VP):Option (cH×Ev):=r.bind λl=>(a l.2).bind λu=>(oSl x l.1 u.1).map λc=>(c,u.2)
def qSlc(x:cH)(l:Option Int)(r:Option (Option Int×Ev)):Option (cH×Ev):=r.bind λu=>q0 (oSl x l u.1) u.2
@[simp] theorem uH{a b:VP}:fSl fa a b δ=qSl (fa δ) a b:=rfl
@[simp] theorem rN{a b:VP}:qSl (b3 (x,δ)) a b=qSlb x (a δ) b:=rfl
@[simp] theorem uJ{l:Option Int}{a:VP}:qSlb x (b3 (l,δ)) a=qSlc x l (a δ):=rfl
@[simp] theorem tQ{l u:Option Int}:qSlc x l (b3 (u,δ))=q0 (oSl x l u) δ:=rfl
@[simp] theorem tO{l u:Option Int}:oSl (.tup ds) l u=b3 (.tup (UG ds l u)):=rfl
@[simp] theorem vt{l u:Option Int}:oSl (.lst ds) l u=b3 (.lst (UG ds l u)):=rfl
noncomputable def qSt(i j:Nat):Option (cH×Ev)->Option Ou
 |some (.tup (d::ds),δ)=>b3 (.nx ((δ.set i (.va d)).set j (.va (.lst ds))))
 |_=>b4
@[simp] theorem uA:IQ i j fa δ=qSt i j (fa δ):=by
 unfold IQ qSt;cases fa δ with
 |none=>rfl
 |some p=>
  obtain⟨d,e⟩:=p;cases d with
  |tup ds=>cases ds<;>rfl
  |_=>rfl
@[simp] theorem v6:qSt i j (b3 (.tup (d::ds),δ))=b3 (.nx ((δ.set i (.va d)).set j (.va (.lst ds)))):=rfl
def qDg(i:Nat)(r:Option (List Z5×List cH))(δ:Ev)(fk fx:VF):Option (cH×Ev):=r.bind λ_=>(fk δ).bind λp=>(fx p.2).bind λq=>(UM p.1).bind λk=>(WK q.2 i).map λz=>((aD z.1 z.2 k).getD q.1,q.2)
def qDgb(i:Nat)(r:Option (cH×Ev))(fx:VF):Option (cH×Ev):=r.bind λp=>(fx p.2).bind λq=>(UM p.1).bind λk=>(WK q.2 i).map λz=>((aD z.1 z.2 k).getD q.1,q.2)
def qDgc(i:Nat)(x:cH)(r:Option (cH×Ev)):Option (cH×Ev):=r.bind λq=>(UM x).bind λk=>(WK q.2 i).map λz=>((aD z.1 z.2 k).getD q.1,q.2)
@[simp] theorem rR:FO i fa fb δ=qDg i (WK δ i) δ fa fb:=rfl
@[simp] theorem sS{z:List Z5×List cH}:qDg i (b3 z) δ fa fb=qDgb i (fa δ) fb:=rfl
@[simp] theorem sW:qDgb i (b3 (x,δ)) fb=qDgc i x (fb δ):=rfl
@[simp] theorem uu:qDgc i x (b3 (y,δ))=(UM x).bind λk=>(WK δ i).map λz=>((aD z.1 z.2 k).getD y,δ):=rfl
def qDp(i:Nat)(r:Option (cH×Ev))(fk:VF):Option Ou:=r.bind λp=>(WK p.2 i).bind λ_=>(fk p.2).bind λq=>(UM q.1).bind λk=>(WK q.2 i).bind λz=>if z.1.length<16777216/\z.1.Nodup then b3 (.nx (q.2.set i (.ow (let r:=X2 z.1 z.2 k p.1;.dct r.1 r.2))))else b4
def qDpb(i:Nat)(x:cH)(r:Option (List Z5×List cH))(δ:Ev)(fk:VF):Option Ou:=r.bind λ_=>(fk δ).bind λq=>(UM q.1).bind λk=>(WK q.2 i).bind λz=>if z.1.length<16777216/\z.1.Nodup then b3 (.nx (q.2.set i (.ow (let r:=X2 z.1 z.2 k x;.dct r.1 r.2))))else b4
def qDpc(i:Nat)(x:cH)(r:Option (cH×Ev)):Option Ou:=r.bind λq=>(UM q.1).bind λk=>(WK q.2 i).bind λz=>if z.1.length<16777216/\z.1.Nodup then b3 (.nx (q.2.set i (.ow (.dct (X2 z.1 z.2 k x).1 (X2 z.1 z.2 k x).2))))else b4
@[simp] theorem si{fk fv:VF}:EF i fk fv δ=qDp i (fv δ) fk:=rfl
@[simp] theorem t9{fk:VF}:qDp i (b3 (x,δ)) fk=qDpb i x (WK δ i) δ fk:=rfl
@[simp] theorem uo{z:List Z5×List cH}{fk:VF}:qDpb i x (b3 z) δ fk=qDpc i x (fk δ):=rfl
@[simp] theorem vV:qDpc i x (b3 (y,δ))=(UM y).bind λk=>(WK δ i).bind λz=>if z.1.length<16777216/\z.1.Nodup then b3 (.nx (δ.set i (.ow (.dct (X2 z.1 z.2 k x).1 (X2 z.1 z.2 k x).2))))else b4:=rfl
@[simp] theorem v8{i:Int}:UM (.int i)=b3 (.inl i):=rfl
@[simp] theorem uM{s:Uv}:UM (.str s)=b3 (.inr s):=rfl
def qRun(ml:List Nat):Option Ou->Option (cH×List cH)
 |some (.rt d δ)=>(RZ ml δ).map λos=>(d,os)
 |some (.nx δ)=>(RZ ml δ).map λos=>(.non,os)
 |_=>b4
def bN{ml:List Nat}:aC n ml g ds=qRun ml (g (bF ml n ds)):=by
 unfold aC qRun;cases g (bF ml n ds)with
 |none=>rfl
 |some o=>cases o<;>rfl
@[simp] theorem w4{ml:List Nat}:qRun ml (b3 (.rt d δ))=(RZ ml δ).map λos=>(d,os):=rfl
@[simp] theorem rK{ml:List Nat}:qRun ml (b3 (.nx δ))=(RZ ml δ).map λos=>(.non,os):=rfl
def qow:Option Sl->Option cH
 |some (.ow d)=>b3 d
 |_=>b4
@[simp] theorem vJ:RZ [] δ=b3 []:=rfl
@[simp] theorem ti{ml:List Nat}:RZ (i::ml) δ=(qow δ[i]?).bind λd=>(RZ ml δ).map λos=>d::os:=by
 unfold RZ;rw[Ss];cases h:(δ[i]? :Option Sl)with
 |none=>rfl
 | some s => cases s with
  |no=>rfl
  |va d=>rfl
  |ow d=>
   show(Option.bind _ λos=>b3 (d::os))=Up (λos=>d::os) _;cases (List.mapM _ ml:Option (List cH))<;>rfl
@[simp] theorem vf:qow (b3 (.ow d))=b3 d:=rfl
end
section
variable{i j:Int}{x y:Uv}{ds es:List cH}
@[simp] theorem oI_e{C:Int->Int->Bool}{g:Int->Int->cH}:oI C g (.int i) (.int j)=if C i j=ba then b3 (g i j)else b4:=rfl
@[simp] theorem uF:Y7 (.int i) (.int j)=b3 (.int (i+j)):=rfl
@[simp] theorem tD:Y7 (.tup ds) (.tup es)=if ds.length+es.length<=16777216 then b3 (.tup (ds++es))else b4:=rfl
@[simp] theorem tj:Y7 (.lst ds) (.lst es)=if ds.length+es.length<=16777216 then b3 (.lst (ds++es))else b4:=rfl
@[simp] theorem vR{g:Int->Int->Int}:o2I g (.int i) (.int j)=b3 (.int (g i j)):=rfl
@[simp] theorem sR:YW (.tup ds)=b3 (.int ds.length):=rfl
@[simp] theorem sT:YW (.lst ds)=b3 (.int ds.length):=rfl
@[simp] theorem ud:K2 (.tup ds)=b3 (.lst ds):=rfl
@[simp] theorem wt:K2 (.lst ds)=b3 (.lst ds):=rfl
@[simp] theorem wb:RX (.tup ds)=b3 (.tup ds):=rfl
@[simp] theorem sw:RX (.lst ds)=b3 (.tup ds):=rfl
@[simp] theorem sf:bG (.tup ds) (.int i)=SJ ds i:=rfl
@[simp] theorem vz:bG (.lst ds) (.int i)=SJ ds i:=rfl
@[simp] theorem uS{ks:List Z5}:bG (.dct ks ds) (.int i)=aD ks ds (.inl i):=rfl
@[simp] theorem vg{ks:List Z5}:bG (.dct ks ds) (.str x)=aD ks ds (.inr x):=rfl
@[simp] theorem uX:IF (.int i)=ba:=rfl
@[simp] theorem sx:IF .non=ba:=rfl
@[simp] theorem vG{b:Bool}:IF (.bl b)=ba:=rfl
@[simp] theorem rW:MF "int" "bool"=b3 bb:=by decide+kernel
@[simp] theorem vA:MF "int" "int"=b3 ba:=by decide+kernel
@[simp] theorem vK:MF "tuple" "tuple"=b3 ba:=by decide+kernel
@[simp] theorem sZ:MF "str" "str"=b3 ba:=by decide+kernel
@[simp] theorem sG{n:String}:QD (.int i) (.ty n)=(MF "int" n).map cH.bl:=rfl
@[simp] theorem rT{n:String}:QD (.tup ds) (.ty n)=(MF "tuple" n).map cH.bl:=rfl
@[simp] theorem uc{n:String}:QD (.lst ds) (.ty n)=(MF "list" n).map cH.bl:=rfl
@[simp] theorem tY{n:String}:QD (.str x) (.ty n)=(MF "str" n).map cH.bl:=rfl
@[simp] theorem rL:QS .non .non=b3 (.bl ba):=rfl
@[simp] theorem uO:QS (.int i) .non=b3 (.bl bb):=rfl
@[simp] theorem ub:QS (.str x) .non=b3 (.bl bb):=rfl
@[simp] theorem uf:QS (.tup ds) .non=b3 (.bl bb):=rfl
@[simp] theorem vk:OU .non .non=b3 (.bl bb):=rfl
@[simp] theorem vD:OU (.int i) .non=b3 (.bl ba):=rfl
@[simp] theorem v5:OU (.str x) .non=b3 (.bl ba):=rfl
@[simp] theorem tU:OU (.tup ds) .non=b3 (.bl ba):=rfl
end
section
variable{d x:cH}{δ δ1:Ev}{r acc:List cH}{gg:VG}{tb:VB}{fe:VF}{n nl:Nat}{g:VS}
def qk1(n nl:Nat)(gg:VG)(tb:VB)(fe:VF)(r acc:List cH)(o:Option Ev):Option (List cH×Ev):=o.bind λδ1=>(tb δ1).bind λp=>if p.1=ba then(fe p.2).bind λq=>if acc.length<16777216 then Y0 n nl gg tb fe r (acc++[q.1]) (q.2.take n)else b4 else Y0 n nl gg tb fe r acc (p.2.take n)
def qk2(n nl:Nat)(gg:VG)(tb:VB)(fe:VF)(r acc:List cH)(o:Option (Bool×Ev)):Option (List cH×Ev):=o.bind λp=>if p.1=ba then(fe p.2).bind λq=>if acc.length<16777216 then Y0 n nl gg tb fe r (acc++[q.1]) (q.2.take n)else b4 else Y0 n nl gg tb fe r acc (p.2.take n)
def qk3(n nl:Nat)(gg:VG)(tb:VB)(fe:VF)(r acc:List cH)(o:Option (cH×Ev)):Option (List cH×Ev):=o.bind λq=>if acc.length<16777216 then Y0 n nl gg tb fe r (acc++[q.1]) (q.2.take n)else b4
@[simp] theorem vP:Y0 n nl gg tb fe [] acc δ=b3 (acc,δ):=rfl
@[simp] theorem OF:Y0 n nl gg tb fe (d::r) acc δ=qk1 n nl gg tb fe r acc (gg d (δ++IE nl)):=rfl
@[simp] theorem EB:qk1 n nl gg tb fe r acc (b3 δ)=qk2 n nl gg tb fe r acc (tb δ):=rfl
@[simp] theorem Xd:qk2 n nl gg tb fe r acc (b3 (ba,δ))=qk3 n nl gg tb fe r acc (fe δ):=rfl
@[simp] theorem dX:qk2 n nl gg tb fe r acc (b3 (bb,δ))=Y0 n nl gg tb fe r acc (δ.take n):=rfl
@[simp] theorem Wi:qk3 n nl gg tb fe r acc (b3 (x,δ))=if acc.length<16777216 then Y0 n nl gg tb fe r (acc++[x]) (δ.take n)else b4:=rfl
def qf1(gg:VG)(g:VS)(r:List cH)(o:Option Ev):Option Ou:=o.bind λδ1=>(g δ1).bind (again (V9 gg g r))
def qf2(gg:VG)(g:VS)(r:List cH)(o:Option Ou):Option Ou:=o.bind (again (V9 gg g r))
@[simp] theorem tu:V9 gg g [] δ=b3 (.nx δ):=rfl
@[simp] theorem NB:V9 gg g (d::r) δ=qf1 gg g r (gg d δ):=rfl
@[simp] theorem IL:qf1 gg g r (b3 δ)=qf2 gg g r (g δ):=rfl
@[simp] theorem IM:qf2 gg g r (b3 (.nx δ))=V9 gg g r δ:=rfl
@[simp] theorem tV:qf2 gg g r (b3 (.ct δ))=V9 gg g r δ:=rfl
@[simp] theorem tX:qf2 gg g r (b3 (.bk δ))=b3 (.nx δ):=rfl
@[simp] theorem uL:qf2 gg g r (b3 (.rt d δ))=b3 (.rt d δ):=rfl
@[simp] theorem rZ{ss:Ev}:ZO [] ss δ=δ:=by cases ss<;>rfl
@[simp] theorem vW{i:Nat}{is:List Nat}{ss:Ev}:ZO (i::is) (.ow d::ss) δ=ZO is ss (δ.set i (.ow d)):=rfl
@[simp] theorem sN{i:Nat}{is:List Nat}{ss:Ev}:ZO (i::is) (.va d::ss) δ=ZO is ss δ:=rfl
@[simp] theorem vi{i:Nat}{is:List Nat}{ss:Ev}:ZO (i::is) (.no::ss) δ=ZO is ss δ:=rfl
end
@[simp] theorem Wr:IE 1=[.no]:=rfl
@[simp] theorem Zv:IE 2=[.no,.no]:=rfl
@[simp] theorem uv:IE 3=[.no,.no,.no]:=rfl
@[simp] theorem sJ{i:Int}:YR i 0=[]:=rfl
@[simp] theorem ul:YR 0 1=[.int 0]:=rfl
@[simp] theorem w8:YR 0 2=[.int 0,.int 1]:=rfl
@[simp] theorem rO:YR 0 3=[.int 0,.int 1,.int 2]:=rfl
@[simp] theorem uI:YR 0 4=[.int 0,.int 1,.int 2,.int 3]:=rfl
def TK{α:Type}{xs:List α}{i:Int}(a:0<=i)(h1:i<xs.length):SJ xs i=xs[i.toNat]? :=by unfold SJ ixN;rw[if_pos a,if_pos h1];rfl
def BH{α:Type}{xs:List α}{i:Int}(a:0<=i)(h1:i<xs.length):∃x∈xs,SJ xs i=b3 x:=by
 rw[TK a h1];have h:i.toNat<xs.length:=by lia
 exact⟨xs[i.toNat],Hq _,Bx h⟩
section
variable{F:aX}{fa fb fc:VF}{δ:Ev}{x y z d o:cH}{j:Nat}
noncomputable def AF(δ:Ev):Option (cH×List cH)->Option (cH×Ev)
 |some (d,[])=>b3 (d,δ)
 |_=>b4
@[simp] theorem sD:AF δ (b3 (d,[]))=b3 (d,δ):=rfl
def BJ{n:Nat}{ds:List cH}{as:List AV}(h:U2 δ as=b3 ds)(a:ds.length=n)(b:SN as=[])(c:VJ [] as 0=ba):qCb n [] F as δ (b3 ds)=AF δ (F ds):=by
 have hc:TL [] as δ=ba:=by simp[b]
 rw[ng,if_pos ⟨a,hc⟩];cases F ds with
 |none=>rfl
 |some q=>
  obtain⟨r,os⟩:=q;rw[pV];cases os with
  |nil=>simp[c,AF]
  |cons o os=>simp[AF]
def qx1(F:aX)(r:Option (cH×Ev)):Option (cH×Ev):=r.bind λp=>AF p.2 (F [p.1])
@[simp] theorem sX:qx1 F (b3 (x,δ))=AF δ (F [x]):=rfl
@[simp high] theorem call1:bZ 1 [] F (aE fa bT) δ=qx1 F (fa δ):=by
 rw[LX,DC];cases fa δ with
 |none=>rfl
 |some p=>exact BJ (as:=[.d p.1]) rfl rfl rfl rfl
def qx2(F:aX)(r:Option (cH×Ev))(fb:VF):Option (cH×Ev):=r.bind λp=>(fb p.2).bind λq=>AF q.2 (F [p.1,q.1])
def qx2b(F:aX)(x:cH)(r:Option (cH×Ev)):Option (cH×Ev):=r.bind λq=>AF q.2 (F [x,q.1])
@[simp] theorem oS:qx2 F (b3 (x,δ)) fb=qx2b F x (fb δ):=rfl
@[simp] theorem tR:qx2b F x (b3 (y,δ))=AF δ (F [x,y]):=rfl
@[simp high] theorem call2:bZ 2 [] F (aE fa (aE fb bT)) δ=qx2 F (fa δ) fb:=by
 rw[LX,DC];cases fa δ with
 |none=>rfl
 |some p=>
  rw[qa_s,DC,oS];cases fb p.2 with
  |none=>rfl
  |some q=>exact BJ (as:=[.d p.1,.d q.1]) rfl rfl rfl rfl
def qx3(F:aX)(r:Option (cH×Ev))(fb fc:VF):Option (cH×Ev):=r.bind λp=>(fb p.2).bind λq=>(fc q.2).bind λs=>AF s.2 (F [p.1,q.1,s.1])
def qx3b(F:aX)(x:cH)(r:Option (cH×Ev))(fc:VF):Option (cH×Ev):=r.bind λq=>(fc q.2).bind λs=>AF s.2 (F [x,q.1,s.1])
def qx3c(F:aX)(x y:cH)(r:Option (cH×Ev)):Option (cH×Ev):=r.bind λs=>AF s.2 (F [x,y,s.1])
@[simp] theorem pB:qx3 F (b3 (x,δ)) fb fc=qx3b F x (fb δ) fc:=rfl
@[simp] theorem oa:qx3b F x (b3 (y,δ)) fc=qx3c F x y (fc δ):=rfl
@[simp] theorem uP:qx3c F x y (b3 (z,δ))=AF δ (F [x,y,z]):=rfl
@[simp high] theorem call3:bZ 3 [] F (aE fa (aE fb (aE fc bT))) δ=qx3 F (fa δ) fb fc:=by
 rw[LX,DC];cases fa δ with
 |none=>rfl
 |some p=>
  rw[qa_s,DC,pB];cases fb p.2 with
  |none=>rfl
  |some q=>
   rw[qa_s,DC,oa];cases fc q.2 with
   |none=>rfl
   |some s=>exact BJ (as:=[.d p.1,.d q.1,.d s.1]) rfl rfl rfl rfl
noncomputable def qw3(j:Nat)(δ:Ev):Option (cH×List cH)->Option (cH×Ev)
 |some (r,[o])=>b3 (r,δ.set j (.ow o))
 |_=>b4
def qw2(F:aX)(j:Nat)(x y:cH)(δ:Ev):Option Sl->Option (cH×Ev)
 |some (.ow d)=>qw3 j δ (F [x,d,y])
 |_=>b4
def qwb(F:aX)(j:Nat)(x:cH)(r:Option (cH×Ev)):Option (cH×Ev):=r.bind λq=>qw2 F j x q.1 q.2 q.2[j]?
def qwa(F:aX)(j:Nat)(x:cH)(δ:Ev)(fb:VF)(s:Option cH):Option (cH×Ev):=s.bind λ_=>qwb F j x (fb δ)
def qw(F:aX)(j:Nat)(r:Option (cH×Ev))(fb:VF):Option (cH×Ev):=r.bind λp=>qwa F j p.1 p.2 fb (slot p.2 j)
@[simp] theorem sP:qw3 j δ (b3 (x,[o]))=b3 (x,δ.set j (.ow o)):=rfl
@[simp] theorem rV:qw2 F j x y δ (b3 (.ow d))=qw3 j δ (F [x,d,y]):=rfl
@[simp] theorem iT:qwb F j x (b3 (y,δ))=qw2 F j x y δ δ[j]? :=rfl
@[simp] theorem pS:qwa F j x δ fb (b3 d)=qwb F j x (fb δ):=rfl
@[simp] theorem qw_s:qw F j (b3 (x,δ)) fb=qwa F j x δ fb (slot δ j):=rfl
@[simp high] theorem callO:bZ 3 [1] F (aE fa (aO j (aE fb bT))) δ=qw F j (fa δ) fb:=by
 rw[LX,DC];cases fa δ with
 |none=>rfl
 |some p=>
  obtain⟨x,δ1⟩:=p;rw[qa_s,aO_e,qw_s];cases h:slot δ1 j with
  |none=>rfl
  |some b=>
   rw[lQ,DC,pS];cases fb δ1 with
   |none=>rfl
   |some q=>
    obtain⟨y,δ2⟩:=q;rw[iT,qa_s,qr,Wd,Wd,Wd,rq];cases h2:δ2[j]? with
    |none=>simp[h2,qsl,qCb,qw2]
    |some s=>
     cases s with
     |no=>simp[h2,qsl,qCb,qw2]
     |va d=>simp[h2,qw2]
     |ow d=>
      simp[h2];cases F [x,d,y]with
      |none=>rfl
      |some r=>
       obtain⟨v,os⟩:=r;cases os with
       |nil=>simp[qw3]
       |cons o os=>
        cases os with
        |nil=>simp
        |cons a os=>simp[qw3]
end
def MO:cH:=.int 999
def nU:cH:=.tup [.str "plus",.str "minus",.str "times",.str "least",.str "most",.str "less",.str "over"]
def MN:cH:=.int 64
def MM:cH:=.int 40
def OD:cH:=.int 63
def FE:cH:=.tup [.str "row",.str "row"]
def QK:cH:=.dct [.inr "number",.inr "pick",.inr "load",.inr "take",.inr "store",.inr "put"] [.tup [.str "word"],.tup [.str "row",.str "row",.str "row"],.tup [.str "place"],.tup [.str "place",.str "row",.str "row"],.tup [.str "place",.str "row"],.tup [.str "place",.str "row",.str "row"]]
def eP:cH:=.tup [.str "load",.str "take"]
def VY:cH:=.tup [.str "store",.str "put"]
def JO:cH:=.int 2
def FF:cH:=.int 4
noncomputable abbrev JF:List Uv:=["NoBlock","NoLanes","NoPlan","NotValid"]
noncomputable abbrev SI:List Uv:=["NoBlock","NoCells","NoRow","NoLanes","NoPlan","NoProgram","NoTree","NoLoop","NoText","NoName","TooMany","TooLong","NotValid","Nothing"]
def P0:VS:=
   (bV (XS (FC (fB (f2 QD (fV 0) (fC (.ty "bool")))) (VA (fB (f2 QD (fV 0) (fC (.ty "int"))))))
   (bE (fC (.bl bb)))
   Z2)
   (bE (f3 oLe oLe (fV 1) (fV 0) (fV 2))))
def aR:aX:=aC 3 [] P0
def KN:VS:=
   (bV (XS (fB (f2 (ZN bb) (fV 0) (fC nU)))
   (bE (fC FE))
   Z2)
   (bE (f2 dI (fC QK) (fV 0))))
def ZF:aX:=aC 1 [] KN
def TY:VS:=
   (bE (f2 (ZN ba) (f2 bG (fV 0) (fC (.int 0))) (fC VY)))
def V2:aX:=aC 1 [] TY
def KO:VS:=
   (bE (fIf (FC (fB (f2 (ZN bb) (f2 bG (fV 0) (fC (.int 0))) (fC eP))) (fB (f2 (ZN bb) (f2 bG (fV 0) (fC (.int 0))) (fC VY)))) (f2 bG (fV 0) (fC (.int 1))) (fC .non)))
def WZ:aX:=aC 1 [] KO
def KL:VS:=
   (bV (IQ 1 2 (fV 0))
   (bE (ZZ [] 2 (iZip (bZ 1 [] ZF (aE (fV 1) bT)) (fV 2)) (E6 2 (aG (gN 0) (aG (gN 1) WI))) (fB (f2 V0 (fV 0) (fC (.str "row")))) (fV 1))))
def TD:aX:=aC 3 [] KL
def P7:VS:=
   (bE (RK (bZ 3 [] aR (aE (fV 0) (aE (fC (.int 0)) (aE (f2 JS (f1 YW (fV 1)) (fC (.int 1))) bT)))) (f2 bG (fV 1) (fV 0))))
def S9:aX:=aC 2 [] P7
def KH:VS:=
   (bV (XS (fB (f2 V0 (fV 0) (fC (.str "word"))))
   (bE (bZ 3 [] aR (aE (fV 1) (aE (fC (.int 0)) (aE (fC MO) bT)))))
   Z2)
   (bV (XS (fB (f2 V0 (fV 0) (fC (.str "place"))))
   (bE (bZ 3 [] aR (aE (fV 1) (aE (fC (.int 0)) (aE (fC OD) bT)))))
   Z2)
   (bE (bZ 2 [] S9 (aE (fV 1) (aE (fV 2) bT))))))
def RE:aX:=aC 3 [] KH
def KJ:VS:=
   (bV (XS (FC (VA (fB (f2 QD (fV 0) (fC (.ty "tuple"))))) (fB (f2 V0 (f1 YW (fV 0)) (fC (.int 0)))))
   (bE (fC (.bl bb)))
   Z2)
   (bV (IQ 2 3 (fV 0))
   (bV (aL 4 (xV (fIf (fB (f2 QD (fV 2) (fC (.ty "str")))) (bZ 1 [] ZF (aE (fV 2) bT)) (fC .non))))
   (bV (XS (FC (fB (f2 QS (fV 4) (fC .non))) (fB (f2 QE (f1 YW (fV 4)) (f1 YW (fV 3)))))
   (bE (fC (.bl bb)))
   Z2)
   (bE (f1 oAll (ZZ [1] 2 (iZip (fV 4) (fV 3)) (E6 2 (aG (gN 1) (aG (gN 2) WI))) X7 (bZ 3 [] RE (aE (fV 1) (aE (fV 2) (aE (fV 0) bT)))))))))))
def N4:aX:=aC 5 [] KJ
def XU:VS:=
   (bV (XS (VA (fB (bZ 2 [] N4 (aE (fV 4) (aO 3 bT)))))
   (bE (fC (.bl bb)))
   Z2)
   (T7 3 QA (cA (bZ 1 [] V2 (aE (fV 4) bT)) bH)))
def PZ:VS:=
   (bV (XS (FC (VA (fB (f2 QD (fV 0) (fC (.ty "tuple"))))) (fB (f2 QE (f1 YW (fV 0)) (fC (.int 2)))))
   (bE (fC (.bl bb)))
   Z2)
   (bV (sAsg (fV 0) (E6 2 (aG (gN 1) (aG (gN 2) WI))))
   (bV (XS (VA (fB (bZ 3 [] aR (aE (fV 1) (aE (fC (.int 0)) (aE (fC MN) bT))))))
   (bE (fC (.bl bb)))
   Z2)
   (bV (XS (FC (VA (fB (f2 QD (fV 2) (fC (.ty "tuple"))))) (fB (f2 oGt (f1 YW (fV 2)) (fC MM))))
   (bE (fC (.bl bb)))
   Z2)
   (bV (aL 3 (xO (Y8 bH)))
   (bV (MI (YG (fV 2)) (gN 4)
   XU)
   (bE (fC (.bl ba)))))))))
def ZD:aX:=aC 5 [] PZ
def DO:VS:=
   (bE (f2 (ZN bb) (f2 bG (fV 0) (fC (.int 0))) (fC VY)))
def RF:aX:=aC 1 [] DO
def UI:VS:=
   (bE (RK (f2 V0 (f2 bG (fV 0) (fC (.int 0))) (fC (.str "number"))) (f2 QE (f2 bG (fV 0) (fC (.int 1))) (fC (.int 0)))))
def UD:aX:=aC 1 [] UI
def MS:VS:=
   (bV (sAsg (fV 0) (E6 2 (aG (gN 2) (aG (gN 3) WI))))
   (bV (aL 4 (xV (f2 bG (fV 3) (fV 1))))
   (bV (XS (fB (f2 V0 (f2 bG (fV 4) (fC (.int 0))) (fC (.str "over"))))
   (bE (fNot (bZ 1 [] UD (aE (f2 bG (fV 3) (f2 bG (fV 4) (fC (.int 2)))) bT))))
   Z2)
   (bV (aL 5 (xV (bZ 1 [] WZ (aE (fV 4) bT))))
   (bE (RK (f2 OU (fV 5) (fC .non)) (f2 oGe (fV 5) (fV 2))))))))
def RD:aX:=aC 6 [] MS
def WR:VS:=
   (bE (RK (f2 V0 (bZ 1 [] WZ (aE (fV 0) bT)) (bZ 1 [] WZ (aE (fV 1) bT))) (fOr (bZ 1 [] RF (aE (fV 0) bT)) (bZ 1 [] RF (aE (fV 1) bT)))))
def WO:aX:=aC 2 [] WR
def MV:VS:=
   (bV (aL 3 (xV (f2 bG (fV 0) (fC (.int 1)))))
   (bV (XS (FC (fB (f2 (ZN bb) (fV 1) (bZ 1 [] TD (aE (f2 bG (fV 3) (fV 2)) bT)))) (fB (bZ 2 [] WO (aE (f2 bG (fV 3) (fV 1)) (aE (f2 bG (fV 3) (fV 2)) bT)))))
   (bE (fC (.bl ba)))
   Z2)
   (bV (EH 4 5 (xV (bZ 2 [] RD (aE (fV 0) (aE (fV 1) bT)))) (xV (bZ 2 [] RD (aE (fV 0) (aE (fV 2) bT)))))
   (bV (XS (M6 (fB (fV 4)) (fB (fV 5)))
   (bE (fC (.bl ba)))
   Z2)
   (bE (fOr (RK (fV 4) (bZ 1 [] RF (aE (f2 bG (fV 3) (fV 2)) bT))) (RK (fV 5) (bZ 1 [] RF (aE (f2 bG (fV 3) (fV 1)) bT)))))))))
def MJ:aX:=aC 6 [] MV
def OJ:VS:=
   (bV (aL 1 (xV (f1 YW (f2 bG (fV 0) (fC (.int 1))))))
   (bV (aL 2 (xV (RM [1] 2 (iR1 (fV 1)) (gN 1) X7 (iR2 (f2 Y7 (fV 1) (fC (.int 1))) (fV 0)) (gN 2) X7 (ZT (cA (fV 1) (cA (fV 2) bH))))))
   (bE (ZZ [0] 2 (YG (fV 2)) (E6 2 (aG (gN 1) (aG (gN 2) WI))) (fB (bZ 3 [] MJ (aE (fV 0) (aE (fV 1) (aE (fV 2) bT))))) (ZT (cA (fV 1) (cA (fV 2) bH)))))))
def TC:aX:=aC 3 [] OJ
def KI:VS:=
   (bE (bZ 3 [] aR (aE (fV 0) (aE (fC JO) (aE (fC FF) bT)))))
def YO:aX:=aC 1 [] KI
def T0:VS:=
   (bV (aL 3 (xV (f2 bG (f2 bG (fV 0) (fV 1)) (fC (.int 0)))))
   (bV (XS (FC (fB (f2 oGe (fV 1) (fV 2))) (FC (fB (f2 V0 (fV 3) (fC (.str "number")))) (fB (f2 QE (f2 bG (f2 bG (fV 0) (fV 2)) (fC (.int 0))) (fV 3)))))
   (bE (fC (.bl bb)))
   Z2)
   (bV (aL 4 (xV (bZ 1 [] WZ (aE (f2 bG (fV 0) (fV 1)) bT))))
   (bE (fOr (f2 QS (fV 4) (fC .non)) (f2 V0 (bZ 1 [] WZ (aE (f2 bG (fV 0) (fV 2)) bT)) (f2 Y7 (fV 4) (fC (.int 1)))))))))
def V3:aX:=aC 5 [] T0
def UH:VS:=
   (bV (aL 3 (xV (f2 bG (fV 0) (fC (.int 1)))))
   (bV (XS (FC (VA (fB (f2 QD (fV 2) (fC (.ty "tuple"))))) (fB (f2 QE (f1 YW (fV 2)) (fV 1))))
   (bE (fC (.bl bb)))
   Z2)
   (bV (XS (VA (fB (f1 oAll (ZZ [3] 1 (YG (fV 2)) (gN 1) X7 (bZ 3 [] aR (aE (fV 1) (aE (fC (.int 0)) (aE (f2 JS (f1 YW (fV 0)) (fC (.int 1))) bT))))))))
   (bE (fC (.bl bb)))
   Z2)
   (bV (XS (VA (fB (f1 oAll (ZZ [3] 2 (iZip (fV 2) (fSl (fV 2) (pSo (fC (.int 1))) pNo)) (E6 2 (aG (gN 1) (aG (gN 2) WI))) X7 (bZ 3 [] V3 (aE (fV 0) (aE (fV 1) (aE (fV 2) bT))))))))
   (bE (fC (.bl bb)))
   Z2)
   (bE (fNot (f1 oAny (RM [2,3] 2 (YG (fV 2)) (gN 2) X7 (YG (bZ 1 [] TD (aE (f2 bG (fV 1) (fV 2)) bT))) (gN 3) X7 (f2 (ZN bb) (fV 3) (fV 0))))))))))
def ZM:aX:=aC 4 [] UH
def QL:VS:=
   (bE (RM [] 2 (YG (fV 0)) (gN 0) X7 (YG (fV 0)) (gN 1) X7 (fV 1)))
def UX:aX:=aC 1 [] QL
def U3:VS:=
   (bV (XS (FC (VA (fB (f2 QD (fV 2) (fC (.ty "tuple"))))) (VA (fB (f1 oAll (ZZ [0,1] 1 (YG (fV 2)) (gN 2) X7 (bZ 3 [] ZM (aE (fV 0) (aE (fV 1) (aE (fV 2) bT)))))))))
   (bE (fC (.bl bb)))
   Z2)
   (bV (aL 3 (xV (bZ 1 [] UX (aE (fV 2) bT))))
   (bE (RK (f2 V0 (f1 Zo (fV 3)) (f1 YW (fV 3))) (f2 V0 (f1 K2 (fV 2)) (f1 NM (fV 2)))))))
def aQ:aX:=aC 4 [] U3
def WT:VS:=
   (bV (XS (VA (fB (bZ 1 [] ZD (aE (fV 0) bT))))
   (λ_=>b4)
   Z2)
   (XS (VA (fB (bZ 1 [] YO (aE (fV 1) bT))))
   (λ_=>b4)
   Z2))
def a6:aX:=aC 2 [] WT
def WW:VZ:=
   (UC (C8 (VA (fB (bZ 1 [] ZD (aE (fV 0) bT)))) (λδ=>b3 (("NoBlock",b4),δ)) zNo)
   (QT (XS (VA (fB (bZ 1 [] ZD (aE (fV 0) bT))))
   (λ_=>b4)
   Z2)
   (C8 (VA (fB (bZ 1 [] YO (aE (fV 1) bT)))) (λδ=>b3 (("NoLanes",b4),δ)) zNo)))
def a8:List cH->Option Xw:=VN 2 WW
def XX:VS:=
   (bV (US (bZ 2 [] a6 (aE (fV 0) (aE (fV 1) bT))))
   (XS (VA (fB (bZ 3 [] aQ (aE (fV 0) (aE (fV 1) (aE (fV 2) bT))))))
   (λ_=>b4)
   Z2))
def bB:aX:=aC 3 [] XX
def X6:VZ:=
   (UC (YT 2 a8 (aE (fV 0) (aE (fV 1) bT)))
   (QT (US (bZ 2 [] a6 (aE (fV 0) (aE (fV 1) bT))))
   (C8 (VA (fB (bZ 3 [] aQ (aE (fV 0) (aE (fV 1) (aE (fV 2) bT)))))) (λδ=>b3 (("NoPlan",b4),δ)) zNo)))
def aW:List cH->Option Xw:=VN 3 X6
def OK:VS:=
   (bV (aL 2 (xV (bZ 1 [] UX (aE (fV 1) bT))))
   (bE (ZZ [2] 1 (iR1 (f1 YW (f2 bG (fV 0) (fC (.int 1))))) (gN 1) (fB (f2 (ZN ba) (fV 1) (fV 0))) (fV 1))))
def N5:aX:=aC 3 [] OK
def KM:VS:=
   (bE (f1 NM (f2 Y7 (f1 K2 (fV 1)) (ZZ [] 1 (YG (bZ 2 [] N5 (aE (fV 0) (aE (fV 1) bT)))) (gN 0) X7 (ZT (cA (fV 0) bH))))))
def TF:aX:=aC 2 [] KM
def KP:VS:=
   (bV (aL 2 (xO (fNO (YG (fV 1)))))
   (bV (sWt 3 4 5 (YG (fV 1)) (YG (fV 0)) (fB (f2 QE (f2 bG (fO 2) (fV 4)) (f2 bG (fO 2) (fV 5)))) (f2 bG (fO 2) (fV 5)) (f2 bG (fO 2) (fV 4)))
   (bE (fO 3))))
def TH:aX:=aC 6 [] KP
def JL:VS:=
   (XS (M6 (fB (f2 (oInT ba) (fV 3) (fV 2))) (fB (f1 oAll (ZZ [2] 1 (YG (f2 oIxT (fV 1) (fV 3))) (gN 1) X7 (f2 (oInT bb) (fV 1) (fV 0))))))
   (bE (fV 3))
   Z2)
def MW:VS:=
   (bV (MI (YG (fV 0)) (gN 3)
   JL)
   (bE (fC .non)))
def MK:aX:=aC 4 [] MW
def RH:VS:=
   (bV (aL 4 (xV (bZ 3 [] MK (aE (fV 1) (aE (fV 2) (aO 3 bT))))))
   (bV (XS (fB (f2 QS (fV 4) (fC .non)))
   (bE (fC .non))
   Z2)
   (CS 3 (fV 4) (fC (.bl ba)))))
def WA:VS:=
   (bV (aL 2 (xV (bZ 2 [] TH (aE (fV 0) (aE (fV 1) bT)))))
   (bV (aL 3 (xO (fC (.dcn [] []))))
   (bV (T8 (fB (f2 oLt (f1 Ws (fO 3)) (f1 YW (fV 1))))
   RH)
   (bE (f1 CA (fO 3))))))
def YK:aX:=aC 5 [] WA
def Q4:VS:=
   (bE (bZ 2 [] YK (aE (bZ 1 [] TC (aE (fV 0) bT)) (aE (bZ 2 [] TF (aE (fV 0) (aE (fV 1) bT))) bT))))
def ZU:aX:=aC 2 [] Q4
def Q2:VS:=
   (bV (US (bZ 2 [] a6 (aE (fV 0) (aE (fV 1) bT))))
   (bE (bZ 3 [] aQ (aE (fV 0) (aE (fV 1) (aE (fV 2) bT))))))
def VV:aX:=aC 3 [] Q2
def NW:VZ:=
   (YT 2 a8 (aE (fV 0) (aE (fV 1) bT)))
def UF:List cH->Option Xw:=VN 3 NW
def TU:VS:=
   (bV (US (bZ 3 [] bB (aE (fV 0) (aE (fV 1) (aE (fV 2) bT)))))
   (bE (f2 OU (bZ 2 [] ZU (aE (fV 0) (aE (fV 2) bT))) (fC .non))))
def WX:aX:=aC 3 [] TU
def QI:VZ:=
   (YT 3 aW (aE (fV 0) (aE (fV 1) (aE (fV 2) bT))))
def VH:List cH->Option Xw:=VN 3 QI
def LY:VS:=
   (bV (US (bZ 3 [] bB (aE (fV 0) (aE (fV 1) (aE (fV 2) bT)))))
   (bV (aL 3 (xV (bZ 2 [] ZU (aE (fV 0) (aE (fV 2) bT)))))
   (bV (XS (fB (f2 QS (fV 3) (fC .non)))
   (λ_=>b4)
   Z2)
   (λ_=>b4))))
def QW:aX:=aC 4 [] LY
def MA:VZ:=
   (UC (YT 3 aW (aE (fV 0) (aE (fV 1) (aE (fV 2) bT))))
   (QT (US (bZ 3 [] bB (aE (fV 0) (aE (fV 1) (aE (fV 2) bT)))))
   (QT (aL 3 (xV (bZ 2 [] ZU (aE (fV 0) (aE (fV 2) bT)))))
   (C8 (fB (f2 QS (fV 3) (fC .non))) (U8 "NotValid" "packs" (aE (fV 2) bT)) zNo))))
def TJ:List cH->Option Xw:=VN 4 MA
def FU:VS:=
   (bV (US (bZ 3 [] bB (aE (fV 0) (aE (fV 1) (aE (fV 2) bT)))))
   (bV (XS (fB (f2 QS (bZ 2 [] ZU (aE (fV 0) (aE (fV 2) bT))) (fC .non)))
   (λ_=>b4)
   Z2)
   (λ_=>b4)))
def M3:aX:=aC 3 [] FU
def G5:VZ:=
   (UC (YT 3 aW (aE (fV 0) (aE (fV 1) (aE (fV 2) bT))))
   (QT (US (bZ 3 [] bB (aE (fV 0) (aE (fV 1) (aE (fV 2) bT)))))
   (C8 (fB (f2 QS (bZ 2 [] ZU (aE (fV 0) (aE (fV 2) bT))) (fC .non))) (U8 "NotValid" "packs" (aE (fV 2) bT)) zNo)))
def PN:List cH->Option Xw:=VN 3 G5
def Q3:VS:=
   (bV (US (bZ 3 [] bB (aE (fV 0) (aE (fV 1) (aE (fV 2) bT)))))
   (bV (aL 3 (xV (bZ 2 [] ZU (aE (fV 0) (aE (fV 2) bT)))))
   (bV (XS (fB (f2 QS (fV 3) (fC .non)))
   (λ_=>b4)
   Z2)
   (λ_=>b4))))
def VW:aX:=aC 6 [] Q3
def RB:VZ:=
   (UC (YT 3 aW (aE (fV 0) (aE (fV 1) (aE (fV 2) bT))))
   (QT (US (bZ 3 [] bB (aE (fV 0) (aE (fV 1) (aE (fV 2) bT)))))
   (QT (aL 3 (xV (bZ 2 [] ZU (aE (fV 0) (aE (fV 2) bT)))))
   (C8 (fB (f2 QS (fV 3) (fC .non))) (U8 "NotValid" "packs" (aE (fV 2) bT)) zNo))))
def W3:List cH->Option Xw:=VN 6 RB
def SU:VS:=
   (aL 2 (xV (f2 Vu (fV 2) (fC (.int 1000003)))))
def UZ:VS:=
   (bV (XS (fB (f2 oLt (fV 1) (f1 YW (fV 0))))
   (bE (f2 bG (fV 0) (fV 1)))
   Z2)
   (bV (XS (fB (f2 V0 (fV 0) (Y8 bH)))
   (bE (fC (.int 0)))
   Z2)
   (bV (aL 2 (xV (f2 bG (fV 0) (f2 GA (fV 1) (f1 YW (fV 0))))))
   (bV (MI (iR1 (f2 oMin (f2 Vu (fV 1) (f1 YW (fV 0))) (fC (.int 60)))) (gN 3)
   SU)
   (bE (f2 Y7 (f2 Y7 (f2 K3 (f2 bG (fV 0) (f2 GA (fV 1) (f1 YW (fV 0)))) (fC (.int 31))) (fV 1)) (f2 K3 (fV 2) (fC (.int 101)))))))))
def YY:aX:=aC 4 [] UZ
def RO:VS:=
   (bV (aL 3 (xV (f2 GA (f2 Y7 (f2 Y7 (f2 K3 (bZ 2 [] YY (aE (fV 0) (aE (fV 1) bT))) (fC (.int 1103515245))) (f2 K3 (fC (.int 7919)) (fV 1))) (fC (.int 12345))) (fC (.int 2147483647)))))
   (bE (f2 GA (f2 GA (f2 GA (f2 oPow (fV 3) (fC (.int 5))) (fC (.int 2147483647))) (fC (.int 999983))) (fV 2))))
def U1:aX:=aC 4 [] RO
def P1:VS:=
   (bV (T7 1 QA (cA (fC (.int 0)) bH))
   (bE (bZ 3 [] U1 (aE (fV 0) (aE (f1 YW (fO 1)) (aE (fV 2) bT))))))
def aF:aX:=aC 3 [1] P1
def P5:VS:=
   (bE (f2 bG (fV 2) (bZ 3 [1] aF (aE (fV 0) (aO 1 (aE (f1 YW (fV 2)) bT))))))
def Z6:aX:=aC 3 [1] P5
def RP:VS:=
   (bV (EF 2 (fV 3) (f2 GA (f2 Y7 (FO 2 (fV 3) (bZ 3 [1] aF (aE (fV 0) (aO 1 (aE (fV 4) bT))))) (bZ 3 [1] Z6 (aE (fV 0) (aO 1 (aE (Y8 (cA (fC (.int 1)) (cA (fC (.int 1)) (cA (fC (.int 1)) (cA (fC (.int 0)) (cA (fC (.int 3)) bH)))))) bT))))) (fV 4)))
   (bE (f2 bG (fO 2) (fV 3))))
def ZJ:aX:=aC 5 [1,2] RP
def NE:VS:=
   (bV (aL 5 (xV (bZ 3 [1] aF (aE (fV 0) (aO 1 (aE (fC (.int 13)) bT))))))
   (bV (XS (FC (fB (f2 V0 (fV 2) (Y8 bH))) (fB (f2 V0 (fV 5) (fC (.int 0)))))
   (bV (XS (fB (f2 V0 (bZ 3 [1] aF (aE (fV 0) (aO 1 (aE (fC (.int 2)) bT)))) (fC (.int 0))))
   (bE (ZT (cA (fC (.str "number")) (cA (bZ 3 [1] Z6 (aE (fV 0) (aO 1 (aE (Y8 (cA (fC (.int 0)) (cA (fC (.int 1)) (cA (fC (.int 2)) (cA (fC (.int 5)) (cA (fC (.int 999)) (cA (bZ 3 [1] aF (aE (fV 0) (aO 1 (aE (fC (.int 1000)) bT)))) bH))))))) bT)))) bH))))
   Z2)
   (bE (ZT (cA (fC (.str "load")) (cA (bZ 5 [1,2] ZJ (aE (fV 0) (aO 1 (aO 3 (aE (fC (.str "load")) (aE (fV 4) bT)))))) bH)))))
   Z2)
   (bV (sAsg (ZZ [0,1,2] 1 (iR1 (fC (.int 3))) (gN 3) X7 (f2 bG (fV 2) (f2 oMax (fC (.int 0)) (f2 JS (f2 JS (f1 YW (fV 2)) (fC (.int 1))) (bZ 3 [1] aF (aE (fV 0) (aO 1 (aE (fC (.int 6)) bT)))))))) (E6 3 (aG (gN 6) (aG (gN 7) (aG (gN 8) WI)))))
   (bV (XS (fB (f2 (ZN bb) (fV 5) (ZT (cA (fC (.int 1)) (cA (fC (.int 2)) bH)))))
   (bE (ZT (cA (fC (.str "load")) (cA (bZ 5 [1,2] ZJ (aE (fV 0) (aO 1 (aO 3 (aE (fC (.str "load")) (aE (fV 4) bT)))))) bH))))
   Z2)
   (bV (XS (fB (f2 V0 (fV 5) (fC (.int 3))))
   (bE (ZT (cA (fC (.str "take")) (cA (bZ 5 [1,2] ZJ (aE (fV 0) (aO 1 (aO 3 (aE (fC (.str "take")) (aE (fV 4) bT)))))) (cA (fV 8) (cA (fV 6) bH))))))
   Z2)
   (bV (XS (fB (f2 (ZN bb) (fV 5) (ZT (cA (fC (.int 4)) (cA (fC (.int 5)) bH)))))
   (bE (ZT (cA (fC (.str "store")) (cA (bZ 5 [1,2] ZJ (aE (fV 0) (aO 1 (aO 3 (aE (fC (.str "store")) (aE (fV 4) bT)))))) (cA (fV 6) bH)))))
   Z2)
   (bV (XS (fB (f2 V0 (fV 5) (fC (.int 6))))
   (bE (ZT (cA (fC (.str "put")) (cA (bZ 5 [1,2] ZJ (aE (fV 0) (aO 1 (aO 3 (aE (fC (.str "put")) (aE (fV 4) bT)))))) (cA (fV 6) (cA (fV 8) bH))))))
   Z2)
   (bV (XS (fB (f2 V0 (fV 5) (fC (.int 7))))
   (bE (ZT (cA (fC (.str "pick")) (cA (fV 8) (cA (fV 6) (cA (fV 7) bH))))))
   Z2)
   (bE (ZT (cA (f2 bG (Y8 (cA (fC (.str "over")) (cA (fC (.str "plus")) (cA (fC (.str "minus")) (cA (fC (.str "times")) (cA (fC (.str "least")) (cA (fC (.str "most")) (cA (fC (.str "less")) bH)))))))) (bZ 3 [1] aF (aE (fV 0) (aO 1 (aE (fC (.int 7)) bT))))) (cA (fV 6) (cA (fV 7) bH)))))))))))))
def QV:aX:=aC 9 [1,3] NE
def YL:VS:=
   (bV (aL 10 (xV (f2 Y7 (f2 B9 (fV 3) (fV 9)) (bZ 3 [1] Z6 (aE (fV 0) (aO 1 (aE (Y8 (cA (fC (.int 1)) (cA (fC (.int 1)) (cA (fC (.int 1)) (cA (fC (.int 1)) (cA (f1 GB (fC (.int 1))) (cA (fC (.int 0)) (cA (fC (.int 2)) bH)))))))) bT)))))))
   (T7 8 QA (cA (fIf (M6 (fB (f3 oLe oLt (fC (.int 0)) (fV 10) (f1 YW (fV 3)))) (fB (f2 QE (f2 bG (fV 3) (fV 10)) (f2 JS (f1 YW (fV 2)) (fC (.int 1)))))) (f2 bG (fV 3) (fV 10)) (fV 9)) bH)))
def TW:VS:=
   (bV (aL 6 (xV (f2 bG (fV 2) (f1 GB (fC (.int 1))))))
   (bV (aL 7 (xV (fIf (fB (f2 (ZN bb) (f2 bG (fV 6) (fC (.int 0))) (ZT (cA (fC (.str "load")) (cA (fC (.str "take")) (cA (fC (.str "store")) (cA (fC (.str "put")) bH))))))) (fC (.int 2)) (fC (.int 1)))))
   (bV (aL 8 (xO (Y8 bH)))
   (bV (MI (YG (fSl (fV 6) (pSo (fV 7)) pNo)) (gN 9)
   YL)
   (bV (XS (fB (f2 V0 (fV 7) (fC (.int 1))))
   (bE (f2 Y7 (fSl (fV 6) pNo (pSo (fC (.int 1)))) (f1 RX (fO 8))))
   Z2)
   (bV (EF 4 (f2 bG (fV 6) (fC (.int 0))) (f2 GA (f2 Y7 (f2 bG (fV 6) (fC (.int 1))) (fC (.int 1))) (fV 5)))
   (bE (f2 Y7 (ZT (cA (f2 bG (fV 6) (fC (.int 0))) (cA (f2 bG (fO 4) (f2 bG (fV 6) (fC (.int 0)))) bH))) (f1 RX (fO 8))))))))))
def YA:aX:=aC 11 [1,4] TW
def YM:VS:=
   (XS (M6 (fB (f2 oLt (f1 YW (fO 4)) (fV 2))) (fB (f2 QE (f2 bG (f2 bG (fO 4) (f1 GB (fC (.int 1)))) (fC (.int 0))) (fC (.str "number")))))
   (bV (T7 4 QA (cA (bZ 6 [1,4] YA (aE (fV 0) (aO 1 (aO 4 (aO 5 (aO 6 (aE (fV 3) bT))))))) bH))
   (XS (fB (f2 (ZN ba) (f2 bG (f2 bG (fO 4) (f1 GB (fC (.int 1)))) (fC (.int 0))) (ZT (cA (fC (.str "store")) (cA (fC (.str "put")) bH)))))
   (T7 5 QA (cA (f2 JS (f1 YW (fO 4)) (fC (.int 1))) bH))
   Z2))
   Z2)
def V7:VS:=
   (bV (T7 4 QA (cA (bZ 5 [1,3] QV (aE (fV 0) (aO 1 (aO 5 (aO 6 (aE (fV 3) bT)))))) bH))
   (bV (XS (fB (f2 (ZN ba) (f2 bG (f2 bG (fO 4) (f1 GB (fC (.int 1)))) (fC (.int 0))) (ZT (cA (fC (.str "store")) (cA (fC (.str "put")) bH)))))
   (T7 5 QA (cA (f2 JS (f1 YW (fO 4)) (fC (.int 1))) bH))
   Z2)
   (MI (iR1 (bZ 3 [1] Z6 (aE (fV 0) (aO 1 (aE (Y8 (cA (fC (.int 0)) (cA (fC (.int 1)) (cA (fC (.int 1)) (cA (fC (.int 2)) (cA (fC (.int 3)) bH)))))) bT))))) (gN 7)
   YM)))
def P6:VS:=
   (bV (LD 4 5 6 (xO (Y8 bH)) (xO (Y8 bH)) (xO (fC (.dct [] []))))
   (bV (T8 (fB (f2 oLt (f1 YW (fO 4)) (fV 2)))
   V7)
   (bE (f1 RX (fO 4)))))
def SZ:aX:=aC 8 [1] P6
def MT:VS:=
   (bV (XS (fB (f2 V0 (f2 bG (fV 0) (fC (.int 0))) (fC (.str "number"))))
   (bE (Y8 bH))
   Z2)
   (bE (fIf (fB (f2 (ZN bb) (f2 bG (fV 0) (fC (.int 0))) (ZT (cA (fC (.str "load")) (cA (fC (.str "take")) (cA (fC (.str "store")) (cA (fC (.str "put")) bH))))))) (f1 K2 (fSl (fV 0) (pSo (fC (.int 2))) pNo)) (f1 K2 (fSl (fV 0) (pSo (fC (.int 1))) pNo)))))
def Y6:aX:=aC 1 [] MT
def NC:VS:=
   (bV (aL 2 (xV (f2 bG (f2 bG (fV 0) (fC (.int 1))) (fV 1))))
   (bV (XS (fB (f2 (ZN bb) (f2 bG (fV 2) (fC (.int 0))) (ZT (cA (fC (.str "load")) (cA (fC (.str "take")) (cA (fC (.str "store")) (cA (fC (.str "put")) bH)))))))
   (bE (f2 oGe (f2 bG (fV 2) (fC (.int 1))) (f2 bG (fV 0) (fC (.int 0)))))
   Z2)
   (bE (RK (f2 V0 (f2 bG (fV 2) (fC (.int 0))) (fC (.str "over"))) (f2 (ZN ba) (fSl (f2 bG (f2 bG (fV 0) (fC (.int 1))) (f2 bG (fV 2) (fC (.int 2)))) pNo (pSo (fC (.int 2)))) (ZZ [] 1 (iR2 (fC (.int 1)) (fC (.int 1000))) (gN 0) X7 (ZT (cA (fC (.str "number")) (cA (fV 0) bH)))))))))
def WY:aX:=aC 3 [] NC
def V5:VS:=
   (bV (aL 7 (xV (ZZ [] 1 (YG (ZT (cA (fV 6) (cA (fV 4) bH)))) (gN 0) (fB (f2 (ZN bb) (f2 bG (fV 0) (fC (.int 0))) (ZT (cA (fC (.str "store")) (cA (fC (.str "put")) bH))))) (fV 0))))
   (bV (aL 8 (xO (Y8 (cA (f2 (ZN bb) (fV 5) (bZ 1 [] Y6 (aE (fV 4) bT))) (cA (RK (bZ 2 [] WY (aE (fV 0) (aE (fV 5) bT))) (bZ 2 [] WY (aE (fV 0) (aE (fV 3) bT)))) bH)))))
   (bV (T7 8 QA (cA (RK (f2 (ZN bb) (f2 bG (fV 6) (fC (.int 0))) (fV 2)) (RK (f2 (ZN bb) (f2 bG (fV 4) (fC (.int 0))) (fV 2)) (RK (f2 V0 (f2 bG (fV 6) (fC (.int 1))) (f2 bG (fV 4) (fC (.int 1)))) (f2 QE (fV 7) (Y8 bH))))) bH))
   (bV (T7 8 QA (cA (RK (bZ 2 [] WY (aE (fV 0) (aE (fV 5) bT))) (f2 (ZN bb) (f2 bG (fV 4) (fC (.int 0))) (ZT (cA (fC (.str "store")) (cA (fC (.str "put")) bH))))) bH))
   (bV (T7 8 QA (cA (RK (bZ 2 [] WY (aE (fV 0) (aE (fV 3) bT))) (f2 (ZN bb) (f2 bG (fV 6) (fC (.int 0))) (ZT (cA (fC (.str "store")) (cA (fC (.str "put")) bH))))) bH))
   (XS (fB (f2 (ZN bb) (fC (.bl ba)) (fO 8)))
   (T7 1 QA (cA (ZT (cA (fV 5) (cA (fV 3) bH))) bH))
   Z2))))))
def V6:VS:=
   (MI (KQ (fSl (f2 bG (fV 0) (fC (.int 1))) pNo (pSo (fV 3)))) (E6 2 (aG (gN 5) (aG (gN 6) WI)))
   V5)
def P2:VS:=
   (bV (EH 1 2 (xO (Y8 bH)) (xV (ZT (cA (fC (.str "load")) (cA (fC (.str "take")) (cA (fC (.str "store")) (cA (fC (.str "put")) bH)))))))
   (bV (MI (KQ (f2 bG (fV 0) (fC (.int 1)))) (E6 2 (aG (gN 3) (aG (gN 4) WI)))
   V6)
   (bE (f1 NM (fO 1)))))
def SY:aX:=aC 9 [] P2
def ZA:VS:=
   (bV (aL 6 (xV (ZZ [3,4] 1 (YG (fO 4)) (gN 2) (fB (f2 V0 (ZZ [1,2] 2 (YG (fV 0)) (E6 2 (aG (gN 2) (aG (gN 3) WI))) (M6 (fB (f2 V0 (fV 3) (fV 1))) (fB (f2 (ZN bb) (fV 2) (fO 0)))) (fC (.int 1))) (Y8 bH))) (fV 2))))
   (bV (T7 5 QA (cA (bZ 3 [1] Z6 (aE (fV 0) (aO 1 (aE (fV 6) bT)))) bH))
   (T7 4 mRem (cA (f2 bG (fO 5) (f1 GB (fC (.int 1)))) bH))))
def XY:VS:=
   (bV (LD 3 4 5 (xV (bZ 1 [] SY (aE (fV 2) bT))) (xO (Q1 (f1 YW (f2 bG (fV 2) (fC (.int 1)))))) (xO (Y8 bH)))
   (bV (T8 (fB (f2 QE (fO 4) (Y8 bH)))
   ZA)
   (bE (fO 5))))
def YS:aX:=aC 7 [1] XY
def ZY:VS:=
   (bV (XS (fB (f2 V0 (f2 bG (fV 0) (fC (.int 0))) (fC (.str "number"))))
   (bE (fV 0))
   Z2)
   (bV (aL 2 (xV (fIf (fB (f2 (ZN bb) (f2 bG (fV 0) (fC (.int 0))) (ZT (cA (fC (.str "load")) (cA (fC (.str "take")) (cA (fC (.str "store")) (cA (fC (.str "put")) bH))))))) (fC (.int 2)) (fC (.int 1)))))
   (bE (f2 Y7 (fSl (fV 0) pNo (pSo (fV 2))) (f1 RX (ZZ [1] 1 (YG (fSl (fV 0) (pSo (fV 2)) pNo)) (gN 1) X7 (f2 bG (fV 0) (fV 1))))))))
def a7:aX:=aC 3 [] ZY
def U4:VS:=
   (bV (aL 3 (xV (bZ 3 [1] Z6 (aE (fV 0) (aO 1 (aE (Y8 (cA (fC (.int 3)) (cA (fC (.int 6)) (cA (fC (.int 9)) (cA (fC (.int 64)) bH))))) bT))))))
   (bV (aL 4 (xV (bZ 3 [1] Z6 (aE (fV 0) (aO 1 (aE (Y8 (cA (fC (.int 0)) (cA (fV 3) (cA (fV 3) (cA (bZ 3 [1] aF (aE (fV 0) (aO 1 (aE (f2 Y7 (fV 3) (fC (.int 1))) bT)))) bH))))) bT))))))
   (bV (aL 5 (xV (ZT (cA (fV 4) (cA (bZ 4 [1] SZ (aE (fV 0) (aO 1 (aE (bZ 3 [1] aF (aE (fV 0) (aO 1 (aE (f2 Y7 (fV 2) (fC (.int 1))) bT)))) (aE (fV 3) bT))))) bH)))))
   (bV (XS (fB (f2 oGt (bZ 3 [1] aF (aE (fV 0) (aO 1 (aE (fC (.int 3)) bT)))) (fC (.int 0))))
   (bE (fV 5))
   Z2)
   (bV (aL 6 (xV (bZ 3 [1] YS (aE (fV 0) (aO 1 (aE (fV 5) bT))))))
   (bV (aL 7 (xV (f1 Vq (ZZ [] 2 (KQ (fV 6)) (E6 2 (aG (gN 0) (aG (gN 1) WI))) X7 (ZT (cA (fV 1) (cA (fV 0) bH)))))))
   (bE (ZT (cA (fV 4) (cA (f1 RX (ZZ [5,7] 1 (YG (fV 6)) (gN 2) X7 (bZ 2 [] a7 (aE (f2 bG (f2 bG (fV 0) (fC (.int 1))) (fV 2)) (aE (fV 1) bT))))) bH))))))))))
def X9:aX:=aC 8 [1] U4
def MU:VS:=
   (bV (aL 1 (xO (Y8 (cA (f2 (RV JF SI) (fV 0) (fC (.fn "NoBlock"))) (cA (f2 (RV JF SI) (fV 0) (fC (.fn "NoCells"))) (cA (f2 (RV JF SI) (fV 0) (fC (.fn "NoRow"))) (cA (f2 (RV JF SI) (fV 0) (fC (.fn "NoLanes"))) bH)))))))
   (bV (T7 1 mExt (cA (Y8 (cA (f2 (RV JF SI) (fV 0) (fC (.fn "NoPlan"))) (cA (f2 (RV JF SI) (fV 0) (fC (.fn "NoProgram"))) (cA (f2 (RV JF SI) (fV 0) (fC (.fn "NoTree"))) (cA (f2 (RV JF SI) (fV 0) (fC (.fn "NoLoop"))) bH))))) bH))
   (bV (T7 1 mExt (cA (Y8 (cA (f2 (RV JF SI) (fV 0) (fC (.fn "NoText"))) (cA (f2 (RV JF SI) (fV 0) (fC (.fn "NoName"))) (cA (f2 (RV JF SI) (fV 0) (fC (.fn "TooMany"))) (cA (f2 (RV JF SI) (fV 0) (fC (.fn "TooLong"))) bH))))) bH))
   (bV (T7 1 mExt (cA (Y8 (cA (f2 (RV JF SI) (fV 0) (fC (.fn "NotValid"))) (cA (f2 (RV JF SI) (fV 0) (fC (.fn "Nothing"))) bH))) bH))
   (bV (XS (FC (fB (f2 QE (f2 F6 (fO 1) (fC (.bl ba))) (fC (.int 1)))) (VA (fB (f2 (RV JF SI) (fV 0) (fC (.ty "ValueError"))))))
   (bE (ZT (cA (fC (.str "refused")) (cA (f1 GB (fC (.int 1))) bH))))
   Z2)
   (bE (ZT (cA (fC (.str "refused")) (cA (f2 F8 (fO 1) (fC (.bl ba))) bH)))))))))
def WN:aX:=aC 2 [] MU
def P4:VS:=
   (bV (aL 2 (xV (fC (.lst [.non,.int 5,.tup [],.tup [.int 0],.tup [.int 0,.lst []],.lst [.int 0,.tup []],.tup [.int (-1),.tup []],.tup [.int 65,.tup []],.tup [.bl ba,.tup []],.tup [.str "0",.tup []],.tup [.int 0,.tup [],.tup []],.tup [.int 0,.tup [.tup []]]]))))
   (bV (aL 2 (xV (f2 Y7 (fV 2) (fC (.lst [.tup [.int 0,.tup [.tup [.str "number"]]],.tup [.int 0,.tup [.tup [.str "number",.int 1000]]],.tup [.int 0,.tup [.tup [.str "plus",.int 0,.int 0]]],.tup [.int 0,.tup [.lst [.str "load",.int 0]]]])))))
   (bV (aL 2 (xV (f2 Y7 (fV 2) (fC (.lst [.tup [.int 0,.tup [.tup [.str "load",.int 64]]],.tup [.int 0,.tup [.tup [.str "load",.int (-1)]]],.tup [.int 0,.tup [.tup [.str "halve",.int 0]]],.tup [.int 0,.tup [.tup [.int 5,.int 0]]]])))))
   (bV (aL 2 (xV (f2 Y7 (fV 2) (Y8 (cA (fC (.tup [.int 0,.tup [.tup [.str "number",.int 1],.tup [.str "store",.int 0,.int 0],.tup [.str "plus",.int 0,.int 1]]])) (cA (ZT (cA (fC (.int 0)) (cA (f2 UN (fC (.tup [.tup [.str "number",.int 1]])) (fC (.int 41))) bH))) bH))))))
   (bV (aL 2 (xV (f2 Y7 (fV 2) (fC (.lst [.tup [.int 0,.tup [.tup [.str "number",.int 1],.tup [.str "plus",.int 0,.int 1]]]])))))
   (bE (bZ 3 [1] Z6 (aE (fV 0) (aO 1 (aE (fV 2) bT))))))))))
def VD:aX:=aC 3 [1] P4
def W7:VS:=
   (LG (bE (RL 3 [] [("is_plan",VV),("is_valid",WX),("order",QW),("cost",M3),("lowered",VW)] (f2 bG (Y8 (cA (fC (.fn "is_plan")) (cA (fC (.fn "is_valid")) (cA (fC (.fn "order")) (cA (fC (.fn "cost")) (cA (fC (.fn "lowered")) bH)))))) (fV 0)) (aE (fV 1) (aE (fV 2) (aE (fV 3) bT)))))
   (NV 3 [("is_plan",UF),("is_valid",VH),("order",TJ),("cost",PN),("lowered",W3)] (f2 bG (Y8 (cA (fC (.fn "is_plan")) (cA (fC (.fn "is_valid")) (cA (fC (.fn "order")) (cA (fC (.fn "cost")) (cA (fC (.fn "lowered")) bH)))))) (fV 0)) (aE (fV 1) (aE (fV 2) (aE (fV 3) bT))))
   4 JF "NotValid" (bE (ZT (cA (fC (.str "not")) (cA (f1 (F9 ["NotValid"] "packs") (fV 4)) bH)))) (bE (bZ 1 [] WN (aE (fV 4) bT))))
def bY:aX:=aC 5 [] W7
def OC:VS:=
   (XS (fB (f2 QE (ZZ [2,3] 1 (iR1 (fC (.int 5))) (gN 2) X7 (bZ 4 [] bY (aE (fV 2) (aE (fV 0) (aE (fV 1) (aE (fC .non) bT)))))) (f2 UN (fC (.lst [.tup [.str "refused",.int 3]])) (fC (.int 5)))))
   (bE (fC (.bl bb)))
   Z2)
def Xg:VS:=
   (bV (aL 1 (xO (Y8 bH)))
   (bV (XS (fB (f2 QE (ZZ [0,1] 1 (iR1 (fC (.int 5))) (gN 2) X7 (bZ 4 [] bY (aE (fV 2) (aE (bZ 2 [1] VD (aE (fV 0) (aO 1 bT))) (aE (fC .non) (aE (fC .non) bT)))))) (f2 UN (fC (.lst [.tup [.str "refused",.int 0]])) (fC (.int 5)))))
   (bE (fC (.bl bb)))
   Z2)
   (bV (aL 2 (xV (bZ 3 [1] X9 (aE (fV 0) (aO 1 (aE (fC (.int 8)) bT))))))
   (bV (MI (YG (fC (.lst [.non,.int 1,.int 5,.str "2",.bl ba,.lst [.int 2],.tup [.int 2]]))) (gN 3)
   OC)
   (bV (aL 4 (xV (f1 YW (f2 bG (fV 2) (fC (.int 1))))))
   (bV (aL 5 (xV (Y8 (cA (fC .non) (cA (fC (.int 5)) (cA (Y8 bH) (cA (fC (.str "")) (cA (fC (.tup [.tup []])) (cA (fC (.tup [.tup [.int 0]])) (cA (fC (.tup [.tup [.str "0",.str "1"]])) (cA (fC (.tup [.tup [.int 0,.non]])) (cA (ZT (cA (ZT (cA (fC (.int 0)) (cA (fV 4) bH))) bH)) (cA (fC (.tup [.tup [.int (-1),.int 0]])) (cA (ZT (cA (fC (.int 0)) (cA (fC (.int 1)) bH))) (cA (fC (.tup [.tup [.int 0,.int 0]])) bH)))))))))))))))
   (bV (aL 6 (xV (bZ 3 [1] Z6 (aE (fV 0) (aO 1 (aE (fV 5) bT))))))
   (bV (XS (fB (f2 RW (bZ 4 [] bY (aE (fC (.int 0)) (aE (fV 2) (aE (fC (.int 2)) (aE (fV 6) bT))))) (fC (.bl bb))))
   (bE (fC (.bl bb)))
   Z2)
   (bV (XS (fB (f2 QE (ZZ [2,6] 1 (iR2 (fC (.int 1)) (fC (.int 5))) (gN 2) X7 (bZ 4 [] bY (aE (fV 2) (aE (fV 0) (aE (fC (.int 2)) (aE (fV 1) bT)))))) (f2 UN (fC (.lst [.tup [.str "refused",.int 4]])) (fC (.int 4)))))
   (bE (fC (.bl bb)))
   Z2)
   (bV (aL 7 (xV (fC (.tup [.tup [.str "load",.int 0],.tup [.str "load",.int 1],.tup [.str "store",.int 5,.int 0],.tup [.str "load",.int 5],.tup [.str "store",.int 6,.int 3],.tup [.str "store",.int 0,.int 1],.tup [.str "store",.int 1,.int 0]]))))
   (bV (aL 8 (xV (ZT (cA (fC (.int 9)) (cA (fV 7) bH)))))
   (bV (XS (FC (fB (f2 RW (bZ 4 [] bY (aE (fC (.int 1)) (aE (fV 8) (aE (fC (.int 2)) (aE (fC (.tup [.tup [.int 2,.int 4]])) bT))))) (fC (.bl bb)))) (fB (f2 RW (bZ 4 [] bY (aE (fC (.int 1)) (aE (fV 8) (aE (fC (.int 2)) (aE (fC (.tup [.tup [.int 5,.int 6]])) bT))))) (fC (.bl ba)))))
   (bE (fC (.bl bb)))
   Z2)
   (bE (f2 V0 (ZZ [8] 1 (YG (ZT (cA (fC (.int 2)) (cA (fC (.int 3)) (cA (fC (.int 4)) bH))))) (gN 1) X7 (bZ 4 [] bY (aE (fV 1) (aE (fV 0) (aE (fC (.int 2)) (aE (fC (.tup [.tup [.int 2,.int 4]])) bT)))))) (f2 UN (fC (.lst [.tup [.str "not",.tup [.tup [.int 2,.int 4]]]])) (fC (.int 3)))))))))))))))))
def G8:aX:=aC 9 [] Xg
end L2
namespace RR
open PySem L2
section
open PySem.Spec PyProof.Rows
def mkDg{P:Av}{w:Uy}{K:Ai}{mg:Uv->Option Uq}{base:Vb}{x:Uv}{st:Vd}{f:Ur}{ps:List Uv}{sp:Sp}{k:Nat}(X:∀x a,Ep K Uw x=b3 (b3 (.ref a))->mg x=b3 (.ref a))(p:A4 K x st f)(ok:∀{fd:Cj},QP K x x st f fd->W0 P w K mg base CX0 k f fd ps sp)(l:∀{kV doc h:Uq}{i:Option Ur}{e ct:Uq}(g:List Uq),g.length=ps.length->Pb (Mu x x (XV st) (Z1 st) (b5 st) .none kV doc h i e ct) ⟨g,[]⟩=pure (ps.zip g)):Def P w K mg base x k ps sp f:=by obtain⟨m,od,kV,doc,h,i,e,ct,j,a,b,c,d⟩:=p;have U:=FT (st:=st) b c d;exact⟨X _ _ a,⟨_,ok U,U.binds λ_ _ _ _ _ _=>l⟩,d⟩
def okWg(P:Av)(w:Uy)(K:Ai)(mg:Uv->Option Uq)(base:Vb){x q:Uv}{st:Vd}{f:Ur}{fd:Cj}(N ps:List Uv)(k:Nat)(g:VS)(ml:List Nat)(F:QP K x q st f fd)(S:Z7 N ps (b5 st))(d:∀{a:Uq}{A:Bz}{outer:List Env}{s:Ae}{H:Hp}{E:XK}(_:Z7 N ps (b5 st)) (b:YU k (A.deeper (envOfC q (b5 st) s.heap.objs.size f a))) (_:(A.deeper (envOfC q (b5 st) s.heap.objs.size f a)).units+64<cLine) (_:(A.deeper (envOfC q (b5 st) s.heap.objs.size f a)).units+1<cLine),WP (RJ CX0 P w K mg base N q (b5 st) f a A outer s H E).nox (Z1 st) (WG K ml g))(c:ps.length<=N.length:=by decide):W0 P w K mg base CX0 (k+1) f fd ps (spV K ml ps.length (aC N.length ml g)):=
 QP.okV F S c λa A outer s H E b=>d S b b.units (Zz b)
end
section
open PySem.Spec PyProof.Rows
def KZ{P:Av}{w:Uy}{K:Ai}{mg:Uv->Option Uq}{base:Vb}{x:Uv}{st:Vd}{f:Ur}{ps:List Uv}{j:List cH->Option Xw}{k:Nat}(X:∀x a,Ep K Uw x=b3 (b3 (.ref a))->mg x=b3 (.ref a))(p:A4 K x st f)(ok:∀{fd:Cj},QP K x x st f fd->W0 P w K mg base (G6 P w) k f fd ps (spX K ps.length j))(m:∀{kV doc h:Uq}{i:Option Ur}{e ct:Uq}(g:List Uq),g.length=ps.length->Pb (Mu x x (XV st) (Z1 st) (b5 st) .none kV doc h i e ct) ⟨g,[]⟩=pure (ps.zip g)):JH P w K mg base x k ps j f:=by obtain⟨n,od,kV,doc,h,i,e,ct,l,a,b,c,d⟩:=p;have U:=FT (st:=st) b c d;exact⟨X _ _ a,⟨_,ok U,U.binds λ_ _ _ _ _ _=>m⟩,d⟩
def eK{P:Av}{w:Uy}{K:Ai}{mg:Uv->Option Uq}{base:Vb}{x:Uv}{st:Vd}{f:Ur}{ps:List Uv}{sp:Sp}{k:Nat}(X:∀x a,Ep K Uw x=b3 (b3 (.ref a))->mg x=b3 (.ref a))(p:A4 K x st f)(ok:∀{fd:Cj},QP K x x st f fd->FnH P w K mg base k f fd ps sp)(l:∀{kV doc h:Uq}{i:Option Ur}{e ct:Uq}(g:List Uq),g.length=ps.length->Pb (Mu x x (XV st) (Z1 st) (b5 st) .none kV doc h i e ct) ⟨g,[]⟩=pure (ps.zip g)):DefH P w K mg base x k ps sp f:=by obtain⟨m,od,kV,doc,h,i,e,ct,j,a,b,c,d⟩:=p;have U:=FT (st:=st) b c d;exact⟨X _ _ a,⟨_,ok U,U.binds λ_ _ _ _ _ _=>l⟩,d⟩
end
abbrev Gn(K:Ai)(x:Uv)(v:Uq):Prop:=Ep K Uw x=b3 (b3 v)
def tS(xs:List (Uv×Nat)):Ve:=⟨.type "tuple",b4,.seq (xs.map λz=>Mr z.1 z.2).toArray 0,#[]⟩
theorem Len1{α:Type}{P:List α->Prop}(z:∀a,P [a]):∀b:List α,b.length=1->P b
 |[a],_=>z a
theorem Len2{α:Type}{P:List α->Prop}(z:∀a b,P [a,b]):∀c:List α,c.length=2->P c
 |[a,b],_=>z a b
theorem BB{α:Type}{P:List α->Prop}(z:∀a b c,P [a,b,c]):∀d:List α,d.length=3->P d
 |[a,b,c],_=>z a b c
theorem Len4{α:Type}{P:List α->Prop}(z:∀a b c d,P [a,b,c,d]):∀e:List α,e.length=4->P e
 |[a,b,c,d],_=>z a b c d
theorem Len5{α:Type}{P:List α->Prop}(z:∀a b c d e,P [a,b,c,d,e]):∀f:List α,f.length=5->P f
 |[a,b,c,d,e],_=>z a b c d e
theorem Len6{α:Type}{P:List α->Prop}(z:∀a b c d e f,P [a,b,c,d,e,f]):∀g:List α,g.length=6->P g
 |[a,b,c,d,e,f],_=>z a b c d e f
def FX{K:Ai}{fd:Cj}(f:Ur)(F:QP K "__init__" "NotValid.__init__" (mem 14 0) f fd):G9 K "NotValid.__init__" (mem 14 0) "packs" "the plan is not valid" f fd:=
 ⟨F,K0,F.binds λ_ _ _ _ _ _=>Len2 λ_ _=>rfl,rfl,rfl,rfl,by decide,by decide,⟨_,_,_,_,_,_,_,_,_,_,_,_,rfl,λ_ _=>rfl,λ_ _=>rfl,λ_ _=>rfl⟩⟩
structure Txt(w:Uy)(K:Ai)(mg:Uv->Option Uq):Prop where
 fnm:∀x a,Gn K x (.ref a)->mg x=b3 (.ref a)
 fni:∀x i t,Gn K x (.int i t)->mg x=b3 (.int i t)
 p_x0:A4 K "is_whole" (top 19) 224
 p_x1:A4 K "parts_of" (top 28) 241
 p_x2:A4 K "makes_word" (top 29) 248
 p_x3:A4 K "place_of" (top 30) 255
 p_x4:A4 K "names_of" (top 31) 260
 p_x5:A4 K "may_name" (top 33) 274
 p_x6:A4 K "fits" (top 34) 281
 p_x7:A4 K "is_row" (top 35) 286
 p_x8:A4 K "is_block" (top 36) 293
 p_x9:A4 K "writes" (top 38) 300
 p_x10:A4 K "is_safe_number" (top 39) 307
 p_x11:A4 K "can_fault" (top 40) 314
 p_x12:A4 K "share_written_cell" (top 41) 321
 p_x13:A4 K "must_stay" (top 42) 328
 p_x14:A4 K "must_pairs" (top 43) 333
 p_x15:A4 K "is_lanes" (top 47) 340
 p_x16:A4 K "may_follow" (top 48) 347
 p_x17:A4 K "is_pack" (top 49) 352
 p_x18:A4 K "rows_within" (top 50) 357
 p_x19:A4 K "fits_plan" (top 51) 362
 p_x20:A4 K "check_lanes" (top 52) 369
 p_x21:A4 K "check_plan" (top 53) 376
 p_x22:A4 K "rows_alone" (top 54) 381
 p_x23:A4 K "nodes_of" (top 55) 386
 p_x24:A4 K "waits_of" (top 56) 391
 p_x25:A4 K "next_node" (top 57) 396
 p_x26:A4 K "ordered_by" (top 58) 403
 p_x27:A4 K "ordered" (top 59) 410
 p_x28:A4 K "is_plan" (top 64) 437
 p_x29:A4 K "is_valid" (top 65) 444
 p_x30:A4 K "order" (top 66) 451
 p_x31:A4 K "cost" (top 68) 463
 p_x32:A4 K "lowered" (top 71) 532
 p_x33:A4 K "_law_cell_at" (top 73) 539
 p_x34:A4 K "_law_mixed" (top 74) 546
 p_x35:A4 K "_law_draw" (top 75) 553
 p_x36:A4 K "_law_pick" (top 76) 560
 p_x37:A4 K "_law_place" (top 77) 567
 p_x38:A4 K "_law_row" (top 78) 572
 p_x40:A4 K "_law_next" (top 80) 586
 p_x39:A4 K "_law_rows" (top 79) 579
 p_x42:A4 K "_law_names" (top 82) 598
 p_x43:A4 K "_law_may" (top 83) 603
 p_x44:A4 K "_law_must" (top 84) 608
 p_x47:A4 K "_law_mixed_order" (top 87) 627
 p_x48:A4 K "_law_renamed" (top 88) 632
 p_x41:A4 K "_law_block" (top 81) 591
 p_x45:A4 K "_law_which" (top 85) 615
 p_x46:A4 K "_law_none" (top 86) 622
 p_x49:A4 K "_law_ask" (top 89) 639
 n_len:mg "len"=b4
 n_range:mg "range"=b4
 n_min:mg "min"=b4
 n_max:mg "max"=b4
 VM:mg "list"=b4
 n_tuple:mg "tuple"=b4
 n_sorted:mg "sorted"=b4
 n_isinstance:mg "isinstance"=b4
 n_bool:mg "bool"=b4
 n_int:mg "int"=b4
 n_str:mg "str"=b4
 n_enumerate:mg "enumerate"=b4
 n_zip:mg "zip"=b4
 n_all:mg "all"=b4
 n_any:mg "any"=b4
 n_dict:mg "dict"=b4
 n_ValueError:mg "ValueError"=b4
 n_set:mg "set"=b4
 g_MOST_WORD:Gn K "MOST_WORD" (.int 999 460)
 o_a9:K.lookup 217=b3 (tS [("plus",462),("minus",463),("times",464),("least",465),("most",466),("less",467),("over",468)])
 g_DEEDS:Gn K "DEEDS" (.ref 217)
 g_MOST_SURE:Gn K "MOST_SURE" (.int 64 481)
 g_MOST_ROWS:Gn K "MOST_ROWS" (.int 40 483)
 g_MOST_PLACE:Gn K "MOST_PLACE" (.int 63 485)
 o_a15:K.lookup 225=b3 (tS [("row",487),("row",488)])
 g_DEED_PARTS:Gn K "DEED_PARTS" (.ref 225)
 o_a23:K.lookup 227=b3 (tS [("word",491)])
 o_a27:K.lookup 228=b3 (tS [("row",493),("row",494),("row",495)])
 o_a29:K.lookup 229=b3 (tS [("place",497)])
 o_a33:K.lookup 230=b3 (tS [("place",499),("row",500),("row",501)])
 o_a36:K.lookup 231=b3 (tS [("place",503),("row",504)])
 o_a40:K.lookup 232=b3 (tS [("place",506),("row",507),("row",508)])
 o_a41:K.lookup 226=b3 ⟨.type "dict",b4,.dict #[⟨Fe w.params "number",.str "number" 490,.ref 227⟩,⟨Fe w.params "pick",.str "pick" 492,.ref 228⟩,⟨Fe w.params "load",.str "load" 496,.ref 229⟩,⟨Fe w.params "take",.str "take" 498,.ref 230⟩,⟨Fe w.params "store",.str "store" 502,.ref 231⟩,⟨Fe w.params "put",.str "put" 505,.ref 232⟩] 6,#[]⟩
 g_OTHER_PARTS:Gn K "OTHER_PARTS" (.ref 226)
 o_a50:K.lookup 233=b3 (tS [("load",516),("take",517)])
 g_READERS:Gn K "READERS" (.ref 233)
 o_a53:K.lookup 234=b3 (tS [("store",519),("put",520)])
 g_WRITERS:Gn K "WRITERS" (.ref 234)
 g_LEAST_LANES:Gn K "LEAST_LANES" (.int 2 647)
 g_MOST_LANES:Gn K "MOST_LANES" (.int 4 649)
 g_Nothing:Gn K "Nothing" (.ref 214)
 g_NotValid:Gn K "NotValid" (.ref 202)
 g_TooLong:Gn K "TooLong" (.ref 183)
 g_TooMany:Gn K "TooMany" (.ref 171)
 g_NoName:Gn K "NoName" (.ref 159)
 g_NoText:Gn K "NoText" (.ref 140)
 g_NoLoop:Gn K "NoLoop" (.ref 128)
 g_NoTree:Gn K "NoTree" (.ref 116)
 g_NoProgram:Gn K "NoProgram" (.ref 104)
 g_NoPlan:Gn K "NoPlan" (.ref 92)
 g_NoLanes:Gn K "NoLanes" (.ref 80)
 g_NoRow:Gn K "NoRow" (.ref 68)
 g_NoCells:Gn K "NoCells" (.ref 49)
 g_NoBlock:Gn K "NoBlock" (.ref 37)
 xc_NoBlock:XE K "NoBlock" 37
 xc_NoLanes:XE K "NoLanes" 80
 xc_NoPlan:XE K "NoPlan" 92
 xc_NotValid:XZ K "NotValid" "packs" 202
 xq_NotValid:xqOk K JF "NotValid" 202=ba
 xk:xiOk K JF SI=ba
 p_x50:A4 K "law" (top 90) 644
section
open PySem.Spec PyProof.Rows
def WB(P:Av){w:Uy}{K:Ai}{mg:Uv->Option Uq}(base:Vb){x:Uv}{st:Vd}{f:Ur}(N ps:List Uv)(k:Nat)(g:VS)(ml:List Nat)(T:Txt w K mg)(p:A4 K x st f)(i:∀{a:Uq}{A:Bz}{outer:List Env}{s:Ae}{H:Hp}{E:XK}(_:Z7 N ps (b5 st)) (j:YU k (A.deeper (envOfC x (b5 st) s.heap.objs.size f a))) (_:(A.deeper (envOfC x (b5 st) s.heap.objs.size f a)).units+64<cLine) (_:(A.deeper (envOfC x (b5 st) s.heap.objs.size f a)).units+1<cLine),WP (RJ CX0 P w K mg base N x (b5 st) f a A outer s H E).nox (Z1 st) (WG K ml g))(S:Z7 N ps (b5 st):=by exact K0)(c:ps.length<=N.length:=by decide)(e:∀{kV doc d:Uq}{h:Option Ur}{a ct:Uq}(b:List Uq),b.length=ps.length->Pb (Mu x x (XV st) (Z1 st) (b5 st) .none kV doc d h a ct) ⟨b,[]⟩=pure (ps.zip b):=by first|exact Len1 λ_=>rfl|exact Len2 λ_ _=>rfl|exact BB λ_ _ _=>rfl|exact Len4 λ_ _ _ _=>rfl|exact Len5 λ_ _ _ _ _=>rfl|exact Len6 λ_ _ _ _ _ _=>rfl):ZQ P w K mg base x (k+1) ps ml (aC N.length ml g) f:=
 mkDg T.fnm p (λF=>okWg P w K mg base N ps k g ml F S i c) e
end
section
variable{P:Av}{w:Uy}{K:Ai}{mg:Uv->Option Uq}{base:Vb}(T:Txt w K mg)
include T
def vI{x:Uv}{i:Int}{t:Nat}(g:Gn K x (.int i t)):∃u v,mg x=b3 u/\aV v u/\∀N H M,aT K N H M v (.int i):=⟨_,.int i,T.fni _ _ _ g,⟨_,rfl⟩,λ_ _ _=>.int _⟩
omit T in
def rS{N:Ur->Prop}{H:Hp}{M:Ur->Prop}{a:Ur}{xs:List (Uv×Nat)}(o:K.lookup a=b3 (tS xs))(hl:xs.length<=9:=by decide):aT K N H M (.ref a) (.tup (xs.map λz=>.str z.1)):=by
 refine .tup (xs:=xs.map λz=>.str z.1) (.inr ⟨_,_,_,o,rfl,rfl,by show(xs.map _).length<=_;rw[Bm];exact Dw hl (by decide),?_,by cases xs<;>rfl⟩) ?_
 ·show aY _ (xs.map λz => Mr z.1 z.2)
  clear o hl;induction xs with
  |nil=>exact .nil
  |cons z zs b=>exact .cons ⟨_,rfl⟩ b
 ·clear o hl
  induction xs with
  |nil=>exact .nil
  |cons z zs b=>exact .cons (.str _) b
def vS{x:Uv}{a:Ur}{xs:List (Uv×Nat)}(g:Gn K x (.ref a))(o:K.lookup a=b3 (tS xs))(hl:xs.length<=9:=by decide):∃u v,mg x=b3 u/\aV v u/\∀N H M,aT K N H M v (.tup (xs.map λz=>.str z.1)):=⟨_,.ref a,T.fnm _ _ g,rfl,λ_ _ _=>rS o hl⟩
def vF{x:Uv}{a:Ur}(g:Gn K x (.ref a)):∃u v,mg x=b3 u/\aV v u/\∀N H M,aT K N H M v (.fn x):=⟨_,.ref a,T.fnm _ _ g,rfl,λ_ _ _=>.fn g⟩
def vX{x:Uv}{C:Ur}(h:XE K x C):∃C,XE K x C/\mg x=b3 (.ref C):=⟨_,h,T.fnm _ _ h.xc.at_⟩
def vZ{x n:Uv}{C:Ur}(h:XZ K x n C):∃C,XZ K x n C/\mg x=b3 (.ref C):=⟨_,h,T.fnm _ _ h.xc.at_⟩
def JU:∃u v,mg "OTHER_PARTS"=b3 u/\aV v u/\∀N H M,aT K N H M v QK:=
 ⟨_,.ref 226,T.fnm _ _ T.g_OTHER_PARTS,rfl,λ_ _ _=>(.ktb (D:=[("number",.ref 227),("pick",.ref 228),("load",.ref 229),("take",.ref 230),("store",.ref 231),("put",.ref 232)]) ⟨(by decide),_,_,_,T.o_a41,⟨rfl,rfl,rfl⟩,rfl,(.cons rfl rfl (.cons rfl rfl (.cons rfl rfl (.cons rfl rfl (.cons rfl rfl (.cons rfl rfl .nil))))))⟩ (.cons (rS T.o_a23) (.cons (rS T.o_a27) (.cons (rS T.o_a29) (.cons (rS T.o_a33) (.cons (rS T.o_a36) (.cons (rS T.o_a40) .nil)))))))⟩
def xi:XI K JF SI:=XI.of (Hk.mpr ⟨⟨_,T.xc_NoBlock.xc⟩,Hk.mpr ⟨⟨_,T.xc_NoLanes.xc⟩,Hk.mpr ⟨⟨_,T.xc_NoPlan.xc⟩,Hk.mpr ⟨⟨_,T.xc_NotValid.xc⟩,nofun⟩⟩⟩⟩) T.xk
noncomputable abbrev Nx0:List Uv:=["thing","low","high"]
abbrev Nx1:List Uv:=["deed"]
abbrev Nx2:List Uv:=["row"]
abbrev Nx4:List Uv:=["row","deed","rest"]
abbrev Nx5:List Uv:=["thing","able"]
abbrev Nx6:List Uv:=["part","thing","able"]
noncomputable abbrev Nx7:List Uv:=["thing","able","deed","rest","parts"]
noncomputable abbrev Nx8:List Uv:=["thing","sure","rows","able","row"]
abbrev Qx8:List Uv:=["thing"]
noncomputable abbrev Nx11:List Uv:=["block","at","sure","rows","row","place"]
abbrev Qx11:List Uv:=["block","at"]
abbrev Nx12:List Uv:=["row","other"]
noncomputable abbrev Nx13:List Uv:=["block","first","second","rows","first_faults","second_faults"]
abbrev Qx13:List Uv:=["block","first","second"]
noncomputable abbrev Nx14:List Uv:=["block","many","pairs"]
abbrev Qx14:List Uv:=["block"]
abbrev Nx16:List Uv:=["rows","first","second","deed","place"]
abbrev Qx16:List Uv:=["rows","first","second"]
noncomputable abbrev Nx17:List Uv:=["block","lanes","thing","rows"]
abbrev N7:List Uv:=["block","lanes","thing"]
abbrev Nx18:List Uv:=["tuples"]
noncomputable abbrev Nx19:List Uv:=["block","lanes","thing","packed"]
abbrev E8:List Uv:=["block","lanes"]
abbrev ZG:List Uv:=["block","lanes","plan"]
abbrev Nx22:List Uv:=["block","plan","packed"]
abbrev DB:List Uv:=["block","plan"]
noncomputable abbrev Nx24:List Uv:=["pairs","nodes","node_of","waits","first","second"]
abbrev Qx24:List Uv:=["pairs","nodes"]
noncomputable abbrev Nx25:List Uv:=["nodes","waits","settled","node"]
abbrev Qx25:List Uv:=["nodes","waits","settled"]
abbrev Nx26:List Uv:=["pairs","nodes","waits","settled","node"]
abbrev Nx30:List Uv:=["block","lanes","plan","nodes"]
noncomputable abbrev Nx32:List Uv:=["block","lanes","plan","nodes","draft","node"]
noncomputable abbrev Nx33:List Uv:=["_law_script","_law_k","_law_rest","_law_again"]
abbrev Qx33:List Uv:=["_law_script","_law_k"]
noncomputable abbrev Nx34:List Uv:=["_law_script","_law_k","_law_bound","_law_drawn"]
abbrev Qx34:List Uv:=["_law_script","_law_k","_law_bound"]
abbrev Nx35:List Uv:=["_law_script","_law_town","_law_bound"]
abbrev Nx36:List Uv:=["_law_script","_law_town","_law_some"]
noncomputable abbrev Nx37:List Uv:=["_law_script","_law_town","_law_seen","_law_deed","_law_room"]
noncomputable abbrev Nx38:List Uv:=["_law_script","_law_town","_law_made","_law_seen","_law_room","_law_kind","_law_a","_law_b","_law_c"]
abbrev Qx38:List Uv:=["_law_script","_law_town","_law_made","_law_seen","_law_room"]
noncomputable abbrev Nx40:List Uv:=["_law_script","_law_town","_law_rows_here","_law_made","_law_seen","_law_room","_law_last","_law_first","_law_names_here","_law_name","_law_at"]
abbrev Qx40:List Uv:=["_law_script","_law_town","_law_rows_here","_law_made","_law_seen","_law_room"]
noncomputable abbrev Nx39:List Uv:=["_law_script","_law_town","_law_many","_law_room","_law_rows_here","_law_made","_law_seen","_law_again"]
abbrev Qx39:List Uv:=["_law_script","_law_town","_law_many","_law_room"]
abbrev Nx42:List Uv:=["_law_row_here"]
noncomputable abbrev Nx43:List Uv:=["_law_block_here","_law_row_here","_law_here"]
abbrev Qx43:List Uv:=["_law_block_here","_law_row_here"]
noncomputable abbrev Nx44:List Uv:=["_law_block_here","_law_made","_law_cells","_law_two","_law_there","_law_one","_law_here","_law_writes","_law_reasons"]
abbrev Qx44:List Uv:=["_law_block_here"]
noncomputable abbrev Nx47:List Uv:=["_law_script","_law_town","_law_block_here","_law_pairs","_law_left","_law_made","_law_ready"]
abbrev Qx47:List Uv:=["_law_script","_law_town","_law_block_here"]
abbrev Nx48:List Uv:=["_law_row_here","_law_names_here","_law_first"]
abbrev Qx48:List Uv:=["_law_row_here","_law_names_here"]
noncomputable abbrev Nx41:List Uv:=["_law_script","_law_town","_law_most","_law_room","_law_sure","_law_block_here","_law_order_there","_law_names_here"]
abbrev Qx41:List Uv:=["_law_script","_law_town","_law_most"]
abbrev Nx45:List Uv:=["_law_e","_law_own"]
abbrev Qx45:List Uv:=["_law_e"]
abbrev Qx46:List Uv:=["_law_script","_law_town"]
noncomputable abbrev Nx49:List Uv:=["_law_what","_law_block_here","_law_broad","_law_plan","_law_e"]
abbrev Qx49:List Uv:=["_law_what","_law_block_here","_law_broad","_law_plan"]
noncomputable abbrev Nx50:List Uv:=["_law_script","_law_town","_law_block_here","_law_bad","_law_many","_law_odd","_law_plan","_law_rows_here","_law_knot"]
abbrev Qx50:List Uv:=["_law_script"]
def D_x0:ZQ P w K mg base "is_whole" 1 Nx0 [] aR 224:=
 WB P base Nx0 Nx0 0 P0 [] T T.p_x0 λb d c a=>by
  refine cE ?_ ?_
  ·exact(aU (SQ (U7 (ZX (EX T.n_isinstance (vv 0) (vty T.n_bool ku))) (XM (Y5 (ZX (EX T.n_isinstance (vv 0) (vty T.n_int oj)))))))
   (b8 (bX ZC))
   bP)
  exact b8 (bX (jY Wj Wj s_le s_le (vv 1) (vv 0) (vv 2)))
def D_x1:ZQ P w K mg base "parts_of" 1 Nx1 [] ZF 241:=
 WB P base Nx1 Nx1 0 KN [] T T.p_x1 λc d b a=>by
  refine cE ?_ ?_
  ·exact (aU (bD (UL b) (Y2 (neg := bb)) (vv 0) (bJ (by rfl) (vS T T.g_DEEDS T.o_a9)) (by with_unfolding_all rfl))
   (b8 (bX (bJ (by rfl) (vS T T.g_DEED_PARTS T.o_a15))))
   bP)
  exact b8 (bX (nH rfl a (bJ (by rfl) (JU T)) (vv 0) ⟨rfl,rfl,rfl,rfl⟩))
def D_x2:ZQ P w K mg base "makes_word" 1 Nx2 [] V2 248:=
 WB P base Nx2 Nx2 0 TY [] T T.p_x2 λc d b a=>by exact(b8 (bX (YX (ON b) (Y2 (neg:=ba)) (ZB a (vv 0) cD) (bJ (by rfl) (vS T T.g_WRITERS T.o_a53)) (by with_unfolding_all rfl))))
def D_x3:ZQ P w K mg base "place_of" 1 Nx2 [] WZ 255:=
 WB P base Nx2 Nx2 0 KO [] T T.p_x3 λc d b a=>by exact(b8 (bX (JC (SQ (U7 (bD (UL b) (Y2 (neg:=bb)) (ZB a (vv 0) cD) (bJ (by rfl) (vS T T.g_READERS T.o_a50)) (by with_unfolding_all rfl)) (XM (bD (UL b) (Y2 (neg:=bb)) (ZB a (vv 0) cD) (bJ (by rfl) (vS T T.g_WRITERS T.o_a53)) (by with_unfolding_all rfl))))) (ZB a (vv 0) cD) Y9)))
def D_x4:ZQ P w K mg base "names_of" 2 Nx2 [] TD 260:=
 WB P base Nx4 Nx2 1 KL [] T T.p_x4 λb e d c=>by
  refine cE ?_ ?_
  ·exact(A9 (i:=1) (j:=2) rfl rfl b.nd rfl rfl (by decide) (Dy rfl) (Dy rfl) (vv 0))
  exact b8 (bX (bM (aA ["part","given"] [] 2 (C5 rfl (by rfl) T.n_zip (b6 (bI (D_x1 T) e (cF (vv 1) b9))) (vv 2)) (λa _ _ _ _=>⟨(VT (K:=K) rfl rfl (aS (bO a) (aS (bO a) X5))),(NQ (SR d (vv 0) bR)),(vv 1)⟩))))
def D_x5:ZQ P w K mg base "may_name" 2 Nx5 [] S9 274:=
 WB P base Nx5 Nx5 1 P7 [] T T.p_x5 λc b d a=>by exact(b8 (bX (X4 (bI (D_x0 T) b (cF (vv 0) (cF cD (cF (b6 (XO QF LH (XJ T.n_len (vv 1)) cD)) b9)))) (YC (ZB a (vv 1) (vv 0))))))
def D_x6:ZQ P w K mg base "fits" 3 Nx6 [] RE 281:=
 WB P base Nx6 Nx6 2 KH [] T T.p_x6 λd a b c=>by
  refine cE ?_ ?_
  ·exact(aU (SR b (vv 0) bR)
   (b8 (bX (bI (D_x0 T) a (cF (vv 1) (cF cD (cF (b6 (bJ (by rfl) (vI T T.g_MOST_WORD))) b9))))))
   bP)
  refine cE ?_ ?_
  ·exact(aU (SR b (vv 0) bR)
   (b8 (bX (bI (D_x0 T) a (cF (vv 1) (cF cD (cF (b6 (bJ (by rfl) (vI T T.g_MOST_PLACE))) b9))))))
   bP)
  exact b8 (bX (bI (D_x5 T) a (cF (vv 1) (cF (vv 2) b9))))
def D_x7:ZQ P w K mg base "is_row" 4 Nx5 [] N4 286:=
 WB P base Nx7 Nx5 3 KJ [] T T.p_x7 λa c b e=>by
  refine cE ?_ ?_
  ·exact(aU (SQ (U7 (Y5 (ZX (EX T.n_isinstance (vv 0) (vty T.n_tuple YE)))) (XM (SR b (XJ T.n_len (vv 0)) cD))))
   (b8 (bX ZC))
   bP)
  refine cE ?_ ?_
  ·exact(A9 (i:=2) (j:=3) rfl rfl a.nd rfl rfl (by decide) (Dy rfl) (Dy rfl) (vv 0))
  refine cE ?_ ?_
  ·exact(bC a.nd (aM (b6 (JC (ZX (EX T.n_isinstance (vv 2) (vty T.n_str rB))) (bI (D_x1 T) c (cF (vv 2) b9)) Y9))))
  refine cE ?_ ?_
  ·exact(aU (SQ (U7 (bD T3 O8 (vv 4) Y9) (XM (bD (OM b) O9 (XJ T.n_len (vv 4)) (XJ T.n_len (vv 3))))))
   (b8 (bX ZC))
   bP)
  exact b8 (bX (MZ (kAll rfl) EI (by rfl) T.n_all J5 (bM (aA ["able","part","given"] [1] 2 (C5 rfl (by rfl) T.n_zip (vv 4) (vv 3)) (λd _ _ _ _=>⟨(VT (K:=K) rfl rfl (aS (bO d) (aS (bO d) X5))),ZH,(b6 (bI (D_x6 T) c (cF (vv 1) (cF (vv 2) (cF (vv 0) b9)))))⟩)))))
def D_x8:ZQ P w K mg base "is_block" 5 Qx8 [] ZD 293:=
 WB P base Nx8 Qx8 4 PZ [] T T.p_x8 λa b d c=>by
  refine cE ?_ ?_
  ·exact(aU (SQ (U7 (Y5 (ZX (EX T.n_isinstance (vv 0) (vty T.n_tuple YE)))) (XM (bD (OM d) O9 (XJ T.n_len (vv 0)) cD))))
   (b8 (bX ZC))
   bP)
  refine cE ?_ ?_
  ·exact(C6 (vv 0) (VT (K:=K) rfl rfl (aS (bO a.nd) (aS (bO a.nd) X5))))
  refine cE ?_ ?_
  ·exact (aU (Y5 (ZX (bI (D_x0 T) b (cF (vv 1) (cF cD (cF (b6 (bJ (by rfl) (vI T T.g_MOST_SURE))) b9))))))
   (b8 (bX ZC))
   bP)
  refine cE ?_ ?_
  ·exact (aU (SQ (U7 (Y5 (ZX (EX T.n_isinstance (vv 2) (vty T.n_tuple YE)))) (XM (bD dM s_gt (XJ T.n_len (vv 2)) (bJ (by rfl) (vI T T.g_MOST_ROWS))))))
   (b8 (bX ZC))
   bP)
  refine cE ?_ ?_
  ·exact(bC a.nd (SX (aH (bK bW))))
  refine cE ?_ ?_
  ·exact(SG Ds rfl (ZI rfl (vv 2)) (bO a.nd)
   (cE (aU (Y5 (ZX (bI (D_x7 T) b (cF (vv 4) (aJ (pv 3) b9)))))
   (b8 (bX ZC))
   bP)
   (b8 (YJ Bq Br ZW WJ (pv 3) (bK (cG (bI (D_x2 T) b (cF (vv 4) b9)) bW))))))
  exact b8 (bX ZC)
def D_x9:ZQ P w K mg base "writes" 1 Nx2 [] RF 300:=
 WB P base Nx2 Nx2 0 DO [] T T.p_x9 λc d b a=>by exact(b8 (bX (YX (UL b) (Y2 (neg:=bb)) (ZB a (vv 0) cD) (bJ (by rfl) (vS T T.g_WRITERS T.o_a53)) (by with_unfolding_all rfl))))
def iL:ZQ P w K mg base "is_safe_number" 1 Nx2 [] UD 307:=
 WB P base Nx2 Nx2 0 UI [] T T.p_x10 λc d b a=>by exact(b8 (bX (X4 (veq b (ZB a (vv 0) cD) bR) (YC (YX (OM b) O9 (ZB a (vv 0) cD) cD)))))
def cS:ZQ P w K mg base "can_fault" 2 Qx11 [] RD 314:=
 WB P base Nx11 Qx11 1 MS [] T T.p_x11 λb c d a=>by
  refine cE ?_ ?_
  ·exact(C6 (vv 0) (VT (K:=K) rfl rfl (aS (bO b.nd) (aS (bO b.nd) X5))))
  refine cE ?_ ?_
  ·exact(bC b.nd (aM (b6 (ZB a (vv 3) (vv 1)))))
  refine cE ?_ ?_
  ·exact(aU (SR d (ZB a (vv 4) cD) bR)
   (b8 (bX (dG (bI (iL T) c (cF (b6 (ZB a (vv 3) (ZB a (vv 4) cD))) b9)))))
   bP)
  refine cE ?_ ?_
  ·exact(bC b.nd (aM (b6 (bI (D_x3 T) c (cF (vv 4) b9)))))
  exact b8 (bX (X4 (YX eE dY (vv 5) Y9) (YC (YX Wu s_ge (vv 5) (vv 2)))))
def mR:ZQ P w K mg base "share_written_cell" 2 Nx12 [] WO 321:=
 WB P base Nx12 Nx12 1 WR [] T T.p_x12 λd a c b=>by exact(b8 (bX (X4 (veq c (bI (D_x3 T) a (cF (vv 0) b9)) (bI (D_x3 T) a (cF (vv 1) b9))) (YC (Xe (bI (D_x9 T) a (cF (vv 0) b9)) (YC (bI (D_x9 T) a (cF (vv 1) b9))))))))
def pA:ZQ P w K mg base "must_stay" 3 Qx13 [] MJ 328:=
 WB P base Nx13 Qx13 2 MV [] T T.p_x13 λc b d a=>by
  refine cE ?_ ?_
  ·exact(bC c.nd (aM (b6 (ZB a (vv 0) cD))))
  refine cE ?_ ?_
  ·exact (aU (SQ (U7 (bD (UL d) (Y2 (neg := bb)) (vv 1) (bI (D_x4 T) b (cF (b6 (ZB a (vv 3) (vv 2))) b9)) (by with_unfolding_all rfl)) (XM (ZX (bI (mR T) b (cF (b6 (ZB a (vv 3) (vv 1))) (cF (b6 (ZB a (vv 3) (vv 2))) b9)))))))
   (b8 (bX ZC))
   bP)
  refine cE ?_ ?_
  ·exact(A7 (i:=4) (j:=5) rfl c.nd rfl rfl (by decide) rfl rfl (aM (b6 (bI (cS T) b (cF (vv 0) (cF (vv 1) b9))))) (aM (b6 (bI (cS T) b (cF (vv 0) (cF (vv 2) b9))))) rfl)
  refine cE ?_ ?_
  ·exact(aU (SQ (LM (ZX (vv 4)) (PJ (ZX (vv 5)))))
   (b8 (bX ZC))
   bP)
  exact b8 (bX (Xe (X4 (vv 4) (YC (bI (D_x9 T) b (cF (b6 (ZB a (vv 3) (vv 2))) b9)))) (YC (X4 (vv 5) (YC (bI (D_x9 T) b (cF (b6 (ZB a (vv 3) (vv 1))) b9)))))))
def lK:ZQ P w K mg base "must_pairs" 4 Qx14 [] TC 333:=
 WB P base Nx14 Qx14 3 OJ [] T T.p_x14 λb d e a=>by
  refine cE ?_ ?_
  ·exact(bC b.nd (aM (b6 (XJ T.n_len (ZB a (vv 0) cD)))))
  refine cE ?_ ?_
  ·exact(jD (i:=2) bb b.nd rfl rfl (N':=["many","first","second"]) (ix:=[1]) (nl:=2) rfl rfl (by rfl) rfl (by decide) (XD (by rfl) T.n_range (vv 1)) (λcl s1 H1 fp=>⟨(bO (show(["many","first","second"]:List Uv).Nodup by decide+kernel)),ZH,(NR (by rfl) T.n_range (Z3 X0 Y4 (vv 1) cD) (vv 0)),(bO (show(["many","first","second"]:List Uv).Nodup by decide+kernel)),ZH,(b6 (aZ (cG (vv 1) (cG (vv 2) bW))))⟩))
  exact b8 (bX (bM (aA ["block","first","second"] [0] 2 (ZI rfl (vv 2)) (λc _ _ _ _=>⟨(VT (K:=K) rfl rfl (aS (bO c) (aS (bO c) X5))),(NQ (ZX (bI (pA T) d (cF (vv 0) (cF (vv 1) (cF (vv 2) b9)))))),(b6 (aZ (cG (vv 1) (cG (vv 2) bW))))⟩))))
def dN:ZQ P w K mg base "is_lanes" 2 Qx8 [] YO 340:=
 WB P base Qx8 Qx8 1 KI [] T T.p_x15 λc b d a=>by exact(b8 (bX (bI (D_x0 T) b (cF (vv 0) (cF (b6 (bJ (by rfl) (vI T T.g_LEAST_LANES))) (cF (b6 (bJ (by rfl) (vI T T.g_MOST_LANES))) b9))))))
def pW:ZQ P w K mg base "may_follow" 2 Qx16 [] V3 347:=
 WB P base Nx16 Qx16 1 T0 [] T T.p_x16 λc d b a=>by
  refine cE ?_ ?_
  ·exact(bC c.nd (aM (b6 (ZB a (ZB a (vv 0) (vv 1)) cD))))
  refine cE ?_ ?_
  ·exact(aU (SQ (U7 (bD Wu s_ge (vv 1) (vv 2)) (U7 (SR b (vv 3) bR) (XM (bD (OM b) O9 (ZB a (ZB a (vv 0) (vv 2)) cD) (vv 3))))))
   (b8 (bX ZC))
   bP)
  refine cE ?_ ?_
  ·exact(bC c.nd (aM (b6 (bI (D_x3 T) d (cF (b6 (ZB a (vv 0) (vv 1))) b9)))))
  exact b8 (bX (Xe (YX T3 O8 (vv 4) Y9) (YC (veq b (bI (D_x3 T) d (cF (b6 (ZB a (vv 0) (vv 2))) b9)) (Z3 X0 Y4 (vv 4) cD)))))
def gA:ZQ P w K mg base "is_pack" 3 N7 [] ZM 352:=
 WB P base Nx17 N7 2 UH [] T T.p_x17 λe c d a=>by
  refine cE ?_ ?_
  ·exact(bC e.nd (aM (b6 (ZB a (vv 0) cD))))
  refine cE ?_ ?_
  ·exact(aU (SQ (U7 (Y5 (ZX (EX T.n_isinstance (vv 2) (vty T.n_tuple YE)))) (XM (bD (OM d) O9 (XJ T.n_len (vv 2)) (vv 1)))))
   (b8 (bX ZC))
   bP)
  refine cE ?_ ?_
  ·exact (aU (Y5 (ZX (MZ (kAll rfl) EI (by rfl) T.n_all J5 (bM (aA ["rows","row"] [3] 1 (ZI rfl (vv 2)) (λb _ _ _ _ => ⟨(bO b),ZH,(b6 (bI (D_x0 T) c (cF (vv 1) (cF cD (cF (b6 (XO QF LH (XJ T.n_len (vv 0)) cD)) b9)))))⟩))))))
   (b8 (bX ZC))
   bP)
  refine cE ?_ ?_
  ·exact (aU (Y5 (ZX (MZ (kAll rfl) EI (by rfl) T.n_all J5 (bM (aA ["rows","first","second"] [3] 2 (C5 rfl (by rfl) T.n_zip (vv 2) (b6 (PD rfl (vv 2) (PH cD) PF))) (λb _ _ _ _ => ⟨(VT (K := K) rfl rfl (aS (bO b) (aS (bO b) X5))),ZH,(b6 (bI (pW T) c (cF (vv 0) (cF (vv 1) (cF (vv 2) b9)))))⟩))))))
   (b8 (bX ZC))
   bP)
  exact b8 (bX (dG (MZ (kAny rfl) oh (by rfl) T.n_any fM (bM (EZ (N':=["thing","rows","row","name"]) (ix:=[2,3]) (nl:=2) rfl rfl (by rfl) rfl (by decide) (ZI rfl (vv 2)) (λcl s1 H1 fp=>⟨(bO (show(["thing","rows","row","name"]:List Uv).Nodup by decide+kernel)),ZH,(ZI rfl (b6 (bI (D_x4 T) c (cF (b6 (ZB a (vv 1) (vv 2))) b9)))),(bO (show(["thing","rows","row","name"]:List Uv).Nodup by decide+kernel)),ZH,(b6 (YX (UL d) (Y2 (neg:=bb)) (vv 3) (vv 0) (by with_unfolding_all rfl)))⟩))))))
def Xr:ZQ P w K mg base "rows_within" 1 Nx18 [] UX 357:=
 WB P base Nx18 Nx18 0 QL [] T T.p_x18 λb d c a=>by exact(b8 (bX (bM (EZ (N':=["rows","row"]) (ix:=[]) (nl:=2) rfl rfl (by rfl) rfl (by decide) (ZI rfl (vv 0)) (λcl s1 H1 fp=>⟨(bO (show(["rows","row"]:List Uv).Nodup by decide+kernel)),ZH,(ZI rfl (vv 0)),(bO (show(["rows","row"]:List Uv).Nodup by decide+kernel)),ZH,(vv 1)⟩)))))
def Xa:ZQ P w K mg base "fits_plan" 4 N7 [] aQ 362:=
 WB P base Nx19 N7 3 U3 [] T T.p_x19 λc b a d=>by
  refine cE ?_ ?_
  ·exact (aU (SQ (U7 (Y5 (ZX (EX T.n_isinstance (vv 2) (vty T.n_tuple YE)))) (XM (Y5 (ZX (MZ (kAll rfl) EI (by rfl) T.n_all J5 (bM (aA ["block","lanes","pack"] [0,1] 1 (ZI rfl (vv 2)) (λe _ _ _ _ => ⟨(bO e),ZH,(b6 (bI (gA T) b (cF (vv 0) (cF (vv 1) (cF (vv 2) b9)))))⟩)))))))))
   (b8 (bX ZC))
   bP)
  refine cE ?_ ?_
  ·exact(bC c.nd (aM (b6 (bI (Xr T) b (cF (vv 2) b9)))))
  exact b8 (bX (X4 (veq a (jl T.n_len T.n_set (vv 3)) (XJ T.n_len (vv 3))) (YC (veq a (bM (EY FZ VM (by rfl) T.VM QZ (vv 2))) (bM (Wx (BV rfl) F5 (by rfl) T.n_sorted M8 (vv 2)))))))
def Wq:ZQ P w K mg base "check_lanes" 6 E8 [] a6 369:=
 WB P base E8 E8 5 WT [] T T.p_x20 λc a d b=>by
  refine cE ?_ ?_
  ·exact(aU (Y5 (ZX (bI (D_x8 T) a (cF (vv 0) b9))))
   (b8 VU)
   bP)
  exact b8 (aU (Y5 (ZX (bI (dN T) a (cF (vv 1) b9))))
   (b8 VU)
   bP)
omit T in
def qu:Z7 E8 E8 (b5 (top 52)):=K0
def fX{f:Ur}{fd:Cj}(F:QP K "check_lanes" "check_lanes" (top 52) f fd):W0 P w K mg base (G6 P w) 6 f fd E8 (spX K 2 a8):=
 okZ P w K mg base E8 E8 5 WW F qu λ_ _ _ _ _ _ a c b=>by
  exact(PK (aB (JD (Y5 (ZX (bI (D_x8 T) a (cF (vv 0) b9)))) (aB (LN rfl GS rfl (by rfl) (vX T T.xc_NoBlock))) NU))
   (UB (aU (Y5 (ZX (bI (D_x8 T) a (cF (vv 0) b9))))
   (b8 VU)
   bP)
   (aB (JD (Y5 (ZX (bI (dN T) a (cF (vv 1) b9)))) (aB (LN rfl GS rfl (by rfl) (vX T T.xc_NoLanes))) NU))))
def eC:JH P w K mg base "check_lanes" 6 E8 a8 369:=
 KZ T.fnm T.p_x20 (λU=>fX T U) (Len2 λ_ _=>rfl)
def JX:ZQ P w K mg base "check_plan" 7 ZG [] bB 376:=
 WB P base ZG ZG 6 XX [] T T.p_x21 λc a d b=>by
  refine cE ?_ ?_
  ·exact(WV (bI (Wq T) a (cF (vv 0) (cF (vv 1) b9))))
  exact b8 (aU (Y5 (ZX (bI (Xa T) a (cF (vv 0) (cF (vv 1) (cF (vv 2) b9))))))
   (b8 VU)
   bP)
omit T in
def mV:Z7 ZG ZG (b5 (top 53)):=K0
def mK{f:Ur}{fd:Cj}(F:QP K "check_plan" "check_plan" (top 53) f fd):W0 P w K mg base (G6 P w) 7 f fd ZG (spX K 3 aW):=
 okZ P w K mg base ZG ZG 6 X6 F mV λ_ _ _ _ _ _ a c b=>by
  exact(PK (aB (RA (Q9 Q7 rfl (eC T) a (by decide) (by rfl) rfl (cF (vv 0) (cF (vv 1) b9)))))
   (UB (WV (bI (Wq T) a (cF (vv 0) (cF (vv 1) b9))))
   (aB (JD (Y5 (ZX (bI (Xa T) a (cF (vv 0) (cF (vv 1) (cF (vv 2) b9)))))) (aB (LN rfl GS rfl (by rfl) (vX T T.xc_NoPlan))) NU))))
def E7:JH P w K mg base "check_plan" 7 ZG aW 376:=
 KZ T.fnm T.p_x21 (λU=>mK T U) (BB λ_ _ _=>rfl)
def jT:ZQ P w K mg base "rows_alone" 2 DB [] N5 381:=
 WB P base Nx22 DB 1 OK [] T T.p_x22 λb d c a=>by
  refine cE ?_ ?_
  ·exact(bC b.nd (aM (b6 (bI (Xr T) d (cF (vv 1) b9)))))
  exact b8 (bX (bM (aA ["packed","row"] [2] 1 (XD (by rfl) T.n_range (XJ T.n_len (ZB a (vv 0) cD))) (λe _ _ _ _=>⟨(bO e),(NQ (bD (ON c) (Y2 (neg:=ba)) (vv 1) (vv 0) (by with_unfolding_all rfl))),(vv 1)⟩))))
def mM:ZQ P w K mg base "nodes_of" 3 DB [] TF 386:=
 WB P base DB DB 2 KM [] T T.p_x23 λd b e a=>by exact(b8 (bX (bM (Wx (BV rfl) F5 (by rfl) T.n_sorted M8 (EW (Z3 X0 Y4 (bM (EY FZ VM (by rfl) T.VM QZ (vv 1))) (bM (aA ["row"] [] 1 (ZI rfl (b6 (bI (jT T) b (cF (vv 0) (cF (vv 1) b9))))) (λc _ _ _ _=>⟨(bO c),ZH,(b6 (aZ (cG (vv 0) bW)))⟩)))))))))
def qW:ZQ P w K mg base "waits_of" 1 Qx24 [] TH 391:=
 WB P base Nx24 Qx24 0 KP [] T T.p_x24 λb e d a=>by
  exact(cE (lc a b.nd ["node","row"] (ZI rfl (vv 1)) (λc _ _ _ _=>⟨WD c rfl (.inl rfl),pv 0,WD c rfl (.inl rfl),pv 1,pv 0⟩))
   (ka (iw:=3) (i1:=4) (i2:=5) a b.nd ["node"] (ZI rfl (vv 1)) (λc _ _ _ _=>⟨WD c rfl (.inl rfl),pv 0⟩) Ds (ZI rfl (vv 0)) (cO rfl (UP (WD b.nd rfl (.inl rfl)) (UP (WD b.nd rfl (.inl rfl)) GG))) (bD (OM d) O9 (ZB a (vo 2) (vv 4)) (ZB a (vo 2) (vv 5))) (pv 3) (b6 (ZB a (vo 2) (vv 5))) (b6 (ZB a (vo 2) (vv 4)))
   (b8 (A8 (pv 3)))))
def ju:ZQ P w K mg base "next_node" 1 Qx25 [] MK 396:=
 WB P base Nx25 Qx25 0 MW [] T T.p_x25 λb e d a=>by
  refine cE ?_ ?_
  ·exact(SG Ds rfl (ZI rfl (vv 0)) (bO b.nd)
   (b8 (aU (SQ (LM (bD (qh a) cN (vv 3) (vv 2) (by with_unfolding_all rfl)) (PJ (ZX (MZ (kAll rfl) EI (by rfl) T.n_all J5 (bM (aA ["settled","other"] [2] 1 (ZI rfl (b6 (vixT a (vv 1) (vv 3)))) (λc _ _ _ _=>⟨(bO c),ZH,(b6 (YX (lE a) cN (vv 1) (vv 0) (by with_unfolding_all rfl)))⟩))))))))
   (b8 (bX (vv 3)))
   bP)))
  exact b8 (bX Y9)
def mQ:ZQ P w K mg base "ordered_by" 2 Qx24 [] YK 403:=
 WB P base Nx26 Qx24 1 WA [] T T.p_x26 λa c d b=>by
  refine cE ?_ ?_
  ·exact(bC a.nd (aM (b6 (bI (qW T) c (cF (vv 0) (cF (vv 1) b9))))))
  refine cE ?_ ?_
  ·exact(bC a.nd (SX lW))
  refine cE ?_ ?_
  ·exact (LL Ds (bD D6 s_lt (MZ k6 jn (by rfl) T.n_len BI (vo 3)) (XJ T.n_len (vv 1)))
   (cE (bC a.nd (aM (b6 (bI (ju T) c (cF (vv 1) (cF (vv 2) (aJ (pv 3) b9)))))))
   (cE (aU (bD T3 O8 (vv 4) Y9)
   (b8 (bX Y9))
   bP)
   (b8 (kD b (pv 3) (vv 4) ZC)))))
  exact b8 (bX (bM (EY (mX rfl) rl (by rfl) T.VM QZ (EW (vo 3)))))
def JY:ZQ P w K mg base "ordered" 5 DB [] ZU 410:=
 WB P base DB DB 4 Q4 [] T T.p_x27 λc a d b=>by exact(b8 (bX (bI (mQ T) a (cF (b6 (bI (lK T) a (cF (vv 0) b9))) (cF (b6 (bI (mM T) a (cF (vv 0) (cF (vv 1) b9)))) b9)))))
def mE:ZQ P w K mg base "is_plan" 7 N7 [] VV 437:=
 WB P base N7 N7 6 Q2 [] T T.p_x28 λc a d b=>by
  refine cE ?_ ?_
  ·exact(WV (bI (Wq T) a (cF (vv 0) (cF (vv 1) b9))))
  exact b8 (bX (bI (Xa T) a (cF (vv 0) (cF (vv 1) (cF (vv 2) b9)))))
omit T in
def iB:Z7 N7 N7 (b5 (top 64)):=K0
def oX{f:Ur}{fd:Cj}(F:QP K "is_plan" "is_plan" (top 64) f fd):W0 P w K mg base (G6 P w) 7 f fd N7 (spX K 3 UF):=
 okZ P w K mg base N7 N7 6 NW F iB λ_ _ _ _ _ _ b c a=>by exact(aB (RA (Q9 Q7 rfl (eC T) b (by decide) (by rfl) rfl (cF (vv 0) (cF (vv 1) b9)))))
def pJ:JH P w K mg base "is_plan" 7 N7 UF 437:=
 KZ T.fnm T.p_x28 (λU=>oX T U) (BB λ_ _ _=>rfl)
def nG:ZQ P w K mg base "is_valid" 8 ZG [] WX 444:=
 WB P base ZG ZG 7 TU [] T T.p_x29 λc a d b=>by
  refine cE ?_ ?_
  ·exact(WV (bI (JX T) a (cF (vv 0) (cF (vv 1) (cF (vv 2) b9)))))
  exact b8 (bX (YX eE dY (bI (JY T) a (cF (vv 0) (cF (vv 2) b9))) Y9))
omit T in
def kX:Z7 ZG ZG (b5 (top 65)):=K0
def fN{f:Ur}{fd:Cj}(F:QP K "is_valid" "is_valid" (top 65) f fd):W0 P w K mg base (G6 P w) 8 f fd ZG (spX K 3 VH):=
 okZ P w K mg base ZG ZG 7 QI F kX λ_ _ _ _ _ _ b c a=>by exact(aB (RA (Q9 Q7 rfl (E7 T) b (by decide) (by rfl) rfl (cF (vv 0) (cF (vv 1) (cF (vv 2) b9))))))
def pL:JH P w K mg base "is_valid" 8 ZG VH 444:=
 KZ T.fnm T.p_x29 (λU=>fN T U) (BB λ_ _ _=>rfl)
def lT:ZQ P w K mg base "order" 8 ZG [] QW 451:=
 WB P base Nx30 ZG 7 LY [] T T.p_x30 λb a d c=>by
  refine cE ?_ ?_
  ·exact(WV (bI (JX T) a (cF (vv 0) (cF (vv 1) (cF (vv 2) b9)))))
  refine cE ?_ ?_
  ·exact(bC b.nd (aM (b6 (bI (JY T) a (cF (vv 0) (cF (vv 2) b9))))))
  refine cE ?_ ?_
  ·exact(aU (bD T3 O8 (vv 3) Y9)
   (b8 VU)
   bP)
  exact NS
omit T in
def AQ:Z7 Nx30 ZG (b5 (top 66)):=K0
def kj{f:Ur}{fd:Cj}(F:QP K "order" "order" (top 66) f fd):W0 P w K mg base (G6 P w) 8 f fd ZG (spX K 3 TJ):=
 okZ P w K mg base Nx30 ZG 7 MA F AQ λ_ _ _ _ _ _ a c b=>by
  exact(PK (aB (RA (Q9 Q7 rfl (E7 T) a (by decide) (by rfl) rfl (cF (vv 0) (cF (vv 1) (cF (vv 2) b9))))))
   (UB (WV (bI (JX T) a (cF (vv 0) (cF (vv 1) (cF (vv 2) b9)))))
   (UB (bC AQ.nd (aM (b6 (bI (JY T) a (cF (vv 0) (cF (vv 2) b9))))))
   (aB (JD (bD T3 O8 (vv 3) Y9) (aB (NT rfl GU rfl a (by rfl) (vZ T T.xc_NotValid) (λ_=>T.fnm _ _) (cF (vv 2) b9))) NU)))))
def nQ:JH P w K mg base "order" 8 ZG TJ 451:=
 KZ T.fnm T.p_x30 (λU=>kj T U) (BB λ_ _ _=>rfl)
def fF:ZQ P w K mg base "cost" 8 ZG [] M3 463:=
 WB P base ZG ZG 7 FU [] T T.p_x31 λc a d b=>by
  refine cE ?_ ?_
  ·exact(WV (bI (JX T) a (cF (vv 0) (cF (vv 1) (cF (vv 2) b9)))))
  refine cE ?_ ?_
  ·exact(aU (bD T3 O8 (bI (JY T) a (cF (vv 0) (cF (vv 2) b9))) Y9)
   (b8 VU)
   bP)
  exact NS
omit T in
def k7:Z7 ZG ZG (b5 (top 68)):=K0
def js{f:Ur}{fd:Cj}(F:QP K "cost" "cost" (top 68) f fd):W0 P w K mg base (G6 P w) 8 f fd ZG (spX K 3 PN):=
 okZ P w K mg base ZG ZG 7 G5 F k7 λ_ _ _ _ _ _ a c b=>by
  exact(PK (aB (RA (Q9 Q7 rfl (E7 T) a (by decide) (by rfl) rfl (cF (vv 0) (cF (vv 1) (cF (vv 2) b9))))))
   (UB (WV (bI (JX T) a (cF (vv 0) (cF (vv 1) (cF (vv 2) b9)))))
   (aB (JD (bD T3 O8 (bI (JY T) a (cF (vv 0) (cF (vv 2) b9))) Y9) (aB (NT rfl GU rfl a (by rfl) (vZ T T.xc_NotValid) (λ_=>T.fnm _ _) (cF (vv 2) b9))) NU))))
def jI:JH P w K mg base "cost" 8 ZG PN 463:=
 KZ T.fnm T.p_x31 (λU=>js T U) (BB λ_ _ _=>rfl)
def m9:ZQ P w K mg base "lowered" 8 ZG [] VW 532:=
 WB P base Nx32 ZG 7 Q3 [] T T.p_x32 λb a d c=>by
  refine cE ?_ ?_
  ·exact(WV (bI (JX T) a (cF (vv 0) (cF (vv 1) (cF (vv 2) b9)))))
  refine cE ?_ ?_
  ·exact(bC b.nd (aM (b6 (bI (JY T) a (cF (vv 0) (cF (vv 2) b9))))))
  refine cE ?_ ?_
  ·exact(aU (bD T3 O8 (vv 3) Y9)
   (b8 VU)
   bP)
  exact NS
omit T in
def AR:Z7 Nx32 ZG (b5 (top 71)):=K0
def qU{f:Ur}{fd:Cj}(F:QP K "lowered" "lowered" (top 71) f fd):W0 P w K mg base (G6 P w) 8 f fd ZG (spX K 3 W3):=
 okZ P w K mg base Nx32 ZG 7 RB F AR λ_ _ _ _ _ _ a c b=>by
  exact(PK (aB (RA (Q9 Q7 rfl (E7 T) a (by decide) (by rfl) rfl (cF (vv 0) (cF (vv 1) (cF (vv 2) b9))))))
   (UB (WV (bI (JX T) a (cF (vv 0) (cF (vv 1) (cF (vv 2) b9)))))
   (UB (bC AR.nd (aM (b6 (bI (JY T) a (cF (vv 0) (cF (vv 2) b9))))))
   (aB (JD (bD T3 O8 (vv 3) Y9) (aB (NT rfl GU rfl a (by rfl) (vZ T T.xc_NotValid) (λ_=>T.fnm _ _) (cF (vv 2) b9))) NU)))))
def ph:JH P w K mg base "lowered" 8 ZG W3 532:=
 KZ T.fnm T.p_x32 (λU=>qU T U) (BB λ_ _ _=>rfl)
def oo:ZQ P w K mg base "_law_cell_at" 1 Qx33 [] YY 539:=
 WB P base Nx33 Qx33 0 UZ [] T T.p_x33 λb d c a=>by
  refine cE ?_ ?_
  ·exact(aU (bD D6 s_lt (vv 1) (XJ T.n_len (vv 0)))
   (b8 (bX (ZB a (vv 0) (vv 1))))
   bP)
  refine cE ?_ ?_
  ·exact(aU (SR c (vv 0) (bM (aH (bK bW))))
   (b8 (bX cD))
   bP)
  refine cE ?_ ?_
  ·exact(bC b.nd (aM (b6 (ZB a (vv 0) (XO RY MY (vv 1) (XJ T.n_len (vv 0)))))))
  refine cE ?_ ?_
  ·exact (SG Ds rfl (XD (by rfl) T.n_range (XN (fH rfl) pR (by rfl) T.n_min jQ (XO Zh Zw (vv 1) (XJ T.n_len (vv 0))) cD)) (bO b.nd)
   (b8 (bC b.nd (aM (b6 (XO Zh Zw (vv 2) cD))))))
  exact b8 (bX (Z3 X0 Y4 (Z3 X0 Y4 (Z3 F0 LS (ZB a (vv 0) (XO RY MY (vv 1) (XJ T.n_len (vv 0)))) cD) (vv 1)) (Z3 F0 LS (vv 2) cD)))
def rA:ZQ P w K mg base "_law_mixed" 2 Qx34 [] U1 546:=
 WB P base Nx34 Qx34 1 RO [] T T.p_x34 λa c d b=>by
  refine cE ?_ ?_
  ·exact(bC a.nd (aM (b6 (XO RY MY (Z3 X0 Y4 (Z3 X0 Y4 (Z3 F0 LS (bI (oo T) c (cF (vv 0) (cF (vv 1) b9))) cD) (Z3 F0 LS cD (vv 1))) cD) cD))))
  exact b8 (bX (XO RY MY (XO RY MY (XO RY MY (XO nO mY (vv 3) cD) cD) cD) (vv 2)))
def QJ:ZQ P w K mg base "_law_draw" 3 Nx35 [1] aF 553:=
 WB P base Nx35 Nx35 2 P1 [1] T T.p_x35 λc b d a=>by
  refine cE ?_ ?_
  ·exact(YJ Bq Br ZW WJ (pv 1) (bK (cG cD bW)))
  exact b8 (bX (bI (rA T) b (cF (vv 0) (cF (b6 (XJ T.n_len (vo 1))) (cF (vv 2) b9)))))
def N3:ZQ P w K mg base "_law_pick" 4 Nx36 [1] Z6 560:=
 WB P base Nx36 Nx36 3 P5 [1] T T.p_x36 λc b d a=>by exact(b8 (bX (ZB a (vv 2) (bI (QJ T) b (cF (vv 0) (aJ (pv 1) (cF (b6 (XJ T.n_len (vv 2))) b9)))))))
def DA:ZQ P w K mg base "_law_place" 5 Nx37 [1,2] ZJ 567:=
 WB P base Nx37 Nx37 4 RP [1,2] T T.p_x37 λc b d a=>by
  refine cE ?_ ?_
  ·exact(A6 a (pv 2) (vv 3) (b6 (XO RY MY (Z3 X0 Y4 (rk a (pv 2) (vv 3) (b6 (bI (QJ T) b (cF (vv 0) (aJ (pv 1) (cF (vv 4) b9))))) ⟨rfl,rfl,rfl,rfl⟩) (bI (N3 T) b (cF (vv 0) (aJ (pv 1) (cF (bM (aH (bK (cG cD (cG cD (cG cD (cG cD (cG cD bW)))))))) b9))))) (vv 4))) rfl)
  exact b8 (bX (ZB a (vo 2) (vv 3)))
def oV:ZQ P w K mg base "_law_row" 6 Qx38 [1,3] QV 572:=
 WB P base Nx38 Qx38 5 NE [1,3] T T.p_x38 λd a b c=>by
  refine cE ?_ ?_
  ·exact(bC d.nd (aM (b6 (bI (QJ T) a (cF (vv 0) (aJ (pv 1) (cF cD b9)))))))
  refine cE ?_ ?_
  ·exact(aU (SQ (U7 (SR b (vv 2) (bM (aH (bK bW)))) (XM (SR b (vv 5) cD))))
   (cE (aU (SR b (bI (QJ T) a (cF (vv 0) (aJ (pv 1) (cF cD b9)))) cD)
   (b8 (bX (aZ (cG bR (cG (bI (N3 T) a (cF (vv 0) (aJ (pv 1) (cF (bM (aH (bK (cG cD (cG cD (cG cD (cG cD (cG cD (cG (bI (QJ T) a (cF (vv 0) (aJ (pv 1) (cF cD b9)))) bW))))))))) b9)))) bW)))))
   bP)
   (b8 (bX (aZ (cG bR (cG (bI (DA T) a (cF (vv 0) (aJ (pv 1) (aJ (pv 3) (cF bR (cF (vv 4) b9)))))) bW))))))
   bP)
  refine cE ?_ ?_
  ·exact(C6 (bM (aA ["_law_script","_law_town","_law_made","_law_k"] [0,1,2] 1 (XD (by rfl) T.n_range cD) (λe _ _ _ _=>⟨(bO e),ZH,(b6 (ZB c (vv 2) (XN (qf rfl) q8 (by rfl) T.n_max iF cD (XO QF LH (XO QF LH (XJ T.n_len (vv 2)) cD) (bI (QJ T) a (cF (vv 0) (aJ (pv 1) (cF cD b9))))))))⟩))) (VT (K:=K) rfl rfl (aS (bO d.nd) (aS (bO d.nd) (aS (bO d.nd) X5)))))
  refine cE ?_ ?_
  ·exact (aU (bD (UL b) (Y2 (neg := bb)) (vv 5) (aZ (cG cD (cG cD bW))) (by with_unfolding_all rfl))
   (b8 (bX (aZ (cG bR (cG (bI (DA T) a (cF (vv 0) (aJ (pv 1) (aJ (pv 3) (cF bR (cF (vv 4) b9)))))) bW)))))
   bP)
  refine cE ?_ ?_
  ·exact(aU (SR b (vv 5) cD)
   (b8 (bX (aZ (cG bR (cG (bI (DA T) a (cF (vv 0) (aJ (pv 1) (aJ (pv 3) (cF bR (cF (vv 4) b9)))))) (cG (vv 8) (cG (vv 6) bW)))))))
   bP)
  refine cE ?_ ?_
  ·exact (aU (bD (UL b) (Y2 (neg := bb)) (vv 5) (aZ (cG cD (cG cD bW))) (by with_unfolding_all rfl))
   (b8 (bX (aZ (cG bR (cG (bI (DA T) a (cF (vv 0) (aJ (pv 1) (aJ (pv 3) (cF bR (cF (vv 4) b9)))))) (cG (vv 6) bW))))))
   bP)
  refine cE ?_ ?_
  ·exact(aU (SR b (vv 5) cD)
   (b8 (bX (aZ (cG bR (cG (bI (DA T) a (cF (vv 0) (aJ (pv 1) (aJ (pv 3) (cF bR (cF (vv 4) b9)))))) (cG (vv 6) (cG (vv 8) bW)))))))
   bP)
  refine cE ?_ ?_
  ·exact(aU (SR b (vv 5) cD)
   (b8 (bX (aZ (cG bR (cG (vv 8) (cG (vv 6) (cG (vv 7) bW)))))))
   bP)
  exact b8 (bX (aZ (cG (ZB c (bM (aH (bK (cG bR (cG bR (cG bR (cG bR (cG bR (cG bR (cG bR bW)))))))))) (bI (QJ T) a (cF (vv 0) (aJ (pv 1) (cF cD b9))))) (cG (vv 6) (cG (vv 7) bW)))))
def my:ZQ P w K mg base "_law_next" 5 Qx40 [1,4] YA 586:=
 WB P base Nx40 Qx40 4 TW [1,4] T T.p_x40 λb d c a=>by
  refine cE ?_ ?_
  ·exact(bC b.nd (aM (b6 (ZB a (vv 2) (SD cD)))))
  refine cE ?_ ?_
  ·exact(bC b.nd (aM (b6 (JC (bD (UL c) (Y2 (neg:=bb)) (ZB a (vv 6) cD) (aZ (cG bR (cG bR (cG bR (cG bR bW))))) (by with_unfolding_all rfl)) cD cD))))
  refine cE ?_ ?_
  ·exact(bC b.nd (SX (aH (bK bW))))
  refine cE ?_ ?_
  ·exact(SG Ds rfl (ZI rfl (b6 (PD rfl (vv 6) (PH (vv 7)) PF))) (bO b.nd)
   (cE (bC b.nd (aM (b6 (Z3 X0 Y4 (iM rfl (vv 3) (vv 9)) (bI (N3 T) d (cF (vv 0) (aJ (pv 1) (cF (bM (aH (bK (cG cD (cG cD (cG cD (cG cD (cG (SD cD) (cG cD (cG cD bW)))))))))) b9))))))))
   (b8 (YJ Bq Br ZW WJ (pv 8) (bK (cG (JC (SQ (LM (pH Wj D6 s_le s_lt cD (vv 10) (XJ T.n_len (vv 3))) (PJ (bD (OM c) O9 (ZB a (vv 3) (vv 10)) (XO QF LH (XJ T.n_len (vv 2)) cD))))) (ZB a (vv 3) (vv 10)) (vv 9)) bW))))))
  refine cE ?_ ?_
  ·exact(aU (SR c (vv 7) cD)
   (b8 (bX (Z3 X0 Y4 (PD rfl (vv 6) PF (PH cD)) (EV OO OE (by rfl) T.n_tuple YE (vo 8)))))
   bP)
  refine cE ?_ ?_
  ·exact(A6 a (pv 4) (ZB a (vv 6) cD) (b6 (XO RY MY (Z3 X0 Y4 (ZB a (vv 6) cD) cD) (vv 5))) rfl)
  exact b8 (bX (Z3 X0 Y4 (aZ (cG (ZB a (vv 6) cD) (cG (ZB a (vo 4) (ZB a (vv 6) cD)) bW))) (EV OO OE (by rfl) T.n_tuple YE (vo 8))))
def la:ZQ P w K mg base "_law_rows" 7 Qx39 [1] SZ 579:=
 WB P base Nx39 Qx39 6 P6 [1] T T.p_x39 λd c b a=>by
  refine cE ?_ ?_
  ·exact(gF (i:=4) (j:=5) (k:=6) rfl d.nd rfl rfl rfl (by decide) (by decide) (by decide) rfl rfl rfl (SX (aH (bK bW))) (SX (aH (bK bW))) (SX k9) rfl)
  refine cE ?_ ?_
  ·exact(LL Ds (bD D6 s_lt (XJ T.n_len (vo 4)) (vv 2))
   (cE (YJ Bq Br ZW WJ (pv 4) (bK (cG (bI (oV T) c (cF (vv 0) (aJ (pv 1) (aJ (pv 5) (aJ (pv 6) (cF (vv 3) b9)))))) bW)))
   (cE (aU (bD (ON b) (Y2 (neg:=ba)) (ZB a (ZB a (vo 4) (SD cD)) cD) (aZ (cG bR (cG bR bW))) (by with_unfolding_all rfl))
   (b8 (YJ Bq Br ZW WJ (pv 5) (bK (cG (XO QF LH (XJ T.n_len (vo 4)) cD) bW))))
   bP)
   (b8 (SG Ds rfl (XD (by rfl) T.n_range (bI (N3 T) c (cF (vv 0) (aJ (pv 1) (cF (bM (aH (bK (cG cD (cG cD (cG cD (cG cD (cG cD bW)))))))) b9))))) (bO d.nd)
   (b8 (aU (SQ (LM (bD D6 s_lt (XJ T.n_len (vo 4)) (vv 2)) (PJ (bD (OM b) O9 (ZB a (ZB a (vo 4) (SD cD)) cD) bR))))
   (cE (YJ Bq Br ZW WJ (pv 4) (bK (cG (bI (my T) c (cF (vv 0) (aJ (pv 1) (aJ (pv 4) (aJ (pv 5) (aJ (pv 6) (cF (vv 3) b9))))))) bW)))
   (b8 (aU (bD (ON b) (Y2 (neg:=ba)) (ZB a (ZB a (vo 4) (SD cD)) cD) (aZ (cG bR (cG bR bW))) (by with_unfolding_all rfl))
   (b8 (YJ Bq Br ZW WJ (pv 5) (bK (cG (XO QF LH (XJ T.n_len (vo 4)) cD) bW))))
   bP)))
   bP)))))))
  exact b8 (bX (EV OO OE (by rfl) T.n_tuple YE (vo 4)))
def lC:ZQ P w K mg base "_law_names" 1 Nx42 [] Y6 598:=
 WB P base Nx42 Nx42 0 MT [] T T.p_x42 λc d b a=>by
  refine cE ?_ ?_
  ·exact(aU (SR b (ZB a (vv 0) cD) bR)
   (b8 (bX (bM (aH (bK bW)))))
   bP)
  exact b8 (bX (JC (bD (UL b) (Y2 (neg:=bb)) (ZB a (vv 0) cD) (aZ (cG bR (cG bR (cG bR (cG bR bW))))) (by with_unfolding_all rfl)) (bM (EY FZ VM (by rfl) T.VM QZ (EW (PD rfl (vv 0) (PH cD) PF)))) (bM (EY FZ VM (by rfl) T.VM QZ (EW (PD rfl (vv 0) (PH cD) PF))))))
def Vp:ZQ P w K mg base "_law_may" 1 Qx43 [] WY 603:=
 WB P base Nx43 Qx43 0 NC [] T T.p_x43 λc e b a=>by
  refine cE ?_ ?_
  ·exact(bC c.nd (aM (b6 (ZB a (ZB a (vv 0) cD) (vv 1)))))
  refine cE ?_ ?_
  ·exact (aU (bD (UL b) (Y2 (neg := bb)) (ZB a (vv 2) cD) (aZ (cG bR (cG bR (cG bR (cG bR bW))))) (by with_unfolding_all rfl))
   (b8 (bX (YX Wu s_ge (ZB a (vv 2) cD) (ZB a (vv 0) cD))))
   bP)
  exact b8 (bX (X4 (veq b (ZB a (vv 2) cD) bR) (YC (YX (ON b) (Y2 (neg:=ba)) (PD rfl (ZB a (ZB a (vv 0) cD) (ZB a (vv 2) cD)) PF (PH cD)) (bM (aA ["_law_k"] [] 1 (NR (by rfl) T.n_range cD cD) (λd _ _ _ _=>⟨(bO d),ZH,(b6 (aZ (cG bR (cG (vv 0) bW))))⟩))) (by with_unfolding_all rfl)))))
def pK:ZQ P w K mg base "_law_must" 2 Qx44 [] SY 608:=
 WB P base Nx44 Qx44 1 P2 [] T T.p_x44 λc d b a=>by
  refine cE ?_ ?_
  ·exact(A7 (i:=1) (j:=2) rfl c.nd rfl rfl (by decide) rfl rfl (SX (aH (bK bW))) (aM (b6 (aZ (cG bR (cG bR (cG bR (cG bR bW))))))) rfl)
  refine cE ?_ ?_
  ·exact (SG Ds rfl (G3 rfl (by rfl) T.n_enumerate (b6 (ZB a (vv 0) cD))) (VT (K := K) rfl rfl (aS (bO c.nd) (aS (bO c.nd) X5)))
   (b8 (SG Ds rfl (G3 rfl (by rfl) T.n_enumerate (b6 (PD rfl (ZB a (vv 0) cD) PF (PH (vv 3))))) (VT (K:=K) rfl rfl (aS (bO c.nd) (aS (bO c.nd) X5)))
   (cE (pj bb c.nd ["_law_row_here"] [] 1 (ZI rfl (b6 (aZ (cG (vv 6) (cG (vv 4) bW))))) (λe _ _ _ _=>⟨(bO e),(NQ (bD (UL b) (Y2 (neg:=bb)) (ZB a (vv 0) cD) (aZ (cG bR (cG bR bW))) (by with_unfolding_all rfl))),(vv 0)⟩))
   (cE (bC c.nd (SX (aH (bK (cG (YX (UL b) (Y2 (neg:=bb)) (vv 5) (bI (lC T) d (cF (vv 4) b9)) (by with_unfolding_all rfl)) (cG (X4 (bI (Vp T) d (cF (vv 0) (cF (vv 5) b9))) (YC (bI (Vp T) d (cF (vv 0) (cF (vv 3) b9))))) bW))))))
   (cE (YJ Bq Br ZW WJ (pv 8) (bK (cG (X4 (YX (UL b) (Y2 (neg:=bb)) (ZB a (vv 6) cD) (vv 2) (by with_unfolding_all rfl)) (X4 (YX (UL b) (Y2 (neg:=bb)) (ZB a (vv 4) cD) (vv 2) (by with_unfolding_all rfl)) (X4 (veq b (ZB a (vv 6) cD) (ZB a (vv 4) cD)) (YC (YX (OM b) O9 (vv 7) (bM (aH (bK bW)))))))) bW)))
   (cE (YJ Bq Br ZW WJ (pv 8) (bK (cG (X4 (bI (Vp T) d (cF (vv 0) (cF (vv 5) b9))) (YC (YX (UL b) (Y2 (neg:=bb)) (ZB a (vv 4) cD) (aZ (cG bR (cG bR bW))) (by with_unfolding_all rfl)))) bW)))
   (cE (YJ Bq Br ZW WJ (pv 8) (bK (cG (X4 (bI (Vp T) d (cF (vv 0) (cF (vv 3) b9))) (YC (YX (UL b) (Y2 (neg:=bb)) (ZB a (vv 6) cD) (aZ (cG bR (cG bR bW))) (by with_unfolding_all rfl)))) bW)))
   (b8 (aU (bD (UL b) (Y2 (neg:=bb)) ZC (vo 8) (by with_unfolding_all rfl))
   (b8 (YJ Bq Br ZW WJ (pv 1) (bK (cG (aZ (cG (vv 5) (cG (vv 3) bW))) bW))))
   bP))))))))))
  exact b8 (bX (bM (Wx (BV rfl) F5 (by rfl) T.n_sorted M8 (EW (vo 1)))))
def gH:ZQ P w K mg base "_law_mixed_order" 5 Qx47 [1] YS 627:=
 WB P base Nx47 Qx47 4 XY [1] T T.p_x47 λd e b a=>by
  refine cE ?_ ?_
  ·exact(iW (i:=3) (j:=4) (k:=5) rfl rfl d.nd rfl rfl rfl (by decide) (by decide) (by decide) (Cm rfl) (Cm rfl) (Dy rfl) (aM (b6 (bI (pK T) e (cF (vv 2) b9)))) (SX (lA rfl (by rfl) T.VM QZ (by rfl) T.n_range pq (XJ T.n_len (ZB a (vv 2) cD)))) (SX (aH (bK bW))))
  refine cE ?_ ?_
  ·exact(LL Ds (bD (OM b) O9 (vo 4) (bM (aH (bK bW))))
   (cE (iU bb d.nd ["_law_pairs","_law_left","_law_row_here"] [3,4] 1 (fZ rfl (vo 4)) (λc _ _ _ _=>⟨(bO c),(NQ (SR b (bM (aA ["_law_left","_law_row_here","_law_one","_law_two"] [1,2] 2 (ZI rfl (vv 0)) (λc _ _ _ _=>⟨(VT (K:=K) rfl rfl (aS (bO c) (aS (bO c) X5))),(NQ (SQ (LM (SR b (vv 3) (vv 1)) (PJ (bD (UL b) (Y2 (neg:=bb)) (vv 2) (vo 0) (by with_unfolding_all rfl)))))),cD⟩))) (bM (aH (bK bW))))),(vv 2)⟩))
   (cE (YJ Bq Br ZW WJ (pv 5) (bK (cG (bI (N3 T) e (cF (vv 0) (aJ (pv 1) (cF (vv 6) b9)))) bW)))
   (b8 (YJ PySem.F.slot_list_remove PySem.F.type_list_remove nZ kU (pv 4) (bK (cG (ZB a (vo 5) (SD cD)) bW)))))))
  exact b8 (A8 (pv 5))
def nW:ZQ P w K mg base "_law_renamed" 1 Qx48 [] a7 632:=
 WB P base Nx48 Qx48 0 ZY [] T T.p_x48 λc e b a=>by
  refine cE ?_ ?_
  ·exact(aU (SR b (ZB a (vv 0) cD) bR)
   (b8 (bX (vv 0)))
   bP)
  refine cE ?_ ?_
  ·exact(bC c.nd (aM (b6 (JC (bD (UL b) (Y2 (neg:=bb)) (ZB a (vv 0) cD) (aZ (cG bR (cG bR (cG bR (cG bR bW))))) (by with_unfolding_all rfl)) cD cD))))
  exact b8 (bX (Z3 X0 Y4 (PD rfl (vv 0) PF (PH (vv 2))) (EV OO OE (by rfl) T.n_tuple YE (bM (aA ["_law_names_here","_law_name"] [1] 1 (ZI rfl (b6 (PD rfl (vv 0) (PH (vv 2)) PF))) (λd _ _ _ _=>⟨(bO d),ZH,(b6 (ZB a (vv 0) (vv 1)))⟩))))))
def mr:ZQ P w K mg base "_law_block" 8 Qx41 [1] X9 591:=
 WB P base Nx41 Qx41 7 U4 [1] T T.p_x41 λb a e c=>by
  refine cE ?_ ?_
  ·exact(bC b.nd (aM (b6 (bI (N3 T) a (cF (vv 0) (aJ (pv 1) (cF (bM (aH (bK (cG cD (cG cD (cG cD (cG cD bW))))))) b9)))))))
  refine cE ?_ ?_
  ·exact(bC b.nd (aM (b6 (bI (N3 T) a (cF (vv 0) (aJ (pv 1) (cF (bM (aH (bK (cG cD (cG (vv 3) (cG (vv 3) (cG (bI (QJ T) a (cF (vv 0) (aJ (pv 1) (cF (b6 (Z3 X0 Y4 (vv 3) cD)) b9)))) bW))))))) b9)))))))
  refine cE ?_ ?_
  ·exact(bC b.nd (aM (b6 (aZ (cG (vv 4) (cG (bI (la T) a (cF (vv 0) (aJ (pv 1) (cF (b6 (bI (QJ T) a (cF (vv 0) (aJ (pv 1) (cF (b6 (Z3 X0 Y4 (vv 2) cD)) b9))))) (cF (vv 3) b9))))) bW))))))
  refine cE ?_ ?_
  ·exact(aU (bD dM s_gt (bI (QJ T) a (cF (vv 0) (aJ (pv 1) (cF cD b9)))) cD)
   (b8 (bX (vv 5)))
   bP)
  refine cE ?_ ?_
  ·exact(bC b.nd (aM (b6 (bI (gH T) a (cF (vv 0) (aJ (pv 1) (cF (vv 5) b9)))))))
  refine cE ?_ ?_
  ·exact(bC b.nd (aM (bM (oq rfl rfl (by rfl) T.n_dict ll (bM (aA ["_law_number","_law_row_here"] [] 2 (G3 rfl (by rfl) T.n_enumerate (vv 6)) (λd _ _ _ _=>⟨(VT (K:=K) rfl rfl (aS (bO d) (aS (bO d) X5))),ZH,(b6 (aZ (cG (vv 1) (cG (vv 0) bW))))⟩)))))))
  exact b8 (bX (aZ (cG (vv 4) (cG (EV OO OE (by rfl) T.n_tuple YE (bM (aA ["_law_block_here","_law_names_here","_law_row_here"] [5,7] 1 (ZI rfl (vv 6)) (λd _ _ _ _=>⟨(bO d),ZH,(b6 (bI (nW T) a (cF (b6 (ZB c (ZB c (vv 0) cD) (vv 2))) (cF (vv 1) b9))))⟩)))) bW))))
omit T in
def zDO:Z7 Nx45 Qx45 (b5 (top 85)):=K0
def mw{f:Ur}{fd:Cj}(F:QP K "_law_which" "_law_which" (top 85) f fd):FnH P w K mg base 1 f fd Qx45 (spV K [] 1 WN):=
 okWH P w K mg base Nx45 Qx45 0 MU [] F zDO λ_ _ _ _ _ c b a=>by
  refine cE ?_ ?_
  ·exact(bC zDO.nd (SX (aH (bK (cG (XN P8 (VO (xi T)) (by rfl) T.n_isinstance bA (vv 0) (bJ (by rfl) (vF T T.g_NoBlock))) (cG (XN P8 (VO (xi T)) (by rfl) T.n_isinstance bA (vv 0) (bJ (by rfl) (vF T T.g_NoCells))) (cG (XN P8 (VO (xi T)) (by rfl) T.n_isinstance bA (vv 0) (bJ (by rfl) (vF T T.g_NoRow))) (cG (XN P8 (VO (xi T)) (by rfl) T.n_isinstance bA (vv 0) (bJ (by rfl) (vF T T.g_NoLanes))) bW))))))))
  refine cE ?_ ?_
  ·exact(YJ Ia Ib (Wl (K:=K) rfl) BX (pv 1) (bK (cG (bM (aH (bK (cG (XN P8 (VO (xi T)) (by rfl) T.n_isinstance bA (vv 0) (bJ (by rfl) (vF T T.g_NoPlan))) (cG (XN P8 (VO (xi T)) (by rfl) T.n_isinstance bA (vv 0) (bJ (by rfl) (vF T T.g_NoProgram))) (cG (XN P8 (VO (xi T)) (by rfl) T.n_isinstance bA (vv 0) (bJ (by rfl) (vF T T.g_NoTree))) (cG (XN P8 (VO (xi T)) (by rfl) T.n_isinstance bA (vv 0) (bJ (by rfl) (vF T T.g_NoLoop))) bW))))))) bW)))
  refine cE ?_ ?_
  ·exact(YJ Ia Ib (Wl (K:=K) rfl) BX (pv 1) (bK (cG (bM (aH (bK (cG (XN P8 (VO (xi T)) (by rfl) T.n_isinstance bA (vv 0) (bJ (by rfl) (vF T T.g_NoText))) (cG (XN P8 (VO (xi T)) (by rfl) T.n_isinstance bA (vv 0) (bJ (by rfl) (vF T T.g_NoName))) (cG (XN P8 (VO (xi T)) (by rfl) T.n_isinstance bA (vv 0) (bJ (by rfl) (vF T T.g_TooMany))) (cG (XN P8 (VO (xi T)) (by rfl) T.n_isinstance bA (vv 0) (bJ (by rfl) (vF T T.g_TooLong))) bW))))))) bW)))
  refine cE ?_ ?_
  ·exact(YJ Ia Ib (Wl (K:=K) rfl) BX (pv 1) (bK (cG (bM (aH (bK (cG (XN P8 (VO (xi T)) (by rfl) T.n_isinstance bA (vv 0) (bJ (by rfl) (vF T T.g_NotValid))) (cG (XN P8 (VO (xi T)) (by rfl) T.n_isinstance bA (vv 0) (bJ (by rfl) (vF T T.g_Nothing))) bW))))) bW)))
  refine cE ?_ ?_
  ·exact (aU (SQ (U7 (bD (OM b) O9 (dC rfl PySem.F.slot_list_count PySem.F.type_list_count lM oM (vo 1) ZC) cD) (XM (Y5 (ZX (XN P8 (VO (xi T)) (by rfl) T.n_isinstance bA (vv 0) (vty T.n_ValueError JN)))))))
   (b8 (bX (aZ (cG bR (cG (SD cD) bW)))))
   bP)
  exact b8 (bX (aZ (cG bR (cG (dC rfl Me Mf oA rH (vo 1) ZC) bW))))
def q9:DefH P w K mg base "_law_which" 1 Qx45 (spV K [] 1 WN) 615:=
 eK T.fnm T.p_x45 (λU=>mw T U) (Len1 λ_=>rfl)
def og:ZQ P w K mg base "_law_none" 5 Qx46 [1] VD 622:=
 WB P base Nx36 Qx46 4 P4 [1] T T.p_x46 λa c d b=>by
  refine cE ?_ ?_
  ·exact(@bC _ _ _ _ _ _ _ _ _ a.nd (@aM _ _ _ _ _ _ (@bM _ _ _ _ _ _ (@UA _ _ _ 3 _ _ _ rfl (by decide)))) rfl (by first|exact .inl rfl|exact .inr rfl) (by decide) rfl (by first|exact .inl rfl|exact .inr rfl|assumption))
  refine cE ?_ ?_
  ·exact(@bC _ _ _ _ _ _ _ _ _ a.nd (@aM _ _ _ _ _ _ (@b6 _ _ _ _ _ _ _ _ (@Z3 _ _ _ _ _ _ _ _ _ _ _ _ _ _ _ _ _ X0 Y4 (@vv _ _ _ _ _ 2 rfl (by first|exact Dy rfl|exact Cm (Dy rfl)|exact Cm (Cm rfl)) (by decide) (by decide)) (@bM _ _ _ _ _ _ (@UA _ _ _ 3 _ _ _ rfl (by decide))) rfl) rfl)) rfl (by first|exact .inl rfl|exact .inr rfl) (by decide) rfl (by first|exact .inl rfl|exact .inr rfl|assumption))
  refine cE ?_ ?_
  ·exact(@bC _ _ _ _ _ _ _ _ _ a.nd (@aM _ _ _ _ _ _ (@b6 _ _ _ _ _ _ _ _ (@Z3 _ _ _ _ _ _ _ _ _ _ _ _ _ _ _ _ _ X0 Y4 (@vv _ _ _ _ _ 2 rfl (by first|exact Dy rfl|exact Cm (Dy rfl)|exact Cm (Cm rfl)) (by decide) (by decide)) (@bM _ _ _ _ _ _ (@UA _ _ _ 3 _ _ _ rfl (by decide))) rfl) rfl)) rfl (by first|exact .inl rfl|exact .inr rfl) (by decide) rfl (by first|exact .inl rfl|exact .inr rfl|assumption))
  refine cE ?_ ?_
  ·exact(@bC _ _ _ _ _ _ _ _ _ a.nd (@aM _ _ _ _ _ _ (@b6 _ _ _ _ _ _ _ _ (@Z3 _ _ _ _ _ _ _ _ _ _ _ _ _ _ _ _ _ X0 Y4 (@vv _ _ _ _ _ 2 rfl (by first|exact Dy rfl|exact Cm (Dy rfl)|exact Cm (Cm rfl)) (by decide) (by decide)) (@bM _ _ _ _ _ _ (@aH _ _ _ _ _ _ _ (@bK _ _ _ _ _ _ _ (@cG _ _ _ _ _ _ _ _ _ _ _ _ (@WL _ _ _ 3 _ _ rfl) (@cG _ _ _ _ _ _ _ _ _ _ _ _ (@aZ _ _ _ _ _ _ _ _ _ (@cG _ _ _ _ _ _ _ _ _ _ _ _ cD (@cG _ _ _ _ _ _ _ _ _ _ _ _ (@Z3 _ _ _ _ _ _ _ _ _ _ _ _ _ _ _ _ _ kRep DF (@WL _ _ _ 2 _ _ rfl) cD rfl) bW rfl rfl rfl) rfl rfl rfl)) bW rfl rfl rfl) rfl rfl rfl) rfl))) rfl) rfl)) rfl (by first|exact .inl rfl|exact .inr rfl) (by decide) rfl (by first|exact .inl rfl|exact .inr rfl|assumption))
  refine cE ?_ ?_
  ·exact(@bC _ _ _ _ _ _ _ _ _ a.nd (@aM _ _ _ _ _ _ (@b6 _ _ _ _ _ _ _ _ (@Z3 _ _ _ _ _ _ _ _ _ _ _ _ _ _ _ _ _ X0 Y4 (@vv _ _ _ _ _ 2 rfl (by first|exact Dy rfl|exact Cm (Dy rfl)|exact Cm (Cm rfl)) (by decide) (by decide)) (@bM _ _ _ _ _ _ (@UA _ _ _ 3 _ _ _ rfl (by decide))) rfl) rfl)) rfl (by first|exact .inl rfl|exact .inr rfl) (by decide) rfl (by first|exact .inl rfl|exact .inr rfl|assumption))
  exact b8 (bX (bI (N3 T) c (cF (vv 0) (aJ (pv 1) (cF (vv 2) b9)))))
def JZ:ZQ P w K mg base "_law_ask" 9 Qx49 [] bY 639:=
 WB P base Nx49 Qx49 8 W7 [] T T.p_x49 λc a d b=>by
  exact(b8 (iO (i:=4) (cs:=JF) rfl rfl rfl c.nd rfl rfl (by decide) (by rfl) (λ_=>T.fnm _ _) (by rfl) (by decide) ⟨_,T.fnm _ _ T.xc_NotValid.xc.at_,XQ.of T.xq_NotValid⟩
   (b8 (bX (fR (SA (K:=K) rfl T.fnm a (mE T) (by decide) (SA (K:=K) rfl T.fnm a (nG T) (by decide) (SA (K:=K) rfl T.fnm a (lT T) (by decide) (SA (K:=K) rfl T.fnm a (fF T) (by decide) (SA (K:=K) rfl T.fnm a (m9 T) (by decide) gT))))) (ZB b (bM (aH (bK (cG (bJ (by rfl) (vF T T.p_x28.ns)) (cG (bJ (by rfl) (vF T T.p_x29.ns)) (cG (bJ (by rfl) (vF T T.p_x30.ns)) (cG (bJ (by rfl) (vF T T.p_x31.ns)) (cG (bJ (by rfl) (vF T T.p_x32.ns)) bW)))))))) (vv 0)) (cF (vv 1) (cF (vv 2) (cF (vv 3) b9))))))
   (λ_ _ _ hz=>(aB (ly (qC hz rfl rfl (UU (K:=K) (kk:=7) (j:=8) (qs:=N7) rfl T.fnm a (pJ T) (by decide) (UU (K:=K) (kk:=8) (j:=8) (qs:=ZG) rfl T.fnm a (pL T) (by decide) (UU (K:=K) (kk:=8) (j:=8) (qs:=ZG) rfl T.fnm a (nQ T) (by decide) (UU (K:=K) (kk:=8) (j:=8) (qs:=ZG) rfl T.fnm a (jI T) (by decide) (UU (K:=K) (kk:=8) (j:=8) (qs:=ZG) rfl T.fnm a (ph T) (by decide) ny))))) (ZB b (bM (aH (bK (cG (bJ (by rfl) (vF T T.p_x28.ns)) (cG (bJ (by rfl) (vF T T.p_x29.ns)) (cG (bJ (by rfl) (vF T T.p_x30.ns)) (cG (bJ (by rfl) (vF T T.p_x31.ns)) (cG (bJ (by rfl) (vF T T.p_x32.ns)) bW)))))))) (vv 0)) (cF (vv 1) (cF (vv 2) (cF (vv 3) b9)))))))
   (λ_=>(b8 (bX (aZ (cG bR (cG (kl rfl (jo (vZ T T.xc_NotValid)) (vv 4)) bW))))))
   λ_=>(b8 (bX (pO (q9 T) (a.h.mark _) (cF (vv 4) b9))))))
def lm{f:Ur}{fd:Cj}(F:QP K "law" "law" (top 90) f fd):W0 P w K mg base CX0 10 f fd Qx50 (spV K [] 1 G8):=
 okWg P w K mg base Nx50 Qx50 9 Xg [] F K0 λb a d e=>by
  refine cE ?_ ?_
  ·exact(bC b.nd (SX (aH (bK bW))))
  refine cE ?_ ?_
  ·exact(@aU _ _ _ _ _ _ _ _ _ _ _ (@bD _ _ _ _ _ _ _ _ _ _ _ _ _ _ _ _ _ (OM d) O9 (@bM _ _ _ _ _ _ (aA ["_law_script","_law_town","_law_what"] [0,1] 1 (@XD _ _ _ _ _ _ _ _ _ _ _ (by rfl) T.n_range cD rfl rfl) (λc _ _ _ _=>⟨(@bO _ _ _ _ _ _ c rfl (by first|exact .inl rfl|exact .inr rfl) (by decide) (by first|exact .inl rfl|exact .inr rfl|assumption)),ZH,(@b6 _ _ _ _ _ _ _ _ (@bI _ _ _ _ _ _ _ _ _ _ _ _ _ _ _ _ _ (JZ T) a (@cF _ _ _ _ _ _ _ _ _ (@vv _ _ _ _ _ 2 rfl (by first|exact Dy rfl|exact Cm (Dy rfl)|exact Cm (Cm rfl)) (by decide) (by decide)) (@cF _ _ _ _ _ _ _ _ _ (@b6 _ _ _ _ _ _ _ _ (@bI _ _ _ _ _ _ _ _ _ _ _ _ _ _ _ _ _ (og T) a (@cF _ _ _ _ _ _ _ _ _ (@vv _ _ _ _ _ 0 rfl (by first|exact Dy rfl|exact Cm (Dy rfl)|exact Cm (Cm rfl)) (by decide) (by decide)) (@aJ _ _ _ _ _ _ _ _ (pv 1) b9 rfl) rfl) rfl (by decide) rfl (by decide) rfl rfl) rfl) (@cF _ _ _ _ _ _ _ _ _ Y9 (@cF _ _ _ _ _ _ _ _ _ Y9 b9 rfl) rfl) rfl) rfl) rfl (by decide) rfl (by decide) rfl rfl) rfl)⟩))) (@Z3 _ _ _ _ _ _ _ _ _ _ _ _ _ _ _ _ _ kRep DF (@bM _ _ _ _ _ _ (@UA _ _ _ 1 _ _ _ rfl (by decide))) cD rfl) (T2 _) rfl) (@b8 _ _ _ _ _ (@bX _ _ _ _ _ _ _ _ _ ZC rfl)) bP)
  refine cE ?_ ?_
  ·exact(bC b.nd (aM (b6 (bI (mr T) a (cF (vv 0) (aJ (pv 1) (cF cD b9)))))))
  refine cE ?_ ?_
  ·exact(@SG _ _ _ _ _ _ _ _ _ _ _ Ds rfl (@ZI _ _ _ _ _ _ _ rfl (@bM _ _ _ _ _ _ (@UA _ _ _ 1 _ _ _ rfl (by decide)))) (@bO _ _ _ _ _ _ b.nd rfl (by first|exact .inl rfl|exact .inr rfl) (by decide) (by first|exact .inl rfl|exact .inr rfl|assumption)) (@b8 _ _ _ _ _ (@aU _ _ _ _ _ _ _ _ _ _ _ (@bD _ _ _ _ _ _ _ _ _ _ _ _ _ _ _ _ _ (OM d) O9 (@bM _ _ _ _ _ _ (aA ["_law_block_here","_law_bad","_law_what"] [2,3] 1 (@XD _ _ _ _ _ _ _ _ _ _ _ (by rfl) T.n_range cD rfl rfl) (λc _ _ _ _=>⟨(@bO _ _ _ _ _ _ c rfl (by first|exact .inl rfl|exact .inr rfl) (by decide) (by first|exact .inl rfl|exact .inr rfl|assumption)),ZH,(@b6 _ _ _ _ _ _ _ _ (@bI _ _ _ _ _ _ _ _ _ _ _ _ _ _ _ _ _ (JZ T) a (@cF _ _ _ _ _ _ _ _ _ (@vv _ _ _ _ _ 2 rfl (by first|exact Dy rfl|exact Cm (Dy rfl)|exact Cm (Cm rfl)) (by decide) (by decide)) (@cF _ _ _ _ _ _ _ _ _ (@vv _ _ _ _ _ 0 rfl (by first|exact Dy rfl|exact Cm (Dy rfl)|exact Cm (Cm rfl)) (by decide) (by decide)) (@cF _ _ _ _ _ _ _ _ _ (@vv _ _ _ _ _ 1 rfl (by first|exact Dy rfl|exact Cm (Dy rfl)|exact Cm (Cm rfl)) (by decide) (by decide)) (@cF _ _ _ _ _ _ _ _ _ Y9 b9 rfl) rfl) rfl) rfl) rfl (by decide) rfl (by decide) rfl rfl) rfl)⟩))) (@Z3 _ _ _ _ _ _ _ _ _ _ _ _ _ _ _ _ _ kRep DF (@bM _ _ _ _ _ _ (@UA _ _ _ 1 _ _ _ rfl (by decide))) cD rfl) (T2 _) rfl) (@b8 _ _ _ _ _ (@bX _ _ _ _ _ _ _ _ _ ZC rfl)) bP)) (by intro _;rfl))
  refine cE ?_ ?_
  ·exact(bC b.nd (aM (b6 (XJ T.n_len (ZB e (vv 2) cD)))))
  refine cE ?_ ?_
  ·exact(@bC _ _ _ _ _ _ _ _ _ b.nd (@aM _ _ _ _ _ _ (@bM _ _ _ _ _ _ (@aH _ _ _ _ _ _ _ (@bK _ _ _ _ _ _ _ (@cG _ _ _ _ _ _ _ _ _ _ _ _ Y9 (@cG _ _ _ _ _ _ _ _ _ _ _ _ cD (@cG _ _ _ _ _ _ _ _ _ _ _ _ (@bM _ _ _ _ _ _ (@aH _ _ _ _ _ _ _ (@bK _ _ _ _ _ _ _ bW rfl))) (@cG _ _ _ _ _ _ _ _ _ _ _ _ bR (@cG _ _ _ _ _ _ _ _ _ _ _ _ (@WL _ _ _ 2 _ _ rfl) (@cG _ _ _ _ _ _ _ _ _ _ _ _ (@WL _ _ _ 2 _ _ rfl) (@cG _ _ _ _ _ _ _ _ _ _ _ _ (@WL _ _ _ 2 _ _ rfl) (@cG _ _ _ _ _ _ _ _ _ _ _ _ (@WL _ _ _ 2 _ _ rfl) (@cG _ _ _ _ _ _ _ _ _ _ _ _ (@aZ _ _ _ _ _ _ _ _ _ (@cG _ _ _ _ _ _ _ _ _ _ _ _ (@aZ _ _ _ _ _ _ _ _ _ (@cG _ _ _ _ _ _ _ _ _ _ _ _ cD (@cG _ _ _ _ _ _ _ _ _ _ _ _ (@vv _ _ _ _ _ 4 rfl (by first|exact Dy rfl|exact Cm (Dy rfl)|exact Cm (Cm rfl)) (by decide) (by decide)) bW rfl rfl rfl) rfl rfl rfl)) bW rfl rfl rfl)) (@cG _ _ _ _ _ _ _ _ _ _ _ _ (@WL _ _ _ 2 _ _ rfl) (@cG _ _ _ _ _ _ _ _ _ _ _ _ (@aZ _ _ _ _ _ _ _ _ _ (@cG _ _ _ _ _ _ _ _ _ _ _ _ cD (@cG _ _ _ _ _ _ _ _ _ _ _ _ cD bW rfl rfl rfl) rfl rfl rfl)) (@cG _ _ _ _ _ _ _ _ _ _ _ _ (@WL _ _ _ 2 _ _ rfl) bW rfl rfl rfl) rfl rfl rfl) rfl rfl rfl) rfl rfl rfl) rfl rfl rfl) rfl rfl rfl) rfl rfl rfl) rfl rfl rfl) rfl rfl rfl) rfl rfl rfl) rfl rfl rfl) rfl rfl rfl) rfl)))) rfl (by first|exact .inl rfl|exact .inr rfl) (by decide) rfl (by first|exact .inl rfl|exact .inr rfl|assumption))
  refine cE ?_ ?_
  ·exact(bC b.nd (aM (b6 (bI (N3 T) a (cF (vv 0) (aJ (pv 1) (cF (vv 5) b9)))))))
  refine cE ?_ ?_
  ·exact(aU (bD GD CU (bI (JZ T) a (cF cD (cF (vv 2) (cF cD (cF (vv 6) b9))))) ZC)
   (b8 (bX ZC))
   bP)
  refine cE ?_ ?_
  ·exact(@aU _ _ _ _ _ _ _ _ _ _ _ (@bD _ _ _ _ _ _ _ _ _ _ _ _ _ _ _ _ _ (OM d) O9 (@bM _ _ _ _ _ _ (aA ["_law_block_here","_law_plan","_law_what"] [2,6] 1 (@NR _ _ _ _ _ _ _ _ _ _ _ _ _ _ _ _ (by rfl) T.n_range cD cD rfl rfl rfl rfl) (λc _ _ _ _=>⟨(@bO _ _ _ _ _ _ c rfl (by first|exact .inl rfl|exact .inr rfl) (by decide) (by first|exact .inl rfl|exact .inr rfl|assumption)),ZH,(@b6 _ _ _ _ _ _ _ _ (@bI _ _ _ _ _ _ _ _ _ _ _ _ _ _ _ _ _ (JZ T) a (@cF _ _ _ _ _ _ _ _ _ (@vv _ _ _ _ _ 2 rfl (by first|exact Dy rfl|exact Cm (Dy rfl)|exact Cm (Cm rfl)) (by decide) (by decide)) (@cF _ _ _ _ _ _ _ _ _ (@vv _ _ _ _ _ 0 rfl (by first|exact Dy rfl|exact Cm (Dy rfl)|exact Cm (Cm rfl)) (by decide) (by decide)) (@cF _ _ _ _ _ _ _ _ _ cD (@cF _ _ _ _ _ _ _ _ _ (@vv _ _ _ _ _ 1 rfl (by first|exact Dy rfl|exact Cm (Dy rfl)|exact Cm (Cm rfl)) (by decide) (by decide)) b9 rfl) rfl) rfl) rfl) rfl (by decide) rfl (by decide) rfl rfl) rfl)⟩))) (@Z3 _ _ _ _ _ _ _ _ _ _ _ _ _ _ _ _ _ kRep DF (@bM _ _ _ _ _ _ (@UA _ _ _ 1 _ _ _ rfl (by decide))) cD rfl) (T2 _) rfl) (@b8 _ _ _ _ _ (@bX _ _ _ _ _ _ _ _ _ ZC rfl)) bP)
  refine cE ?_ ?_
  ·exact(@bC _ _ _ _ _ _ _ _ _ b.nd (@aM _ _ _ _ _ _ (@b6 _ _ _ _ _ _ _ _ (@WL _ _ _ 2 _ _ rfl) rfl)) rfl (by first|exact .inl rfl|exact .inr rfl) (by decide) rfl (by first|exact .inl rfl|exact .inr rfl|assumption))
  refine cE ?_ ?_
  ·exact(bC b.nd (aM (b6 (aZ (cG cD (cG (vv 7) bW))))))
  refine cE ?_ ?_
  ·exact(@aU _ _ _ _ _ _ _ _ _ _ _ (@SQ _ _ _ _ _ _ (@U7 _ _ _ _ _ _ _ _ _ _ _ (@bD _ _ _ _ _ _ _ _ _ _ _ _ _ _ _ _ _ GD CU (@bI _ _ _ _ _ _ _ _ _ _ _ _ _ _ _ _ _ (JZ T) a (@cF _ _ _ _ _ _ _ _ _ cD (@cF _ _ _ _ _ _ _ _ _ (@vv _ _ _ _ _ 8 rfl (by first|exact Dy rfl|exact Cm (Dy rfl)|exact Cm (Cm rfl)) (by decide) (by decide)) (@cF _ _ _ _ _ _ _ _ _ cD (@cF _ _ _ _ _ _ _ _ _ (@b6 _ _ _ _ _ _ _ _ (@WL _ _ _ 2 _ _ rfl) rfl) b9 rfl) rfl) rfl) rfl) rfl (by decide) rfl (by decide) rfl rfl) ZC (T2 _) rfl) (@XM _ _ _ _ _ _ _ (@bD _ _ _ _ _ _ _ _ _ _ _ _ _ _ _ _ _ GD CU (@bI _ _ _ _ _ _ _ _ _ _ _ _ _ _ _ _ _ (JZ T) a (@cF _ _ _ _ _ _ _ _ _ cD (@cF _ _ _ _ _ _ _ _ _ (@vv _ _ _ _ _ 8 rfl (by first|exact Dy rfl|exact Cm (Dy rfl)|exact Cm (Cm rfl)) (by decide) (by decide)) (@cF _ _ _ _ _ _ _ _ _ cD (@cF _ _ _ _ _ _ _ _ _ (@b6 _ _ _ _ _ _ _ _ (@WL _ _ _ 2 _ _ rfl) rfl) b9 rfl) rfl) rfl) rfl) rfl (by decide) rfl (by decide) rfl rfl) ZC (T2 _) rfl)))) (@b8 _ _ _ _ _ (@bX _ _ _ _ _ _ _ _ _ ZC rfl)) bP)
  exact b8 (@bX _ _ _ _ _ _ _ _ _ (@veq _ _ _ _ _ _ _ _ _ _ _ _ _ _ d (@bM _ _ _ _ _ _ (aA ["_law_knot","_law_what"] [8] 1 (@ZI _ _ _ _ _ _ _ rfl (@b6 _ _ _ _ _ _ _ _ (@aZ _ _ _ _ _ _ _ _ _ (@cG _ _ _ _ _ _ _ _ _ _ _ _ cD (@cG _ _ _ _ _ _ _ _ _ _ _ _ cD (@cG _ _ _ _ _ _ _ _ _ _ _ _ cD bW rfl rfl rfl) rfl rfl rfl) rfl rfl rfl)) rfl)) (λc _ _ _ _=>⟨(@bO _ _ _ _ _ _ c rfl (by first|exact .inl rfl|exact .inr rfl) (by decide) (by first|exact .inl rfl|exact .inr rfl|assumption)),ZH,(@b6 _ _ _ _ _ _ _ _ (@bI _ _ _ _ _ _ _ _ _ _ _ _ _ _ _ _ _ (JZ T) a (@cF _ _ _ _ _ _ _ _ _ (@vv _ _ _ _ _ 1 rfl (by first|exact Dy rfl|exact Cm (Dy rfl)|exact Cm (Cm rfl)) (by decide) (by decide)) (@cF _ _ _ _ _ _ _ _ _ (@vv _ _ _ _ _ 0 rfl (by first|exact Dy rfl|exact Cm (Dy rfl)|exact Cm (Cm rfl)) (by decide) (by decide)) (@cF _ _ _ _ _ _ _ _ _ cD (@cF _ _ _ _ _ _ _ _ _ (@b6 _ _ _ _ _ _ _ _ (@WL _ _ _ 2 _ _ rfl) rfl) b9 rfl) rfl) rfl) rfl) rfl (by decide) rfl (by decide) rfl rfl) rfl)⟩))) (@Z3 _ _ _ _ _ _ _ _ _ _ _ _ _ _ _ _ _ kRep DF (@bM _ _ _ _ _ _ (@UA _ _ _ 3 _ _ _ rfl (by decide))) cD rfl) rfl rfl) rfl)
end
end RR
namespace L2
open PySem
def ZL(a b:String):Bj a=Bj b↔a=b:=by
 refine⟨λh=>?_,λh=>by rw[h]⟩;rw[Iy,Iy]at h;injection h with h;have h2:a.toList.map Qp=b.toList.map Qp:=by simpa using h
 have f:a.toList=b.toList:=by
  have inj:∀(l m:List Char),l.map Qp=m.map Qp->l=m:=by
   intro l;induction l with
   |nil=>intro m h;cases m with
    |nil=>rfl
    |cons=>cases h
   | cons c l d => intro m h;cases m with
    |nil=>cases h
    |cons e m=>
     simp only[Bg,Kr]at h;rw[d m h.2,Char.toNat_inj.mp h.1]
  exact inj _ _ h2
 exact String.toList_inj.mp f
def o9(a:String):Ue (Bj a)=ba:=by
 unfold Ue;rw[Iy];simp only[List.all_toArray,Tz,Fc,Th,decide_eq_true_eq];intro c _;have:=c.valid
 rcases this with h|⟨_,h⟩
 ·show c.val.toNat<1114112
  have:c.val.toNat<55296:=h
  lia
 ·exact h
def NZ(k:Nat)(d:cH):Prop:=d.isD=ba/\d.pd.canLay0=ba/\d.pd.depth<=k
def X1{k:Nat}{i:Int}:NZ k (.int i):=⟨rfl,rfl,Cn _⟩
def Yq{k:Nat}{i:Bool}:NZ k (.bl i):=⟨rfl,rfl,Cn _⟩
def YN{k:Nat}{a:String}:NZ k (.str (Bj a)):=⟨rfl,by simp[cH.pd,Gj,o9],Cn _⟩
theorem GC{k:Nat}:∀{ds:List cH},(∀d∈ds,NZ k d)->DQ ds=ba/\Ji (pds ds)=ba/\Fj (pds ds)<=k
 |[],_=>⟨rfl,rfl,Cn _⟩
 |d::ds,h=>by obtain⟨g,f,j⟩:=h d At;obtain⟨c,b,i⟩:=GC λe a=>h e (Aq _ a);refine⟨by simp[DQ,g,c],by simp[pds,Ji,f,b],?_⟩;simp only[pds,Fj];lia
def OV{k:Nat}{ds:List cH}(h:∀d∈ds,NZ k d):NZ (k+1) (.tup ds):=by obtain⟨a,b,c⟩:=GC h;exact⟨by simpa[cH.isD]using a,by simpa[cH.pd,Gj]using b,by simp only[cH.pd,Jr];lia⟩
def WU{k:Nat}{ds:List cH}(h:∀d∈ds,NZ k d):NZ (k+1) (.lst ds):=by obtain⟨a,b,c⟩:=GC h;exact⟨by simpa[cH.isD]using a,by simpa[cH.pd,Gj]using b,by simp only[cH.pd,Jr];lia⟩
def NZ.ok{k:Nat}{d:cH}(h:NZ k d)(a:k<=64:=by decide):IF d=ba:=by
 unfold IF Et;simp only[h.1,h.2.1,Tq,Af,decide_eq_true_eq];have:=h.2.2
 lia
@[simp] theorem tP{a:String}:IF (.str (Bj a))=ba:=(YN (k:=0)).ok
def YD{k:Nat}:∀d∈([]:List cH),NZ k d:=λ_ h=>nomatch h
def aK{k:Nat}{d:cH}{ds:List cH}(h:NZ k d)(t:∀d∈ds,NZ k d):∀e∈d::ds,NZ k e:=λe a=>by
 rcases Al.mp a with z|z
 ·rw[z];exact h
 ·exact t e z
@[simp] theorem fQ{i j:Int}:eqD (.int i) (.int j)=decide (i=j):=by show(i==j)=_;rw[Nk]
@[simp] theorem rP{a b:String}:eqD (.str (Bj a)) (.str (Bj b))=decide (a=b):=by show(Bj a==Bj b)=_;rw[Nk];simp only[ZL]
@[simp] theorem tK{i j:Int}:V0 (.int i) (.int j)=b3 (.bl (decide (i=j))):=by unfold V0;simp
@[simp] theorem tL{i j:Int}:QE (.int i) (.int j)=b3 (.bl (!decide (i=j))):=by unfold QE;simp
@[simp] theorem ug{a b:String}:V0 (.str (Bj a)) (.str (Bj b))=b3 (.bl (decide (a=b))):=by unfold V0;simp
@[simp] theorem v7{a b:String}:QE (.str (Bj a)) (.str (Bj b))=b3 (.bl (!decide (a=b))):=by unfold QE;simp
def o8{j k:Nat}{d e:cH}(h:NZ j d)(h':NZ k e)(b:j<=64:=by decide)(a:k<=64:=by decide):V0 d e=b3 (.bl (eqD d e)):=by unfold V0;rw[h.ok b,h'.ok a];rfl
def Vx{j k:Nat}{d e:cH}(h:NZ j d)(h':NZ k e)(b:j<=64:=by decide)(a:k<=64:=by decide):QE d e=b3 (.bl (!eqD d e)):=by unfold QE;rw[h.ok b,h'.ok a];rfl
def Wg{j k:Nat}{neg:Bool}{d:cH}{ds:List cH}(h:NZ j d)(h':∀e∈ds,NZ k e)(b:j<=64:=by decide)(a:k+1<=64:=by decide):ZN neg d (.tup ds)=b3 (.bl (if neg then !HS d ds else HS d ds)):=by unfold ZN;simp[h.ok b,(OV h').ok a]
def F7{j k:Nat}{neg:Bool}{d:cH}{ds:List cH}(h:NZ j d)(h':∀e∈ds,NZ k e)(b:j<=64:=by decide)(a:k+1<=64:=by decide):ZN neg d (.lst ds)=b3 (.bl (if neg then !HS d ds else HS d ds)):=by unfold ZN;simp[h.ok b,(WU h').ok a]
@[simp] theorem so{d:cH}:HS d []=bb:=(rfl)
@[simp] theorem Wf{d e:cH}{ds:List cH}:HS d (e::ds)=(eqD e d || HS d ds):=(rfl)
@[simp] theorem Vy{neg:Bool}{a b c:String}:ZN neg (.str (Bj a)) (.tup [.str (Bj b),.str (Bj c)])=b3 (.bl (if neg then !(decide (b=a) || decide (c=a))else decide (b=a) || decide (c=a))):=by rw[Wg (j:=0) YN (aK (YN (k:=0)) (aK YN YD))];simp
@[simp] theorem Xm{neg:Bool}{a b c d e:String}:ZN neg (.str (Bj a)) (.tup [.str (Bj b),.str (Bj c),.str (Bj d),.str (Bj e)])=b3 (.bl (if neg then !(decide (b=a) || (decide (c=a) || (decide (d=a) || decide (e=a))))else decide (b=a) || (decide (c=a) || (decide (d=a) || decide (e=a))))):=by rw[Wg (j:=0) YN (aK (YN (k:=0)) (aK YN (aK YN (aK YN YD))))];simp
@[simp] theorem vd{neg:Bool}{a b c:Int}:ZN neg (.int a) (.tup [.int b,.int c])=b3 (.bl (if neg then !(decide (b=a) || decide (c=a))else decide (b=a) || decide (c=a))):=by rw[Wg (j:=0) X1 (aK (X1 (k:=0)) (aK X1 YD))];simp
def lL{k:Nat}{d:cH}(h:NZ k d):eqD d d=ba:=PySem.SeqAt.eqv_refl _ h.2.1
def YI(ns:List Int):cH:=.lst (ns.map .int)
def YQ(n:Nat):cH:=.lst (Az n (.int 0))
theorem HV:∀ns:List Int,DQ (ns.map cH.int)=ba
 |[]=>rfl
 |n::ns=>by simp[DQ,cH.isD,HV ns]
theorem D8:∀ns:List Int,pds (ns.map cH.int)=ns.map Qe
 |[]=>rfl
 |n::ns=>by simp[pds,cH.pd,D8 ns]
def pI(ns:List Int):IF (.lst (ns.map .int))=ba:=by unfold IF;simp only[cH.isD,HV,cH.pd,D8,Tq];exact EK ns
def PV(ns:List Int):V0 (.lst (ns.map .int)) (.lst [])=b3 (.bl ns.isEmpty):=by unfold V0;rw[pI,show IF (.lst [])=ba from by decide+kernel];cases ns<;>rfl
theorem HR:∀n:Nat,SV (Az n (.int 0))=ba
 |0=>rfl
 |n+1=>by simp[Ed,SV,cH.hard,HR n]
@[simp] theorem sh(n:Nat):RT (YQ n)=ba:=HR n
theorem HK:∀(ds:List cH) (a b:cH) (r:Int) (s:Sl),∃r' s',V9 (gN 3) (aL 2 (xV (f2 Vu (fV 2) (fC (.int 1000003))))) ds [.va a,.va b,.va (.int r),s]=b3 (.nx [.va a,.va b,.va (.int r'),s'])
 |[],a,b,r,s=>⟨r,s,rfl⟩
 |d::ds,a,b,r,s=>by obtain⟨r',s',h⟩:=HK ds a b (r/1000003) (.va d);exact⟨r',s',by simp[cDiv,h]⟩
def LZ{ns:List Int}{i:Int}(c:0<=i)(h1:i<ns.length):∃r∈ns,SJ (ns.map cH.int) i=b3 (.int r):=by obtain⟨x,a,e⟩:=BH (xs:=ns.map cH.int) c (by simpa using h1);obtain⟨r,b,rfl⟩:=Cv.mp a;exact⟨r,b,e⟩
def kq(ns:List Int)(k:Nat)(hl:ns.length<=63)(s:k<1000000):∃r,YY [YI ns,.int k]=b3 (.int r,[]):=by
 unfold YY;rw[bN];unfold UZ SU YI;by_cases h:(k:Int)<ns.length
 ·obtain ⟨r,_,e⟩ := LZ (ns := ns) (i := k) (by lia) h
  exact⟨r,by simp[bF,h,e]⟩
 ·cases ns with
  |nil=>
   have o:¬((k:Int)<0):=by lia
   have e:V0 (.lst []) (.lst [])=b3 (.bl ba):=PV [];exact⟨0,by simp[bF,o,e]⟩
  |cons m g=>
   generalize a:m::g=ns at*;have f:(0:Int)<ns.length:=by rw[<-a];simp
   have n:=Iv (k:Int) (show(ns.length:Int)≠0 by lia);have d:=Ez (k:Int) f;obtain⟨r,_,e⟩:=LZ (ns:=ns) n d;have l:ns.isEmpty=bb:=by rw[<-a];rfl
   have q:0<=(k:Int)/ns.length:=Int.ediv_nonneg (by lia) (by lia);have j: -4611686018427387904<=(if(60:Int)<(k:Int)/ns.length then 60 else(k:Int)/ns.length)/\(if(60:Int)<(k:Int)/ns.length then 60 else(k:Int)/ns.length)<4611686018427387904:=by split<;>lia
   obtain⟨r',s',p⟩:=HK (YR 0 (if(60:Int)<(k:Int)/ns.length then 60 else(k:Int)/ns.length).toNat) (.lst (ns.map .int)) (.int k) r .no;have c:0<ns.length:=by lia
   have b:(ns.length:Int)<1073741824:=by lia
   exact⟨r*31+k+r'*101,by simp[bF,h,PV,l,f,c,b,e,cDiv,j,p,cMul]⟩
noncomputable def cel(ns:List Int)(k:Nat):Int:=match YY [YI ns,.int k]with
 |some (.int r,_)=>r
 |_=>0
def l5(ns:List Int)(k:Nat)(hl:ns.length<=63)(a:k<1000000):YY [YI ns,.int k]=b3 (.int (cel ns k),[]):=by obtain⟨r,e⟩:=kq ns k hl a;unfold cel;rw[e]
noncomputable def E5(ns:List Int)(n:Nat)(b:Int):Int:=((cel ns (n+1)*1103515245+7919*(((n+1:Nat)):Int)+12345) % 2147483647) ^ 5 % 2147483647 % 999983 % b
def J8(ns:List Int)(n:Nat){b:Int}(h:0<b):0<=E5 ns n b:=Iv _ (by lia)
def Wa(ns:List Int)(n:Nat){b:Int}(h:0<b):E5 ns n b<b:=Ez _ h
def pM(ns:List Int)(n:Nat)(b:Int)(hl:ns.length<=63)(d:n<900000)(c:0<b):U1 [YI ns,.int ((n+1:Nat):Int),.int b]=b3 (.int (E5 ns n b),[]):=by
 have e:=l5 ns (n+1) hl (by lia);unfold U1;rw[bN];unfold RO E5;have h:=Iv (cel ns (n+1)*1103515245+7919*((n+1:Nat):Int)+12345) (show(2147483647:Int)≠0 by decide);have g:=Ez (cel ns (n+1)*1103515245+7919*((n+1:Nat):Int)+12345) (show(0:Int)<2147483647 by decide);generalize hz:(cel ns (n+1)*1103515245+7919*((n+1:Nat):Int)+12345) % 2147483647=z at*;have a:z.natAbs<18446744073709551616:=by lia
 generalize f:((n+1:Nat):Int)=k at*;simp[bF,e,cMul,cPow,hz,a,c]
def V8(ns:List Int)(n:Nat)(b:Int)(hl:ns.length<=63)(f:n<900000)(g:0<b):aF [YI ns,YQ n,.int b]=b3 (.int (E5 ns n b),[YQ (n+1)]):=by
 have e:=pM ns n b hl f g;unfold aF;rw[bN];unfold P1;have c:YQ n=.lst (Az n (.int 0)):=rfl;have a:YQ (n+1)=.lst (Az n (.int 0)++[.int 0]):=by unfold YQ;rw[List.replicate_succ']
 rw[a,c];have d:n<16777216:=by lia
 push_cast at e
 simp[bF,d,e]
def WE(ns:List Int)(n:Nat)(xs:List cH)(hl:ns.length<=63)(b:n<900000)(d:0<xs.length):∃x∈xs,Z6 [YI ns,YQ n,.lst xs]=b3 (x,[YQ (n+1)]):=by
 have a:(0:Int)<xs.length:=by lia
 obtain⟨x,c,e⟩:=BH (xs:=xs) (J8 ns n a) (Wa ns n a);refine⟨x,c,?_⟩;unfold Z6;rw[bN];unfold P5;simp[bF,V8 ns n _ hl b a,e]
def Vs(ns:List Int)(n:Nat)(b:Int)(hl:ns.length<=63)(a:n<900000)(c:0<b)(tl:Ev):bZ 3 [1] aF (aE (fV 0) (aO 1 (aE (fC (.int b)) bT))) (.va (YI ns):: .ow (YQ n)::tl)=b3 (.int (E5 ns n b),.va (YI ns):: .ow (YQ (n+1))::tl):=by simp[V8 ns n b hl a c]
abbrev Sn(m:Nat)(d:cH):Prop:=∃(ks:List Z5) (vs:List Int),d=.dct ks (vs.map .int)/\ks.length=vs.length/\ks.Nodup/\ks.length<=m
abbrev J3(n:Nat)(d:cH):Prop:=Sn (8*n) d
def J3.mono{n m:Nat}{d:cH}(h:J3 n d)(b:n<=m):J3 m d:=by obtain⟨ks,vs,h1,h2,a,c⟩:=h;exact⟨ks,vs,h1,h2,a,by lia⟩
theorem dJ:∀(ks:List Z5) (vs:List Int) (k:Z5) (q:Int),∃r,(aD ks (vs.map .int) k).getD (.int q)=.int r
 |[],_,_,q=>⟨q,by simp[aD]⟩
 |_::_,[],_,q=>⟨q,by simp[aD]⟩
 | k' :: ks,v :: vs,k,q => by
  by_cases h:k'=k
  ·exact⟨v,by simp[aD,h]⟩
  ·obtain⟨r,e⟩:=dJ ks vs k q
   exact⟨r,by simp only[Bg,aD,if_neg h];exact e⟩
theorem putI:∀(ks:List Z5) (vs:List Int) (k:Z5) (p:Int),ks.length=vs.length->ks.Nodup->∃(a:List Z5) (b:List Int),X2 ks (vs.map .int) k (.int p)=(a,b.map .int)/\a.length=b.length/\a.Nodup/\a.length<=ks.length+1/\(∀z∈a,z=k∨z∈ks)/\aD a (b.map .int) k=b3 (.int p)
 |[],[],k,p,_,_=>⟨[k],[p],by simp[X2],rfl,by simp,by simp,by simp,by simp[aD]⟩
 | k' :: ks,v :: vs,k,p,hl,c => by
  by_cases h:k'=k
  ·subst h
   exact⟨k'::ks,p::vs,by simp[X2],by simpa using hl,c,by simp,by simp,by simp[aD]⟩
  ·obtain ⟨a,b,e,h1,h2,g,d,f⟩ := putI ks vs k p (by simpa using hl) (De.mp c).2
   refine⟨k'::a,v::b,by simp only[Bg,X2,if_neg h,e],by simp[h1],?_,by simp;lia,?_,by simp only[Bg,aD,if_neg h];exact f⟩
   ·refine De.mpr ⟨λz => ?_,h2⟩
    rcases d _ z with y|y
    ·exact h y
    ·exact(De.mp c).1 y
   ·intro z hz
    rcases Al.mp hz with y|y
    ·exact .inr (by rw[y];exact At)
    ·exact(d z y).imp id (Aq _)
def EA(ns:List Int)(n:Nat)(sn:cH)(x:Uv)(c:Int)(hl:ns.length<=63)(t:n<800000)(k:J3 n sn)(i:0<c):∃p f,0<=p/\p<c/\J3 (n+2) f/\ZJ [YI ns,YQ n,sn,.str x,.int c]=b3 (.int p,[YQ (n+2),f]):=by
 obtain⟨ks,vs,rfl,h1,h2,w⟩:=k;obtain⟨a,m⟩:=dJ ks vs (.inr x) (E5 ns n c);obtain⟨y,j,s⟩:=WE ns (n+1) [.int 1,.int 1,.int 1,.int 0,.int 3] hl (by lia) (by simp);obtain⟨b,rfl⟩:∃b,y=.int b:=by simp only[Al,Bi,or_false]at j;rcases j with h|h|h|h|h<;>exact⟨_,h⟩
 obtain⟨g,d,e,r,q,v,u,o⟩:=putI ks vs (.inr x) ((a+b) % c) h1 h2;refine⟨(a+b) % c,.dct g (d.map .int),Iv _ (by lia),Ez _ i,⟨g,d,rfl,r,q,by lia⟩,?_⟩;have l:ks.length<16777216:=by lia
 unfold ZJ;rw[bN];unfold RP;simp[bF,V8 ns n c hl (by lia) i,m,s,i,l,h2,e,o]
inductive ZR(M:Int->Prop):cH->Prop
 |number {n:Int}:0<=n->n<=999->ZR M (.tup [.str "number",.int n])
 |two {x:String}{a b:Int}:x∈["over","plus","minus","times","least","most","less"]->M a->M b->ZR M (.tup [.str x,.int a,.int b])
 |pick {c a b:Int}:M c->M a->M b->ZR M (.tup [.str "pick",.int c,.int a,.int b])
 |load {p:Int}:0<=p->p<=63->ZR M (.tup [.str "load",.int p])
 |take {p c a:Int}:0<=p->p<=63->M c->M a->ZR M (.tup [.str "take",.int p,.int c,.int a])
 |store {p a:Int}:0<=p->p<=63->M a->ZR M (.tup [.str "store",.int p,.int a])
 |put {p a c:Int}:0<=p->p<=63->M a->M c->ZR M (.tup [.str "put",.int p,.int a,.int c])
def oR(ns:List Int)(n:Nat)(made:List Int)(hl:ns.length<=63)(l:n<800000)(o:0<made.length)(s:Sl):∃a b c,a∈made/\b∈made/\c∈made∧Y0 3 1 (gN 3) X7 (f2 bG (fV 2) (f2 oMax (fC (.int 0)) (f2 JS (f2 JS (f1 YW (fV 2)) (fC (.int 1))) (bZ 3 [1] aF (aE (fV 0) (aO 1 (aE (fC (.int 6)) bT))))))) [.int 0,.int 1,.int 2] [] [.va (YI ns),.ow (YQ n),.va (.lst (made.map .int))]=b3 ([.int a,.int b,.int c],[.va (YI ns),.ow (YQ (n+3)),.va (.lst (made.map .int))]):=by
 have one:∀m,∃a∈made,SJ (made.map cH.int) (if(made.length:Int)-1-E5 ns m 6>0 then(made.length:Int)-1-E5 ns m 6 else 0)=b3 (.int a):=λm=>by
  have:=J8 ns m (b:=6) (by decide)
  exact LZ (by split<;>lia) (by split<;>lia)
 obtain⟨a,h,f⟩:=one n;obtain⟨b,g,e⟩:=one (n+1);obtain⟨c,hc,d⟩:=one (n+2);refine⟨a,b,c,h,g,hc,?_⟩;have k:=V8 ns n 6 hl (by lia) (by decide);have j:=V8 ns (n+1) 6 hl (by lia) (by decide);have i:=V8 ns (n+2) 6 hl (by lia) (by decide);simp only[gt_iff_lt,Int.sub_pos]at f e d;simp[k,j,i,f,e,d]
def onC(x:String):Prop:=x= "load" ∨x= "take" ∨x= "store" ∨x= "put"
def PlOK(b:Int)(a:cH):Prop:=∀(x:String) (p:Int) (t:List cH),a=.tup (.str x:: .int p::t)->onC x->p<b
def OX{a p:Int}{x:String}{t:List cH}(h:p<a):PlOK a (.tup (.str x:: .int p::t)):=λy q u e _=>by simp only[cH.tup.injEq,Kr,cH.int.injEq]at e;lia
def CG{b:Int}{x:String}{t:List cH}(h:¬onC x):PlOK b (.tup (.str x::t)):=λy q u e a=>by simp only[cH.tup.injEq,Kr,cH.str.injEq,ZL]at e;rw[<-e.1]at a;exact absurd a h
def A2{x:String}(a:x∈["over","plus","minus","times","least","most","less"]):¬onC x:=λh=>by simp only[Al,Bi,or_false]at a;rcases a with rfl|rfl|rfl|rfl|rfl|rfl|rfl<;>rcases h with h|h|h|h<;>exact absurd h (by decide)
def CV{s1 s2:VS}{δ δ1:Ev}(h:s1 δ=b3 (.nx δ1)):bV s1 s2 δ=s2 δ1:=by rw[X3,h,OZ]
def qD(ns:List Int)(n:Nat)(made:List Int)(sn:cH)(g:Int)(hl:ns.length<=63)(V:n<700000)(k:J3 n sn)(G:0<g)(M:g<=64):∃j t d,n<=t/\t<=n+10/\J3 t d/\ZR (· ∈made) j/\PlOK g j/\QV [YI ns,YQ n,.lst (made.map .int),sn,.int g]=b3 (j,[YQ t,d]):=by
  have r:=Vs ns n 13 hl (by lia) (by decide);have k0:=J8 ns n (b:=13) (by decide);have k1:=Wa ns n (b:=13) (by decide);generalize E5 ns n 13=e at*;unfold QV;rw[bN];unfold NE;by_cases I:made.isEmpty=ba∨e=0
  · have v := Vs ns (n + 1) 2 hl (by lia) (by decide)
    have l:made.isEmpty=ba∨(made.isEmpty=bb/\e=0):=by
      cases B:made.isEmpty with
      |true=>exact .inl rfl
      | false => rcases I with h | h
                 · rw[B]at h;cases h
                 · exact .inr ⟨rfl,h⟩
    by_cases h2:E5 ns (n+1) 2=0
    · have J := Vs ns (n + 2) 1000 hl (by lia) (by decide)
      obtain⟨y,u,q⟩:=WE ns (n+3) [.int 0,.int 1,.int 2,.int 5,.int 999,.int (E5 ns (n+2) 1000)] hl (by lia) (by simp);obtain⟨b,rfl,E,D⟩:∃b,y=.int b/\0<=b/\b<=999:=by
        have:=J8 ns (n+2) (b:=1000) (by decide)
        have:=Wa ns (n+2) (b:=1000) (by decide)
        simp only[Al,Bi,or_false]at u;rcases u with h|h|h|h|h|h<;>exact⟨_,h,by lia,by lia⟩
      refine⟨.tup [.str "number",.int b],n+4,sn,by lia,by lia,k.mono (by lia),.number E D,CG (by unfold onC;decide),?_⟩;rcases l with h|⟨h,h'⟩
      · simp[bF,↓r,PV,h,↓v,h2,↓J,q]
      · simp[bF,↓r,PV,h,h',↓v,h2,↓J,q]
    · obtain ⟨p,d,i,p1,f,ep⟩ := EA ns (n + 2) sn "load" g hl (by lia) (k.mono (by lia)) G
      refine⟨.tup [.str "load",.int p],n+4,d,by lia,by lia,f,.load i (by lia),OX p1,?_⟩;rcases l with h|⟨h,h'⟩
      · simp[bF,↓r,PV,h,↓v,h2,ep]
      · simp[bF,↓r,PV,h,h',↓v,h2,ep]
  · obtain⟨B,C⟩:=not_or.mp I
    have m:made.isEmpty=bb:=by simpa using B
    have Q:0<made.length:=by
      cases made with
      |nil=>cases m
      |cons=>simp
    obtain⟨a,b,c,o,H,hc,O⟩:=oR ns (n+1) made hl (by lia) Q .no;rw[show bF [1,3] 9 [YI ns,YQ n,.lst (made.map .int),sn,.int g]=[.va (YI ns),.ow (YQ n),.va (.lst (made.map .int)),.ow sn,.va (.int g),.no,.no,.no,.no] from rfl,CV (δ1:=[.va (YI ns),.ow (YQ (n+1)),.va (.lst (made.map .int)),.ow sn,.va (.int g),.va (.int e),.no,.no,.no]) (by simp[↓r]),CV (δ1:=[.va (YI ns),.ow (YQ (n+1)),.va (.lst (made.map .int)),.ow sn,.va (.int g),.va (.int e),.no,.no,.no]) (by simp[PV,m,C]),CV (δ1:=[.va (YI ns),.ow (YQ (n+4)),.va (.lst (made.map .int)),.ow sn,.va (.int g),.va (.int e),.va (.int a),.va (.int b),.va (.int c)]) (by simp[aI,O])]
    have N:(e=1∨e=2)∨e=3∨(e=4∨e=5)∨e=6∨e=7∨(8<=e/\e<=12):=by lia
    have pl:∀x:Uv,∃p d,0<=p/\p<=63/\p<g/\J3 (n+6) d/\∀s tl,bZ 5 [1,2] ZJ (aE (fV 0) (aO 1 (aO 3 (aE (fC (.str x)) (aE (fV 4) bT))))) (.va (YI ns):: .ow (YQ (n+4))::s:: .ow sn:: .va (.int g)::tl)=b3 (.int p,.va (YI ns):: .ow (YQ (n+6))::s:: .ow d:: .va (.int g)::tl):=λx=>by obtain⟨p,d,i,p1,f,ep⟩:=EA ns (n+4) sn x g hl (by lia) (k.mono (by lia)) G;exact⟨p,d,i,by lia,p1,f,λs tl=>by simp[ep]⟩
    rcases N with h|h|h|h|h|h
    · have z : (decide (1 = e) || decide (2 = e)) = ba := by rcases h with rfl | rfl <;> decide
      obtain⟨p,d,i,p1,p2,f,ep⟩:=pl "load";exact⟨.tup [.str "load",.int p],n+6,d,by lia,by lia,f,.load i p1,OX p2,by simp[↓ep,z]⟩
    · subst h
      obtain⟨p,d,i,p1,p2,f,ep⟩:=pl "take";exact⟨.tup [.str "take",.int p,.int c,.int a],n+6,d,by lia,by lia,f,.take i p1 hc o,OX p2,by simp[↓ep]⟩
    · have w : (decide (4 = e) || decide (5 = e)) = ba := by rcases h with rfl | rfl <;> decide
      have A:¬e=3:=by lia
      have m1:¬1=e:=by lia
      have m2:¬2=e:=by lia
      obtain⟨p,d,i,p1,p2,f,ep⟩:=pl "store";exact⟨.tup [.str "store",.int p,.int a],n+6,d,by lia,by lia,f,.store i p1 o,OX p2,by simp[↓ep,A,m1,m2,w]⟩
    · subst h
      obtain⟨p,d,i,p1,p2,f,ep⟩:=pl "put";exact⟨.tup [.str "put",.int p,.int a,.int c],n+6,d,by lia,by lia,f,.put i p1 o hc,OX p2,by simp[↓ep]⟩
    · subst h
      exact⟨.tup [.str "pick",.int c,.int a,.int b],n+4,sn,by lia,by lia,k.mono (by lia),.pick hc o H,CG (by unfold onC;decide),by simp⟩
    · have P := Vs ns (n + 4) 7 hl (by lia) (by decide)
      have q0:=J8 ns (n+4) (b:=7) (by decide);have q1:=Wa ns (n+4) (b:=7) (by decide);obtain⟨y,u,q⟩:=BH (xs:=["over","plus","minus","times","least","most","less"].map λs:String=>cH.str (Bj s)) q0 (by simpa using q1);obtain⟨x,F,rfl⟩:=Cv.mp u;simp only[Bg,Ef]at q;have U:¬e=1:=by lia
      have T:¬e=2:=by lia
      have A:¬e=3:=by lia
      have S:¬e=4:=by lia
      have R:¬e=5:=by lia
      have L:¬e=6:=by lia
      have K:¬e=7:=by lia
      have m1:¬1=e:=by lia
      have m2:¬2=e:=by lia
      have m4:¬4=e:=by lia
      have m5:¬5=e:=by lia
      exact⟨.tup [.str x,.int a,.int b],n+5,sn,by lia,by lia,k.mono (by lia),.two F o H,CG (A2 F),by simp[A,L,K,m1,m2,m4,m5,↓P,q]⟩
inductive Kd where
 |w|p|n
 deriving DecidableEq
def Nm(kds:List Kd)(k:Kd)(a:Int):Prop:=0<=a/\kds[a.toNat]?=b3 k
def Nm.lt{kds:List Kd}{k:Kd}{a:Int}(h:Nm kds k a):a<kds.length:=by
 have:=(Ah.mp h.2).1
 have:=h.1
 lia
def Nm.snoc{kds:List Kd}{k j:Kd}{a:Int}(h:Nm kds k a):Nm (kds++[j]) k a:=⟨h.1,by rw[Ar (Ah.mp h.2).1];exact h.2⟩
def Nm.new{kds:List Kd}{k:Kd}:Nm (kds++[k]) k kds.length:=⟨by lia,by simp⟩
noncomputable def L6(k:Kd):cH->Kd
 |.tup (.str x::_)=>if x= "store" ∨x= "put" then .n else k
 |_=>.n
def ZR.imp{M M':Int->Prop}{e:cH}(h:ZR M e)(f:∀a,M a->M' a):ZR M' e:=by
 cases h with
 |number a b=>exact .number a b
 |two a b c=>exact .two a (f _ b) (f _ c)
 |pick a b c=>exact .pick (f _ a) (f _ b) (f _ c)
 |load a b=>exact .load a b
 |take a b c d=>exact .take a b (f _ c) (f _ d)
 |store a b c=>exact .store a b (f _ c)
 |put a b c d=>exact .put a b (f _ c) (f _ d)
def ZR.hard{M:Int->Prop}{a:cH}(h:ZR M a):a.hard=ba:=by
 cases h<;>simp[cH.hard,SV]
@[simp] theorem sk{i:Int}:GB (.int i)=b3 (.int (-i)):=(rfl)
def Q0{ds:List cH}{k:Nat}(h:k<=ds.length):UG ds (b3 (k:Int)) b4=ds.drop k:=by unfold UG;rw[HT.AO,HT.EG,Iu h,Ce (by simp)]
def OH{ds:List cH}{k:Nat}:UG ds b4 (b3 (k:Int))=ds.take k:=by
 unfold UG;rw[HT.AO,HT.EG];simp only[Nz,Nat.sub_zero];by_cases h:k<=ds.length
 ·rw[Iu h]
 ·rw[Nat.min_eq_right (by lia),Ce (by lia),Ce (by lia)]
@[simp] theorem uR{d:cH}{ds:List cH}:UG (d::ds) (b3 1) b4=ds:=Q0 (k:=1) (by simp)
@[simp] theorem vH{d e:cH}{ds:List cH}:UG (d::e::ds) (b3 2) b4=ds:=Q0 (k:=2) (by simp)
@[simp] theorem w5{ds:List cH}:UG ds b4 (b3 2)=ds.take 2:=OH (k:=2)
@[simp] theorem uB{ds:List cH}:UG ds b4 (b3 1)=ds.take 1:=OH (k:=1)
@[simp] theorem vT{α:Type}{xs:List α}{x:α}:SJ (xs++[x]) (-1)=b3 x:=by
 unfold SJ ixN;rw[if_neg (by decide),if_pos (by simp;lia)];have e:(-1+((xs++[x]).length:Int)).toNat=xs.length:=by simp;lia
 show(xs++[x])[(-1+((xs++[x]).length:Int)).toNat]?=b3 x;rw[e];simp
@[simp] theorem uz{α:Type}{x:α}{xs:List α}:SJ (x::xs) 0=b3 x:=by rw[TK (by decide) (by simp)];rfl
@[simp] theorem tJ{α:Type}{x y:α}{xs:List α}:SJ (x::y::xs) 1=b3 y:=by rw[TK (by decide) (by simp;lia)];rfl
@[simp] theorem u9{α:Type}{x y z:α}{xs:List α}:SJ (x::y::z::xs) 2=b3 z:=by rw[TK (by decide) (by simp;lia)];rfl
@[simp] theorem vw{α:Type}{x y z u:α}{xs:List α}:SJ (x::y::z::u::xs) 3=b3 u:=by rw[TK (by decide) (by simp;lia)];rfl
def eY{k:Kd}{x:String}{t:List cH}(a:x∉["store","put"]):L6 k (.tup (.str x::t))=k:=by simp only[Al,Bi,or_false,not_or]at a;simp[L6,ZL,a]
def me{k:Kd}{x:String}{t:List cH}(a:x= "store" ∨x= "put"):L6 k (.tup (.str x::t))=.n:=by
 rcases a with rfl|rfl<;>simp[L6,ZL]
def R0{M:Int->Prop}{a:cH}(h:ZR M a):∃(x:String) (t:List cH),a=.tup (.str x::t)/\x∉["wide","gather","shuffle"]:=by
 cases h with
 |two b _ _=>
  simp only[Al,Bi,or_false]at b;rcases b with rfl|rfl|rfl|rfl|rfl|rfl|rfl<;>exact⟨_,_,rfl,by decide⟩
 |_=>exact⟨_,_,rfl,by decide⟩
@[simp] theorem PL(n lo hi:Int):aR [.int n,.int lo,.int hi]=b3 (.bl (decide (lo<=n)&&decide (n<=hi)),[]):=by unfold aR;rw[bN];unfold P0;simp[bF];by_cases h:lo<=n<;>simp[h]
def iG{x:String}(h:x∈["over","plus","minus","times","least","most","less"]):ZF [.str x]=b3 (.tup [.str "row",.str "row"],[]):=by simp only[Al,Bi,or_false]at h;rcases h with rfl|rfl|rfl|rfl|rfl|rfl|rfl<;>kernel_rfl
@[simp] theorem wc:ZF [.str "number"]=b3 (.tup [.str "word"],[]):=by kernel_rfl
@[simp] theorem sL:ZF [.str "pick"]=b3 (.tup [.str "row",.str "row",.str "row"],[]):=by kernel_rfl
@[simp] theorem vO:ZF [.str "load"]=b3 (.tup [.str "place"],[]):=by kernel_rfl
@[simp] theorem sY:ZF [.str "take"]=b3 (.tup [.str "place",.str "row",.str "row"],[]):=by kernel_rfl
@[simp] theorem sy:ZF [.str "store"]=b3 (.tup [.str "place",.str "row"],[]):=by kernel_rfl
@[simp] theorem w6:ZF [.str "put"]=b3 (.tup [.str "place",.str "row",.str "row"],[]):=by kernel_rfl
def Ab(b:List Bool)(a:Int):Prop:=0<=a/\b[a.toNat]?=b3 ba
def mz{b:List Bool}{a:Int}(h:Ab b a):S9 [.int a,.lst (b.map .bl)]=b3 (.bl ba,[]):=by
 have d:=(Ah.mp h.2).1;have c:=h.1;have h1:a<=(b.length:Int)-1:=by lia
 have h2:SJ (b.map cH.bl) a=b3 (.bl ba):=by rw[TK c (by simp;lia)];simp[h.2]
 unfold S9;rw[bN];unfold P7;simp[bF,c,h1,h2]
def YF{b:List Bool}{a:Int}(h:Ab b a):RE [.str "row",.int a,.lst (b.map .bl)]=b3 (.bl ba,[]):=by unfold RE;rw[bN];unfold KH;simp[bF,mz h]
def mC{d:cH}{a:Int}(h:0<=a)(h':a<=999):RE [.str "word",.int a,d]=b3 (.bl ba,[]):=by unfold RE;rw[bN];unfold KH;simp[bF,MO,h,h']
def TR{d:cH}{a:Int}(h:0<=a)(h':a<=63):RE [.str "place",.int a,d]=b3 (.bl ba,[]):=by unfold RE;rw[bN];unfold KH;simp[bF,OD,h,h']
@[simp] theorem sQ:JM []=b3 []:=(rfl)
@[simp] theorem ua{b:Bool}{ds:List cH}:JM (.bl b::ds)=(JM ds).map λks=>b::ks:=(rfl)
@[simp] theorem ui{g:List Bool->Bool}{ds:List cH}:Wc g (.lst ds)=(JM ds).map λks=>.bl (g ks):=(rfl)
@[simp] theorem sA{ds:List cH}:QU ds []=[]:=by cases ds<;>rfl
@[simp] theorem ut{d e:cH}{ds es:List cH}:QU (d::ds) (e::es)=.tup [d,e]::QU ds es:=(rfl)
def gE{e:List Bool}{f:cH}(h:ZR (Ab e) f):N4 [f,.lst (e.map .bl)]=b3 (.bl ba,[]):=by
 unfold N4;rw[bN];unfold KJ;cases h with
 |number a b=>simp[bF,aI,mC a b]
 |two g a b=>simp[bF,aI,iG g,YF a,YF b]
 |pick a b c=>simp[bF,aI,YF a,YF b,YF c]
 |load a b=>simp[bF,aI,TR a b]
 |take a b c d=>simp[bF,aI,TR a b,YF c,YF d]
 |store a b c=>simp[bF,aI,TR a b,YF c]
 |put a b c d=>simp[bF,aI,TR a b,YF c,YF d]
theorem J7(a:Nat)(fe:VF)(δ:Ev)(f:cH->cH)(b:δ.length=a):∀(ds acc:List cH),(∀d∈ds,fe (δ++[Sl.va d])=b3 (f d,δ++[Sl.va d]))->acc.length+ds.length<16777216->Y0 a 1 (gN a) X7 fe ds acc δ=b3 (acc++ds.map f,δ)
 |[],acc,_,_=>by simp
 |d::ds,acc,h,hl=>by
  have i:(δ++[Sl.no]).set a (.va d)=δ++[Sl.va d]:=by rw[Gv _ _ (by lia)];simp[b]
  have j:(δ++[Sl.va d]).take a=δ:=by rw[Ea (by lia),Ce (by lia)]
  have k:acc.length<16777216:=by simp at hl;lia
  have c:=J7 a fe δ f b ds (acc++[f d]) (λe g=>h e (Aq _ g)) (by simp at hl⊢;lia);simp only[OF,Wr,gN_e,i,EB,mZ,Xd,h d At,Wi,if_pos k,j,c];simp
def kS(k:Nat):(YR 0 k).length=k:=by simp[YR]
theorem DY:∀(ks:List Z5) (a:List cH) (i:Nat) (k:Z5),ks.Nodup->ks.length=a.length->ks[i]?=b3 k->aD ks a k=a[i]?
 |[],_,i,k,_,_,e=>by simp at e
 |k'::ks,[],i,k,_,hl,_=>by simp at hl
 |k'::ks,w::a,0,k,_,_,e=>by simp at e;simp[aD,e]
 |k'::ks,w::a,i+1,k,c,hl,e=>by
  have d:ks[i]?=b3 k:=by simpa using e
  have b:¬k'=k:=λz=>(De.mp c).1 (by rw[z];exact Cw d);have:=DY ks a i k (De.mp c).2 (by simpa using hl) d
  simp[aD,b,this]
noncomputable def cnt:cH->Nat
 |.tup (.str x::_)=>if x= "number" ∨x= "load" then 0 else if x= "store" then 1 else if x= "pick" then 3 else 2
 |_=>0
def dne{x:String}(b:x∈["over","plus","minus","times","least","most","less"]){y:String}(a:(["over","plus","minus","times","least","most","less"].contains y)=bb):(¬x=y)/\¬y=x:=by
 have h:¬x=y:=λe=>by subst e;rw[List.contains_iff_mem.mpr b]at a;cases a
 exact⟨h,λe=>h e.symm⟩
def B0{M:Int->Prop}{d:cH}(h:ZR M d):∃as:List Int,(∀a∈as,M a)/\as.length=cnt d/\Y6 [d]=b3 (.lst (as.map .int),[])/\TD [d]=b3 (.lst (as.map .int),[]):=by
 cases h with
 | @number n _ _=>
  refine⟨[],(λ_ h=>nomatch h),by kernel_rfl,?_,?_⟩
  ·kernel_rfl
  ·kernel_rfl
 | @two x a b f e g=>
  refine⟨[a,b],by simp[e,g],?_,?_,?_⟩
  ·simp only[Al,Bi,or_false]at f
   rcases f with rfl|rfl|rfl|rfl|rfl|rfl|rfl<;>kernel_rfl
  ·simp only[Al,Bi,or_false]at f
   rcases f with rfl|rfl|rfl|rfl|rfl|rfl|rfl<;>kernel_rfl
  ·simp only[Al,Bi,or_false]at f
   rcases f with rfl|rfl|rfl|rfl|rfl|rfl|rfl<;>kernel_rfl
 | @pick c a b hc e g=>
  refine⟨[c,a,b],by simp[hc,e,g],by kernel_rfl,?_,?_⟩
  ·kernel_rfl
  ·kernel_rfl
 | @load p _ _=>
  refine⟨[],(λ_ h=>nomatch h),by kernel_rfl,?_,?_⟩
  ·kernel_rfl
  ·kernel_rfl
 | @take p c a _ _ hc e=>
  refine⟨[c,a],by simp[hc,e],by kernel_rfl,?_,?_⟩
  ·kernel_rfl
  ·kernel_rfl
 | @store p a _ _ e=>
  refine⟨[a],by simp[e],by kernel_rfl,?_,?_⟩
  ·kernel_rfl
  ·kernel_rfl
 | @put p a c _ _ e hc=>
  refine⟨[a,c],by simp[e,hc],by kernel_rfl,?_,?_⟩
  ·kernel_rfl
  ·kernel_rfl
inductive Bl:List Kd->List cH->List Kd->Prop
 |nil {kds:List Kd}:Bl kds [] kds
 |cons {kds ai:List Kd}{row:cH}{rows:List cH}:ZR (Nm kds .w) row->Bl (kds++[L6 .w row]) rows ai->Bl kds (row::rows) ai
def Bl.snoc{kds c:List Kd}{rows:List cH}{b:cH}(h:Bl kds rows c)(r:ZR (Nm c .w) b):Bl kds (rows++[b]) (c++[L6 .w b]):=by
 induction h with
 |nil=>exact .cons r .nil
 |cons a _ d=>exact .cons a (d r)
def Bl.len{kds a:List Kd}{rows:List cH}(h:Bl kds rows a):a.length=kds.length+rows.length:=by
 induction h with
 |nil=>simp
 |cons _ _ b=>simp only[b,Cc,Cg,Mw];lia
def Bl.all{kds e:List Kd}{rows:List cH}(h:Bl kds rows e):∀d∈rows,ZR (Nm e .w) d:=by
 induction h with
 |nil=>intro d b;cases b
 | @cons kds e g rows a t c=>
  intro d b;rcases Al.mp b with rfl|b
  ·refine a.imp λx i => ?_
   have:∀{k k':List Kd}{f:List cH},Bl k f k'->Nm k .w x->Nm k' .w x:=by
    intro k k' f h;induction h with
    |nil=>exact id
    |cons _ _ c=>exact λz=>c z.snoc
   exact this t i.snoc
  ·exact c d b
theorem NF:∀ns:List Int,WS (ns.map .int)=b3 ns
 |[]=>rfl
 |i::ns=>by show(WS (ns.map .int)).map (λns=>i::ns)=_;rw[NF ns];rfl
theorem AA{n:Int}:∀{ns:List Int},n∈ns->∃j:Nat,T4 n ns=b3 j/\j<ns.length
 | i :: ns,h => by
  unfold T4;by_cases e:i=n
  ·rw[if_pos e];exact⟨0,rfl,by simp⟩
  ·rw[if_neg e]
   obtain⟨j,h1,h2⟩:=AA (ns:=ns) (by
    rcases Al.mp h with z|z
    ·exact absurd z.symm e
    ·exact z)
   exact⟨j+1,by rw[h1];rfl,by simp;lia⟩
noncomputable def nst(ns:List Int)(n:Nat)(rows:List cH)(made:List Int)(sn:cH)(c:Int)(last:cH)(fi:Int)(bs:List Int)(b a:Sl):Ev:=
 [.va (YI ns),.ow (YQ n),.va (.lst rows),.va (.lst (made.map .int)),.ow sn,.va (.int c),.va last,.va (.int fi),.ow (.lst (bs.map .int)),b,a]
def jC(ns:List Int)(n:Nat)(rows:List cH)(made:List Int)(sn:cH)(h:Int)(last:cH)(fi:Int)(bs:List Int)(a:Int)(d:Sl)(hl:ns.length<=63)(r:n<700000)(e:a∈made)(s:bs.length<100):∃b∈made,∃o,YL (nst ns n rows made sn h last fi bs (.va (.int a)) d)=b3 (.nx (nst ns (n+1) rows made sn h last fi (bs++[b]) (.va (.int a)) o)):=by
 obtain⟨j,l,k⟩:=AA e;obtain⟨x,g,ex⟩:=WE ns n [.int 1,.int 1,.int 1,.int 1,.int (-1),.int 0,.int 2] hl (by lia) (by simp);obtain⟨p,rfl⟩:∃p,x=.int p:=by simp only[Al,Bi,or_false]at g;rcases g with rfl|rfl|rfl|rfl|rfl|rfl|rfl<;>exact⟨_,rfl⟩
 have hi:B9 (.lst (made.map .int)) (.int a)=b3 (.int j):=by show(WS (made.map .int)).bind (λns=>(T4 a ns).map λj=>cH.int j)=_;rw[NF,Ap,l];rfl
 have c:bs.length<16777216:=by lia
 by_cases h1:0<=(j:Int)+p/\(j:Int)+p<made.length
 ·obtain⟨q,i,eq⟩:=LZ (ns:=made) h1.1 h1.2
  by_cases h2:q=(rows.length:Int)-1
  ·refine⟨a,e,.va (.int (j+p)),?_⟩
   unfold YL;simp[nst,hi,ex,h1.1,h1.2,eq,h2,c]
  ·refine⟨q,i,.va (.int (j+p)),?_⟩
   unfold YL;simp[nst,hi,ex,h1.1,h1.2,eq,h2,c]
 ·refine⟨a,e,.va (.int (j+p)),?_⟩
  unfold YL;by_cases f:0<=(j:Int)+p
  ·have m : ¬ (j : Int) + p < made.length := λz => h1 ⟨f,z⟩
   simp[nst,hi,ex,f,m,c]
  ·simp[nst,hi,ex,f,c]
theorem B5(ns:List Int)(rows:List cH)(made:List Int)(sn:cH)(g:Int)(last:cH)(fi:Int)(hl:ns.length<=63):∀(as:List Int) (n:Nat) (bs:List Int) (h d:Sl),n+as.length<700000->(∀a∈as,a∈made)->bs.length+as.length<100->∃cs:List Int,(∀c∈cs,c∈made)/\cs.length=as.length/\∃f k,V9 (gN 9) YL (as.map .int) (nst ns n rows made sn g last fi bs h d)=b3 (.nx (nst ns (n+as.length) rows made sn g last fi (bs++cs) f k))
 |[],n,bs,h,d,_,_,_=>⟨[],by simp,rfl,h,d,by simp⟩
 | a :: as,n,bs,h,d,p,l,q => by
  simp only[Cg]at p q;obtain⟨b,j,i,e⟩:=jC ns n rows made sn g last fi bs a d hl (by lia) (l a At) (by lia);obtain⟨cs,h1,h2,f,k,m⟩:=B5 ns rows made sn g last fi hl as (n+1) (bs++[b]) (.va (.int a)) i (by lia) (λx o=>l x (Aq _ o)) (by simp;lia);refine⟨b::cs,λc hc=>?_,by simp[h2],f,k,?_⟩
  ·rcases Al.mp hc with rfl|hc
   ·exact j
   ·exact h1 c hc
  rw[Bg,NB,gN_e,IL,show(nst ns n rows made sn g last fi bs h d).set 9 (.va (.int a))=nst ns n rows made sn g last fi bs (.va (.int a)) d from rfl,e,IM,m];simp[Nat.add_assoc,Qu 1]
def cel4{x:String}(h:onC x):(decide ("load"=x) || (decide ("take"=x) || (decide ("store"=x) || decide ("put"=x))))=ba:=by
 rcases h with rfl|rfl|rfl|rfl<;>decide
def snM{m k:Nat}{d:cH}(h:Sn m d)(a:m<=k):Sn k d:=by obtain⟨ks,vs,e,h1,h2,b⟩:=h;exact⟨ks,vs,e,h1,h2,by lia⟩
def L7(ns:List Int)(n:Nat)(rows:List cH)(made:List Int)(sn:cH)(b:Int){x:String}{p:Int}{as:List Int}{m:Nat}(hl:ns.length<=63)(B:n<600000)(C:m<8000000)(r:Sn m sn)(j:0<b)(o:onC x)(z:SJ rows (-1)=b3 (.tup (.str x:: .int p::as.map .int)))(t:∀a∈as,a∈made)(F:as.length<=3):∃(q:Int) (cs:List Int) (f:cH),0<=q/\q<b/\(∀c∈cs,c∈made)/\cs.length=as.length/\Sn (m+1) f/\YA [YI ns,YQ n,.lst rows,.lst (made.map .int),sn,.int b]=b3 (.tup (.str x:: .int q::cs.map .int),[YQ (n+as.length),f]):=by
 obtain⟨cs,h1,h2,A,l,e⟩:=B5 ns rows made sn b (.tup (.str x:: .int p::as.map .int)) 2 hl as n [] .no .no (by lia) t (by simp;lia);simp only[nst,Fk,Ef]at e;obtain⟨ks,vs,rfl,k1,k2,k3⟩:=r;obtain⟨g,d,pe,w,v,E,D,u⟩:=putI ks vs (.inr (x:Uv)) ((p+1) % b) k1 k2;have s:ks.length<16777216:=by lia
 refine⟨(p+1) % b,cs,.dct g (d.map .int),Iv _ (by lia),Ez _ j,h1,h2,⟨g,d,rfl,w,v,by lia⟩,?_⟩;unfold YA;rw[bN,TW.eq_1];have h:=cel4 o;have y:UG (.str x:: .int p::as.map cH.int) (b3 2) b4=as.map cH.int:=by
  have:=Q0 (ds:=.str x:: .int p::as.map cH.int) (k:=2) (by simp)
  simpa using this
 have i:2+cs.length<=16777216:=by lia
 simp[bF,z,h,y,e,j,s,k2,pe,u,i]
def off4{x:String}(h:¬onC x):(¬x= "load" /\¬ "load"=x)/\(¬x= "take" /\¬ "take"=x)/\(¬x= "store" /\¬ "store"=x)/\¬x= "put" /\¬ "put"=x:=by refine⟨⟨λz=>h (.inl z),λz=>h (.inl z.symm)⟩,⟨λz=>h (.inr (.inl z)),λz=>h (.inr (.inl z.symm))⟩,⟨λz=>h (.inr (.inr (.inl z))),λz=>h (.inr (.inr (.inl z.symm)))⟩,λz=>h (.inr (.inr (.inr z))),λz=>h (.inr (.inr (.inr z.symm)))⟩
def D4(ns:List Int)(n:Nat)(rows:List cH)(made:List Int)(sn:cH)(d:Int){x:String}{as:List Int}(hl:ns.length<=63)(s:n<600000)(l:¬onC x)(q:SJ rows (-1)=b3 (.tup (.str x::as.map .int)))(m:∀a∈as,a∈made)(t:as.length<=3):∃cs:List Int,(∀c∈cs,c∈made)/\cs.length=as.length/\YA [YI ns,YQ n,.lst rows,.lst (made.map .int),sn,.int d]=b3 (.tup (.str x::cs.map .int),[YQ (n+as.length),sn]):=by
 obtain⟨cs,h1,h2,r,j,e⟩:=B5 ns rows made sn d (.tup (.str x::as.map .int)) 1 hl as n [] .no .no (by lia) m (by simp;lia);simp only[nst,Fk,Ef]at e;refine⟨cs,h1,h2,?_⟩;unfold YA;rw[bN,TW.eq_1];obtain⟨⟨_,i⟩,⟨_,h⟩,⟨_,g⟩,_,f⟩:=off4 l;have p:UG (.str x::as.map cH.int) (b3 1) b4=as.map cH.int:=by
  have:=Q0 (ds:=.str x::as.map cH.int) (k:=1) (by simp)
  simpa using this
 have o:UG (.str x::as.map cH.int) b4 (b3 1)=[.str x]:=by
  have:=OH (ds:=.str x::as.map cH.int) (k:=1)
  simpa using this
 have b:1+cs.length<=16777216:=by lia
 simp[bF,q,i,h,g,f,p,o,e,b]
def jO(ns:List Int)(n:Nat)(rows:List cH)(made:List Int)(sn:cH)(j:Int){last:cH}{m:Nat}(hl:ns.length<=63)(o:n<600000)(u:m<8000000)(l:Sn m sn)(t:0<j)(C:j<=64)(r:SJ rows (-1)=b3 last)(ok:ZR (· ∈made) last)(B:∀k,last≠ .tup [.str "number",.int k]):∃s w g,n<=w/\w<=n+3/\Sn (m+1) g/\ZR (· ∈made) s/\YA [YI ns,YQ n,.lst rows,.lst (made.map .int),sn,.int j]=b3 (s,[YQ w,g]):=by
 cases ok with
 |number=>exact absurd rfl (B _)
 | @two x a b A i y=>
  obtain⟨cs,h1,h2,e⟩:=D4 ns n rows made sn j (x:=x) (as:=[a,b]) hl o (A2 A) r (by simp[i,y]) (by simp);match cs,h2 with
  |[c,d],_=>exact⟨_,n+2,sn,by lia,by lia,snM l (by lia),.two A (h1 c (by simp)) (h1 d (by simp)),e⟩
 | @pick c a b hc i y=>
  obtain⟨cs,h1,h2,e⟩:=D4 ns n rows made sn j (x:= "pick") (as:=[c,a,b]) hl o (λz=>by rcases z with z|z|z|z<;>exact absurd z (by decide)) r (by simp[i,y,hc]) (by simp);match cs,h2 with
  |[c,d,f],_=>exact⟨_,n+3,sn,by lia,by lia,snM l (by lia),.pick (h1 c (by simp)) (h1 d (by simp)) (h1 f (by simp)),e⟩
 | @load p v p1=>
  obtain⟨q,cs,g,q0,q1,h1,h2,h,e⟩:=L7 ns n rows made sn j (x:= "load") (p:=p) (as:=[]) hl o u l t (.inl rfl) r (by simp) (by simp);match cs,h2 with
  |[],_=>exact⟨_,n+0,g,by lia,by lia,h,.load q0 (by lia),e⟩
 | @take p c a v p1 hc i=>
  obtain⟨q,cs,g,q0,q1,h1,h2,h,e⟩:=L7 ns n rows made sn j (x:= "take") (p:=p) (as:=[c,a]) hl o u l t (.inr (.inl rfl)) r (by simp[hc,i]) (by simp);match cs,h2 with
  |[c,d],_=>exact⟨_,n+2,g,by lia,by lia,h,.take q0 (by lia) (h1 c (by simp)) (h1 d (by simp)),e⟩
 | @store p a v p1 i=>
  obtain⟨q,cs,g,q0,q1,h1,h2,h,e⟩:=L7 ns n rows made sn j (x:= "store") (p:=p) (as:=[a]) hl o u l t (.inr (.inr (.inl rfl))) r (by simp[i]) (by simp);match cs,h2 with
  |[c],_=>exact⟨_,n+1,g,by lia,by lia,h,.store q0 (by lia) (h1 c (by simp)),e⟩
 | @put p a c v p1 i hc=>
  obtain⟨q,cs,g,q0,q1,h1,h2,h,e⟩:=L7 ns n rows made sn j (x:= "put") (p:=p) (as:=[a,c]) hl o u l t (.inr (.inr (.inr rfl))) r (by simp[i,hc]) (by simp);match cs,h2 with
  |[c,d],_=>exact⟨_,n+2,g,by lia,by lia,h,.put q0 (by lia) (h1 c (by simp)) (h1 d (by simp)),e⟩
structure RI(rows:List cH)(made:List Int)(kds:List Kd):Prop where
 bl:Bl [] rows kds
 ex:∀a,a∈made↔Nm kds .w a
 ml:made.length<=rows.length
def RI.len{rows:List cH}{made:List Int}{kds:List Kd}(h:RI rows made kds):kds.length=rows.length:=by
 have:=h.bl.len
 simpa using this
def iY{kds:List Kd}{k:Kd}{a:Int}:Nm (kds++[k]) .w a↔Nm kds .w a∨(k=.w/\a=kds.length):=by
 constructor
 ·intro h
  have b:=h.1;have hl:=h.lt;rw[Cc,Jq]at hl;by_cases hi:a.toNat<kds.length
  ·exact .inl ⟨b,by have:=h.2;rwa[Ar hi]at this⟩
  ·have hi : a.toNat = kds.length := by lia
   have e:=h.2;rw[hi]at e;simp at e;exact .inr ⟨e,by lia⟩
 ·rintro (h|⟨rfl,rfl⟩)
  ·exact h.snoc
  ·exact Nm.new
def RI.more{rows:List cH}{made:List Int}{kds:List Kd}{b:cH}(h:RI rows made kds)(r:ZR (· ∈made) b):RI (rows++[b]) (if L6 .w b=.w then made++[(rows.length:Int)]else made) (kds++[L6 .w b]):=by
 refine⟨h.bl.snoc (r.imp λa c=>(h.ex a).mp c),λa=>?_,?_⟩
 ·rw[iY,<- h.ex a,h.len]
  split
  ·rename_i e
   simp[e]
  ·rename_i e
   simp[e]
 ·have:=h.ml
  split<;>simp<;>lia
theorem RI.last{b:List cH}{last:cH}{made:List Int}{kds:List Kd}(h:RI (b++[last]) made kds):ZR (· ∈made) last:=(h.bl.all last (by simp)).imp λa c=>(h.ex a).mpr c
noncomputable def MH(ns:List Int)(n:Nat)(a b:Int)(rows:List cH)(made:List Int)(sn:cH)(s7:Sl):Ev:=
 [.va (YI ns),.ow (YQ n),.va (.int a),.va (.int b),.ow (.lst rows),.ow (.lst (made.map .int)),.ow sn,s7]
theorem HQ:∀vs:List Int,SV (vs.map .int)=ba
 |[]=>rfl
 |_::vs=>by show((cH.int _).hard&&SV (vs.map .int))=ba;rw[HQ vs];rfl
def AT{m:Nat}{sn:cH}(h:Sn m sn):RT sn=ba:=by obtain⟨ks,vs,rfl,_⟩:=h;exact HQ vs
def Ys{a:cH}(x:String)(t:List cH)(e:a=.tup (.str x::t)):L6 .w a=.w↔ ¬(x= "store" ∨x= "put"):=by
 subst e;by_cases h:x= "store" ∨x= "put"
 ·rw[me h];simp[h]
 ·have : x ∉ ["store","put"] := by simpa using h
  rw[eY this];simp[h]
def mq(ns:List Int)(n:Nat)(a v:Int){rows:List cH}{made:List Int}{kds:List Kd}{sn:cH}{m:Nat}(s7:Sl)(hl:ns.length<=63)(K:n<600000)(L:m<8000000)(A:Sn m sn)(J:0<v)(B:v<=64)(R:RI rows made kds)(D:rows≠[])(O:rows.length<1000):∃s E M j b,RI s E M/\rows.length<=s.length/\((rows.length:Int)<=a->(s.length:Int)<=a)/\s.length<=rows.length+1/\n<=j/\j<=n+3/\Sn (m+1) b/\YM (MH ns n a v rows made sn s7)=b3 (.nx (MH ns j a v s E b s7)):=by
 obtain⟨i,last,rfl⟩:∃i last,rows=i++[last]:=⟨rows.dropLast,rows.getLast D,(List.dropLast_concat_getLast D).symm⟩;have ok:=R.last;have r:=OB i last;have C:made.length<16777216:=by have:=R.ml;lia
 have g:(i++[last]).length<16777216:=by lia
 generalize N:i++[last]=rows at*;obtain⟨x,t,q,_⟩:=R0 ok;by_cases h1:(rows.length:Int)<a
 ·by_cases h2:x= "number"
  ·refine ⟨rows,made,kds,n,sn,R,Ao _,id,by lia,by lia,by lia,snM A (by lia),?_⟩
   unfold YM;simp[MH,h1,r,q,h2]
  ·obtain ⟨w,j,b,I,H,l,d,e⟩ := jO ns n rows made sn v hl K L A J B r ok (λk z => by rw [q]at z;simp [ZL]at z;exact h2 z.1)
   obtain⟨y,u,p,_⟩:=R0 d;have h:=OB rows w;refine⟨_,_,_,j,b,R.more d,by simp,by simp;lia,by simp,I,H,l,?_⟩;unfold YM;have key:=Ys y u p;have c:=d.hard;rw[p]at c;have f:=AT l;by_cases o:y= "store" ∨y= "put"
   ·rw [if_neg (by rw [key];simp [o])]
    rcases o with rfl|rfl
    ·simp[MH,h1,r,q,h2,e,h,p,g,c,f]
    ·simp[MH,h1,r,q,h2,e,h,p,g,c,f]
   ·rw [if_pos (by rw [key];exact o)]
    have G:¬ "store"=y:=λz=>o (.inl z.symm);have F:¬ "put"=y:=λz=>o (.inr z.symm);simp[MH,h1,r,q,h2,e,h,p,g,c,f,G,F,C]
 ·refine ⟨rows,made,kds,n,sn,R,Ao _,id,by lia,by lia,by lia,snM A (by lia),?_⟩
  unfold YM;simp[MH,h1]
theorem Yb(ns:List Int)(a c:Int)(hl:ns.length<=63)(r:0<c)(i:c<=64):∀(ds:List cH) (n:Nat) {rows:List cH}{made:List Int}{kds:List Kd}{sn:cH}{m:Nat}(s7:Sl),n+3*ds.length<600000->m+ds.length<8000000->Sn m sn->RI rows made kds->rows≠[]->rows.length+ds.length<1000->∃g j p h b f,RI g j p/\rows.length<=g.length/\((rows.length:Int)<=a->(g.length:Int)<=a)/\n<=h/\h<=n+3*ds.length/\Sn (m+ds.length) b/\V9 (gN 7) YM ds (MH ns n a c rows made sn s7)=b3 (.nx (MH ns h a c g j b f))
 |[],n,rows,made,kds,sn,m,s7,_,_,o,R,_,_=>⟨rows,made,kds,n,sn,s7,R,Ao _,id,by lia,by simp,o,by simp⟩
 |d::ds,n,rows,made,kds,sn,m,s7,v,w,o,R,s,hz=>by simp only[Cg]at v w hz;obtain⟨F,E,D,u,t,B,q,A,K,a4,J,k,x⟩:=mq ns n a c (.va d) hl (by lia) (by lia) o r i R s (by lia);obtain⟨g,j,p,h,b,f,C,I,y,H,G,l,e⟩:=Yb ns a c hl r i ds u (.va d) (by lia) (by lia) k B (λz=>by rw[z]at q;simp at q;exact s q) (by lia);refine⟨g,j,p,h,b,f,C,by lia,λz=>y (A z),by lia,by simp only[Cg];lia,snM l (by simp only[Cg];lia),?_⟩;rw[NB,gN_e,IL,show(MH ns n a c rows made sn s7).set 7 (.va d)=MH ns n a c rows made sn (.va d) from rfl,x,IM,e]
def nJ(ns:List Int)(n:Nat)(a q:Int){rows:List cH}{made:List Int}{kds:List Kd}{sn:cH}(s7:Sl)(hl:ns.length<=63)(S:n<500000)(J:J3 n sn)(F:0<q)(s:q<=64)(R:RI rows made kds)(K:(rows.length:Int)<a)(M:a<=40):∃p v C o b f,RI p v C/\rows.length<p.length/\(p.length:Int)<=a/\n<=o/\o<=n+20/\J3 o b/\V7 (MH ns n a q rows made sn s7)=b3 (.nx (MH ns o a q p v b f)):=by
 obtain⟨w,D,I,U,T,r,g,_,e⟩:=qD ns n made sn q hl (by lia) J F s;obtain⟨x,E,ex⟩:=WE ns D [.int 0,.int 1,.int 1,.int 2,.int 3] hl (by lia) (by simp);obtain⟨k,rfl,k0,k3⟩:∃k:Nat,x=.int k/\0<=k/\k<=3:=by
  simp only[Al,Bi,or_false]at E;rcases E with rfl|rfl|rfl|rfl|rfl
  ·exact⟨0,rfl,by lia,by lia⟩
  ·exact⟨1,rfl,by lia,by lia⟩
  ·exact⟨1,rfl,by lia,by lia⟩
  ·exact⟨2,rfl,by lia,by lia⟩
  ·exact⟨3,rfl,by lia,by lia⟩
 have P:=R.more g;have i:rows.length<16777216:=by lia
 have B:made.length<16777216:=by have:=R.ml;lia
 have L:(YR 0 k).length=k:=kS k;obtain⟨p,v,C,o,b,f,Q,O,N,W,V,A,d⟩:=Yb ns a q hl F s (YR 0 k) (D+1) s7 (by lia) (by lia) r P (by simp) (by simp;lia);refine⟨p,v,C,o,b,f,Q,by simp at O;lia,N (by simp;lia),by lia,by lia,snM A (by lia),?_⟩;obtain⟨y,u,m,_⟩:=R0 g;have j:=OB rows w;have key:=Ys y u m;have c:=g.hard;rw[m]at c;have h:=AT r;have l:(-4611686018427387904:Int)<=k/\(k:Int)<4611686018427387904:=by lia
 unfold V7;by_cases t:y= "store" ∨y= "put"
 ·rw [if_neg (by rw [key];simp [t])]at d
  simp only[MH]at d;rw[m]at d;rcases t with rfl|rfl
  ·simp[MH,e,j,m,i,c,h,ex,l,d]
  ·simp[MH,e,j,m,i,c,h,ex,l,d]
 ·rw [if_pos (by rw [key];exact t)]at d
  simp only[MH,Cu,Bg,Ef]at d;rw[m]at d;have H:¬ "store"=y:=λz=>t (.inl z.symm);have G:¬ "put"=y:=λz=>t (.inr z.symm);simp[MH,e,j,m,i,c,h,ex,l,H,G,B,d]
def E2{t:VB}{g:VS}{k:Nat}{δ δ1 δ2:Ev}(h:t δ=b3 (ba,δ1))(h2:g δ1=b3 (.nx δ2)):Z0 t g (k+1) δ=Z0 t g k δ2:=by show((t δ).bind λp=>if p.1=ba then(g p.2).bind (again (Z0 t g k))else b3 (.nx p.2))=_;rw[h,Ap];show(if ba=ba then(g δ1).bind (again (Z0 t g k))else _)=_;rw[if_pos rfl,h2];rfl
def LP{t:VB}{g:VS}{k:Nat}{δ δ1:Ev}(h:t δ=b3 (bb,δ1)):Z0 t g (k+1) δ=b3 (.nx δ1):=by show((t δ).bind λp=>if p.1=ba then(g p.2).bind (again (Z0 t g k))else b3 (.nx p.2))=_;rw[h];rfl
theorem Zk(ns:List Int)(a g:Int)(hl:ns.length<=63)(q:0<g)(i:g<=64)(j:a<=40):∀(f:Nat) (n:Nat) {rows:List cH}{made:List Int}{kds:List Kd}{sn:cH}(s7:Sl),a-rows.length<=f->(rows.length:Int)<=a->n+20*f<500000->J3 n sn->RI rows made kds->∃k l o h b c,RI k l o/\(k.length:Int)=a/\n<=h/\h<=n+20*f/\Z0 (fB (f2 oLt (f1 YW (fO 4)) (fV 2))) V7 (f+1) (MH ns n a g rows made sn s7)=b3 (.nx (MH ns h a g k l b c))
 |0,n,rows,made,kds,sn,s7,h1,h2,u,p,R=>by
  refine⟨rows,made,kds,n,sn,s7,R,by lia,by lia,by lia,LP ?_⟩;have:¬(rows.length:Int)<a:=by lia
  simp[MH,this]
 | f + 1,n,rows,made,kds,sn,s7,h1,h2,u,p,R => by
  by_cases d:(rows.length:Int)<a
  ·obtain ⟨C,B,A,t,s,r,y,G,x,F,a4,m,v⟩ := nJ ns n a g s7 hl (by lia) p q i R d j
   obtain⟨k,l,o,h,b,c,z,w,E,D,e⟩:=Zk ns a g hl q i j f t r (by lia) x (by lia) m y;refine⟨k,l,o,h,b,c,z,w,by lia,by lia,?_⟩;rw[E2 (δ1:=MH ns n a g rows made sn s7) (by simp[MH,d]) v,e]
  ·refine ⟨rows,made,kds,n,sn,s7,R,by lia,by lia,by lia,LP ?_⟩
   simp[MH,d]
def lp(ns:List Int)(n:Nat)(b d:Int)(hl:ns.length<=63)(l:n<400000)(h:0<d)(f:d<=64)(i:0<=b)(g:b<=40):∃rows kds c,Bl [] rows kds/\(rows.length:Int)=b/\n<=c/\c<=n+20*40/\SZ [YI ns,YQ n,.int b,.int d]=b3 (.tup rows,[YQ c]):=by obtain⟨rows,made,kds,c,sn,s7,R,k,j,m,e⟩:=Zk ns b d hl h f g b.toNat n (rows:=[]) (made:=[]) (kds:=[]) (sn:=.dct [] []) .no (by simp;lia) (by simpa using i) (by lia) ⟨[],[],rfl,rfl,Nx,Cn _⟩ ⟨.nil,λa=>by simp[Nm],by simp⟩;refine⟨rows,kds,c,R.bl,k,j,by lia,?_⟩;have e:=Q8 e;simp only[MH,Ef]at e;unfold SZ;rw[bN,P6.eq_1];simp[bF,e]
def nP{f g:VF}{δ δ1 δ2:Ev}{i j:Int}(h1:f δ=b3 (.int i,δ1))(h2:g δ1=b3 (.int j,δ2))(a:(-4611686018427387904<=i/\i<4611686018427387904)/\ -4611686018427387904<=j/\j<4611686018427387904):iR2 f g δ=b3 (YR i (j-i).toNat,δ2):=by unfold iR2;rw[h1,Ap,h2,Ap];exact if_pos a
theorem LU(a:Nat)(tb:VB)(p:cH->Bool)(fe:VF)(f:cH->cH)(δ:Ev)(b:δ.length=a):∀(ds acc:List cH),(∀d∈ds,tb (δ++[Sl.va d])=b3 (p d,δ++[Sl.va d])/\(p d=ba->fe (δ++[Sl.va d])=b3 (f d,δ++[Sl.va d])))->acc.length+ds.length<16777216->Y0 a 1 (gN a) tb fe ds acc δ=b3 (acc++(ds.filter p).map f,δ)
 |[],acc,_,_=>by simp
 | d :: ds,acc,h,hl => by
  have j:(δ++[Sl.no]).set a (.va d)=δ++[Sl.va d]:=by rw[Gv _ _ (by lia)];simp[b]
  have k:(δ++[Sl.va d]).take a=δ:=by rw[Ea (by lia),Ce (by lia)]
  have l:acc.length<16777216:=by simp at hl;lia
  obtain⟨h1,h2⟩:=h d At;cases c:p d with
  |true=>
   have g:=LU a tb p fe f δ b ds (acc++[f d]) (λe i=>h e (Aq _ i)) (by simp at hl⊢;lia);have h2:=h2 c;rw[c]at h1;simp only[OF,Wr,gN_e,j,EB,h1,Xd,h2,Wi,if_pos l,k,g];simp[c]
  |false=>
   have g:=LU a tb p fe f δ b ds acc (λe i=>h e (Aq _ i)) (by simp at hl⊢;lia);rw[c]at h1;simp only[OF,Wr,gN_e,j,EB,h1,dX,k,g];simp[c]
def ZR.ints{M:Int->Prop}{d:cH}(h:ZR M d):∃(x:String) (a:Int) (as:List Int),d=.tup (.str x:: .int a::as.map .int)/\(x= "over" ->∃b,as=[b]/\M b):=by
 cases h with
 | @number n _ _=>exact⟨"number",n,[],rfl,λz=>absurd z (by decide)⟩
 | @two x a b f g e=>exact⟨x,a,[b],rfl,λ_=>⟨b,rfl,e⟩⟩
 | @pick c a b _ _ _=>exact⟨"pick",c,[a,b],rfl,λz=>absurd z (by decide)⟩
 | @load p _ _=>exact⟨"load",p,[],rfl,λz=>absurd z (by decide)⟩
 | @take p c a _ _ _ _=>exact⟨"take",p,[c,a],rfl,λz=>absurd z (by decide)⟩
 | @store p a _ _ _=>exact⟨"store",p,[a],rfl,λz=>absurd z (by decide)⟩
 | @put p a c _ _ _ _=>exact⟨"put",p,[a,c],rfl,λz=>absurd z (by decide)⟩
theorem RQ{k:Nat}:∀as:List Int,∀d∈as.map cH.int,NZ k d
 |[],d,h=>nomatch h
 |a::as,d,h=>by
  rcases Al.mp h with rfl|h
  ·exact X1
  ·exact RQ as d h
def AN{M:Int->Prop}{b:cH}(h:ZR M b):NZ 1 b:=by obtain⟨x,a,as,rfl,_⟩:=h.ints;exact OV (aK YN (aK X1 (RQ as)))
def Xk{sure:Int}{rows:List cH}{kds:List Kd}(u:Bl [] rows kds){i:Int}(G:0<=i)(h1:i<rows.length):∃b,WY [.tup [.int sure,.tup rows],.int i]=b3 (.bl b,[]):=by
 have P:kds.length=rows.length:=by simpa using u.len
 obtain⟨c,K,v⟩:∃c∈rows,SJ rows i=b3 c:=by
  have hi:i.toNat<rows.length:=by lia
  exact⟨rows[i.toNat],Hq hi,by rw[TK G h1];simp[hi]⟩
 have ok:=u.all c K;obtain⟨x,a,as,rfl,p⟩:=ok.ints;unfold WY;rw[bN];unfold NC;by_cases w:onC x
 ·have m1:=cel4 w
  exact⟨_,by simp[bF,v,m1];rfl⟩
 ·obtain⟨⟨_,D⟩,⟨_,C⟩,⟨_,B⟩,_,A⟩:=off4 w
  by_cases r:x= "over"
  ·obtain⟨b,rfl,h⟩:=p r
   subst r;have M:=h.1;have O:=h.lt;obtain⟨E,o,I⟩:∃c∈rows,SJ rows b=b3 c:=by
    have hi:b.toNat<rows.length:=by lia
    exact⟨rows[b.toNat],Hq hi,by rw[TK M (by lia)];simp[hi]⟩
   obtain⟨m,n,l,rfl,_⟩:=(u.all E o).ints;have J:UG (.str m:: .int n::l.map cH.int) b4 (b3 2)=[.str m,.int n]:=by
    have:=OH (ds:=.str m:: .int n::l.map cH.int) (k:=2)
    simpa using this
   have H:∀δ,iR2 (fC (.int 1)) (fC (.int 1000)) δ=b3 (YR 1 ((1000:Int)-1).toNat,δ):=λδ=>nP (f:=fC (.int 1)) (g:=fC (.int 1000)) (δ:=δ) (δ1:=δ) (δ2:=δ) (i:=1) (j:=1000) rfl rfl (by lia);have z:=J7 0 (ZT (cA (fC (.str "number")) (cA (fV 0) bH))) [] (λd=>.tup [.str "number",d]) rfl (YR 1 ((1000:Int)-1).toNat) [] (λd _=>by simp) (by simp[YR]);have s:∀neg,∃b,ZN neg (.tup [.str m,.int n]) (.lst ((YR 1 ((1000:Int)-1).toNat).map λd=>.tup [.str "number",d]))=b3 (.bl b):=λneg=>⟨_,F7 (j:=1) (k:=1) (OV (aK YN (aK X1 YD))) (λe F=>by
    obtain⟨d,y,rfl⟩:=Cv.mp F;obtain⟨q,rfl⟩:∃q,d=.int q:=by unfold YR at y;obtain⟨q,_,rfl⟩:=Cv.mp y;exact⟨_,rfl⟩
    exact OV (aK YN (aK X1 YD)))⟩
   obtain⟨L,t⟩:=s ba;simp only[Fk]at z;generalize (YR 1 ((1000:Int)-1).toNat).map (λd=>cH.tup [.str "number",d])=big at*;generalize YR 1 ((1000:Int)-1).toNat=N at*;exact⟨L,by simp -implicitDefEqProofs [bF,v,I,J,aI,H,z,t]⟩
  ·exact⟨bb,by simp[bF,v,D,C,B,A,r]⟩
def Y1(p:Int×Int):cH:=.tup [.int p.1,.int p.2]
noncomputable def J6:cH:=.tup [.str "load",.str "take",.str "store",.str "put"]
def NJ(a:cH)(ps:List (Int×Int))(j:Int)(there:Sl)(s5 s6 s7 b:Sl):Ev:=
 [.va a,.ow (.lst (ps.map Y1)),.va J6,.va (.int j),there,s5,s6,s7,b]
def ma{bs:List Bool}:ZN bb (.bl ba) (.lst (bs.map .bl))=b3 (.bl (bs.any id)):=by
 rw[F7 (j:=0) (k:=0) Yq (λe c=>by obtain⟨b,_,rfl⟩:=Cv.mp c;exact Yq)]
 induction bs with
 |nil=>rfl
 |cons b bs a=>
  have e:eqD (.bl b) (.bl ba)=b:=by cases b<;>rfl
  simp only[Bg,Wf,Hc,id,e];simp only[El,if_false,Option.some.injEq,cH.bl.injEq]at a⊢;rw[a]
theorem Xv{i:Int}:∀{as:List Int},i∈as->HS (.int i) (as.map .int)=ba
 |q::as,h=>by
  simp only[Bg,Wf];rcases Al.mp h with rfl|h
  ·simp
  ·simp[Xv h]
noncomputable def wrT:cH->Bool
 |.tup (.str x::_)=>decide (Bj "store"=x) || decide (Bj "put"=x)
 |_=>bb
def LI{s1 s2:VS}{δ δ1:Ev}{r:Option Ou}(h1:s1 δ=b3 (.nx δ1))(h2:s2 δ1=r):bV s1 s2 δ=r:=by rw[X3,h1,OZ,h2]
def jU{sure:Int}{rows:List cH}{kds:List Kd}(s:Bl [] rows kds)(ps:List (Int×Int)){i j:Int}{here there:cH}(U:0<=i)(i1:i<rows.length)(S:0<=j)(R:j<rows.length)(hh:here∈rows)(V:there∈rows){as:List Int}(Z:Y6 [there]=b3 (.lst (as.map .int),[]))(s7 F:Sl)(hp:ps.length<1000000):∃(c:Bool) (L K:Sl),(i∈as->c=ba)/\V5 (NJ (.tup [.int sure,.tup rows]) ps j (.va there) (.va (.int i)) (.va here) s7 F)=b3 (.nx (NJ (.tup [.int sure,.tup rows]) (ps++if c then[(i,j)]else[]) j (.va there) (.va (.int i)) (.va here) L K)):=by
 obtain⟨f,J⟩:=Xk (sure:=sure) s U i1;obtain⟨l,I⟩:=Xk (sure:=sure) s S R;have q:=s.all here hh;have p:=s.all there V;have Q:=AN q;have P:=AN p;obtain⟨x,a,xs,H,_⟩:=q.ints;obtain⟨y,b,ys,G,_⟩:=p.ints;have C:ZN bb (.int i) (.lst (as.map .int))=b3 (.bl (HS (.int i) (as.map .int))):=by rw[F7 (j:=0) (k:=0) X1 (RQ as)];simp
 have T:=Xv (i:=i) (as:=as);generalize HS (.int i) (as.map .int)=bi at*;have E:∃w:List cH,Y0 0 1 (gN 0) (fB (f2 (ZN bb) (f2 bG (fV 0) (fC (.int 0))) (ZT (cA (fC (.str "store")) (cA (fC (.str "put")) bH))))) (fV 0) [here,there] [] []=b3 (w,[])/\∀d∈w,NZ 1 d:=by
  have c:=LU 0 (fB (f2 (ZN bb) (f2 bG (fV 0) (fC (.int 0))) (ZT (cA (fC (.str "store")) (cA (fC (.str "put")) bH))))) wrT (fV 0) id [] rfl [here,there] [] (λd r=>by
   simp only[Al,Bi,or_false]at r;rcases r with rfl|rfl
   ·rw[H];simp[wrT,ZL]
   ·rw[G];simp[wrT,ZL]) (by simp)
  refine⟨_,c,λd r=>?_⟩;simp only[Fk,List.map_id_fun,id,Ie,Al,Bi,or_false]at r;rcases r.1 with rfl|rfl
  ·exact Q
  ·exact P
 obtain⟨w,E,O⟩:=E;have B:QE (.lst w) (.lst [])=b3 (.bl (!eqD (.lst w) (.lst []))):=Vx (j:=2) (k:=0+1) (WU O) (WU YD);generalize (!eqD (.lst w) (.lst []))=m at*;have A:ps.length<16777216:=by lia
 have v:∃h,ZN bb (.str x) J6=b3 (.bl h):=⟨_,Xm⟩;have t:∃e,ZN bb (.str y) J6=b3 (.bl e):=⟨_,Xm⟩;have z:∃h,ZN bb (.str x) (.tup [.str "store",.str "put"])=b3 (.bl h):=⟨_,Vy⟩;have u:∃e,ZN bb (.str y) (.tup [.str "store",.str "put"])=b3 (.bl e):=⟨_,Vy⟩;obtain⟨h,v⟩:=v;obtain⟨e,t⟩:=t;obtain⟨o,z⟩:=z;obtain⟨n,u⟩:=u;subst H G;have g:=ma (bs:=[bi,f&&l,h&&(e&&(decide (a=b)&&m)),f&&n,l&&o]);simp only[Bg,Ef]at g;refine⟨[bi,f&&l,h&&(e&&(decide (a=b)&&m)),f&&n,l&&o].any id,.va (.lst w),.ow (.lst [.bl bi,.bl (f&&l),.bl (h&&(e&&(decide (a=b)&&m))),.bl (f&&n),.bl (l&&o)]),?_,?_⟩
 ·intro hi
  rw[T hi];rfl
 ·unfold V5
  refine LI (δ1:=NJ (.tup [.int sure,.tup rows]) ps j (.va (.tup (.str y:: .int b::ys.map .int))) (.va (.int i)) (.va (.tup (.str x:: .int a::xs.map .int))) (.va (.lst w)) F) (by simp[NJ,aI,E]) ?_;refine LI (δ1:=NJ (.tup [.int sure,.tup rows]) ps j (.va (.tup (.str y:: .int b::ys.map .int))) (.va (.int i)) (.va (.tup (.str x:: .int a::xs.map .int))) (.va (.lst w)) (.ow (.lst [.bl bi,.bl (f&&l)]))) ?_ ?_
  ·clear g
   cases f<;>simp[NJ,Z,C,J,I]
  refine LI (δ1:=NJ (.tup [.int sure,.tup rows]) ps j (.va (.tup (.str y:: .int b::ys.map .int))) (.va (.int i)) (.va (.tup (.str x:: .int a::xs.map .int))) (.va (.lst w)) (.ow (.lst [.bl bi,.bl (f&&l),.bl (h&&(e&&(decide (a=b)&&m)))]))) ?_ ?_
  ·clear g
   cases h<;>cases e<;>by_cases D:a=b<;>simp[NJ,v,t,B,D]
  refine LI (δ1:=NJ (.tup [.int sure,.tup rows]) ps j (.va (.tup (.str y:: .int b::ys.map .int))) (.va (.int i)) (.va (.tup (.str x:: .int a::xs.map .int))) (.va (.lst w)) (.ow (.lst [.bl bi,.bl (f&&l),.bl (h&&(e&&(decide (a=b)&&m))),.bl (f&&n)]))) ?_ ?_
  ·clear g
   generalize (h&&(e&&(decide (a=b)&&m)))=q3;cases f<;>simp[-Vy,NJ,J,u]
  refine LI (δ1:=NJ (.tup [.int sure,.tup rows]) ps j (.va (.tup (.str y:: .int b::ys.map .int))) (.va (.int i)) (.va (.tup (.str x:: .int a::xs.map .int))) (.va (.lst w)) (.ow (.lst [.bl bi,.bl (f&&l),.bl (h&&(e&&(decide (a=b)&&m))),.bl (f&&n),.bl (l&&o)]))) ?_ ?_
  ·clear g
   generalize (h&&(e&&(decide (a=b)&&m)))=q3;cases l<;>simp[-Vy,NJ,I,z]
  generalize (h&&(e&&(decide (a=b)&&m)))=q3 at*;generalize Y:(f&&l)=q1 at*;generalize X:(f&&n)=N at*;generalize W:(l&&o)=M at*;generalize hc:[bi,q1,q3,N,M].any id=c at*;cases c
  ·simp[NJ,g]
  ·simp[NJ,g,A,Y1]
def NA(i:Nat)(d:cH)(ds:List cH):XW i (d::ds)=.tup [.int i,d]::XW (i+1) ds:=rfl
abbrev GP(a b:Nat):VG:=E6 2 (aG (gN a) (aG (gN b) WI))
theorem Zn{sure:Int}{rows:List cH}{kds:List Kd}(s:Bl [] rows kds){j:Int}{there:cH}(n:0<=j)(m:j<rows.length)(o:there∈rows){as:List Int}(q:Y6 [there]=b3 (.lst (as.map .int),[])):∀(a:List cH) (k:Nat) (ps:List (Int×Int)) (s5 s6 s7 b:Sl),(∀d∈a,d∈rows)->k+a.length<=rows.length->ps.length+a.length<1000000->∃(qs:List (Int×Int)) (A y g f:Sl),(∀p∈qs,p.2=j/\(k:Int)<=p.1/\p.1<k+a.length)/\(∀i∈as,(k:Int)<=i->i<k+a.length->(i,j)∈qs)/\qs.length<=a.length∧V9 (GP 5 6) V5 (XW k a) (NJ (.tup [.int sure,.tup rows]) ps j (.va there) s5 s6 s7 b)=b3 (.nx (NJ (.tup [.int sure,.tup rows]) (ps++qs) j (.va there) A y g f))
 |[],k,ps,s5,s6,s7,b,_,_,_=>⟨[],s5,s6,s7,b,by simp,λi _ h1 h2=>by simp at h2;lia,by simp,by simp[XW]⟩
 | h :: a,k,ps,s5,s6,s7,b,r,C,l => by
  simp only[Cg]at C l;obtain⟨c,g,f,F,e⟩:=jU (sure:=sure) s ps (i:=(k:Int)) (j:=j) (here:=h) (there:=there) (by lia) (by lia) n m (r h At) o q s7 b (by lia);obtain⟨qs,x,w,v,u,q1,q2,q3,B⟩:=Zn s n m o q a (k+1) (ps++if c then[((k:Int),j)]else[]) (.va (.int k)) (.va h) g f (λd D=>r d (Aq _ D)) (by lia) (by cases c<;>simp<;>lia);refine⟨(if c then[((k:Int),j)]else[])++qs,x,w,v,u,?_,?_,?_,?_⟩
  ·intro p l
   simp only[Cg];rcases Db.mp l with z|z
   ·cases c
    ·simp at z
    ·simp at z;subst z;exact⟨rfl,by simp,by simp;lia⟩
   ·obtain⟨t,H,G⟩:=q1 p z
    exact⟨t,by lia,by lia⟩
  ·intro i hi h1 h2
   simp only[Cg]at h2;by_cases E:i=k
   ·subst E
    rw[F hi];simp
   ·exact Db.mpr (.inr (q2 i hi (by lia) (by lia)))
  ·cases c<;>simp<;>lia
  ·rw[NA,NB]
   have s1:GP 5 6 (.tup [.int k,h]) (NJ (.tup [.int sure,.tup rows]) ps j (.va there) s5 s6 s7 b)=b3 (NJ (.tup [.int sure,.tup rows]) ps j (.va there) (.va (.int k)) (.va h) s7 b):=by simp[NJ]
   rw[s1,IL,e,IM,B,Df]
structure Prs(rows:List cH)(ps:List (Int×Int)):Prop where
 lt:∀p∈ps,0<=p.1/\p.1<p.2/\p.2<rows.length
 nm:∀(j:Nat) (row:cH) (as:List Int),rows[j]?=b3 row->Y6 [row]=b3 (.lst (as.map .int),[])->∀i∈as,0<=i->i<j->(i,(j:Int))∈ps
def m6{as bs:List Int}(h:as.map cH.int=bs.map cH.int):as=bs:=by
 induction as generalizing bs with
 |nil=>cases bs with
  |nil=>rfl
  |cons=>simp at h
 | cons a as c => cases bs with
  |nil=>simp at h
  |cons b bs=>
   simp only[Bg,Kr,cH.int.injEq]at h;rw[h.1,c h.2]
noncomputable def tri:Nat->Nat->Nat
 |0,_=>0
 |t+1,k=>k+tri t (k+1)
def iE{n:Nat}(h:n<=10):tri n 0<64:=by
 have:=Fc.mp (show(As 11).all (λn=>decide (tri n 0<64))=ba by decide) n (Dh.mpr (by lia))
 exact of_decide_eq_true this
theorem Yp{sure:Int}{rows:List cH}{kds:List Kd}(v:Bl [] rows kds)(w:rows.length<=10):∀(c:List cH) (k:Nat) (ps:List (Int×Int)) (s3:Int) (s4 s5 s6 s7 b:Sl) (h:Sl),rows.drop k=c->k+c.length=rows.length->ps.length+40*c.length<10000->∃(qs:List (Int×Int)) (J I q o n m:Sl),(∀p∈qs,0<=p.1/\p.1<p.2/\p.2<rows.length)/\(∀(j:Nat) (a:cH) (as:List Int),k<=j->rows[j]?=b3 a->Y6 [a]=b3 (.lst (as.map .int),[])->∀i∈as,0<=i->i<j->(i,(j:Int))∈qs)/\(qs.length<=tri c.length k/\qs.length<=40*c.length)∧V9 (GP 3 4) V6 (XW k c) [.va (.tup [.int sure,.tup rows]),.ow (.lst (ps.map Y1)),.va J6,h,s4,s5,s6,s7,b]=b3 (.nx [.va (.tup [.int sure,.tup rows]),.ow (.lst ((ps++qs).map Y1)),.va J6,J,I,q,o,n,m])
 |[],k,ps,s3,s4,s5,s6,s7,b,h,h1,h2,_=>by
  refine⟨[],h,s4,s5,s6,s7,b,by simp,λj a as V Q=>?_,by simp[tri],by simp[XW]⟩;have:=(Ah.mp Q).1
  simp at h2;lia
 | t :: c,k,ps,s3,s4,s5,s6,s7,b,h,h1,h2,s => by
  simp only[Cg]at h2 s;have x:t∈rows:=List.mem_of_mem_drop (by rw[h1];exact At);have O:rows[k]?=b3 t:=by
   have:(rows.drop k)[0]?=b3 t:=by rw[h1];rfl
   simpa using this
  obtain⟨as,_,_,y,_⟩:=B0 (v.all t x);have A:(rows.take k).length=k:=by rw[Cf];lia
  obtain⟨f,q,o,n,m,q1,q2,q3,e⟩:=Zn (sure:=sure) v (j:=(k:Int)) (by lia) (by lia) x y (rows.take k) 0 ps s5 s6 s7 b (λd P=>List.mem_of_mem_take P) (by lia) (by lia);obtain⟨r,H,G,F,E,D,C,L,K,T,M⟩:=Yp v w c (k+1) (ps++f) 0 (.va t) q o n m (.va (.int k)) (by rw[<-List.drop_drop,h1];rfl) (by lia) (by simp;lia);refine⟨f++r,H,G,F,E,D,C,?_,?_,?_,?_⟩
  ·intro p s
   rcases Db.mp s with z|z
   ·obtain⟨S,R,B⟩:=q1 p z
    rw[A]at B;exact⟨by lia,by lia,by lia⟩
   ·exact L p z
  ·intro j a bs U l g i hi N i1
   by_cases u:j=k
   ·subst u
    rw[O]at l;injection l with l;subst l;rw[y]at g;have:as=bs:=m6 (by simpa using g)
    subst this;exact Db.mpr (.inl (q2 i hi (by lia) (by rw[A];lia)))
   ·exact Db.mpr (.inr (K j a bs (by lia) l g i hi N i1))
  ·simp only[Cc,Cg,tri];lia
  ·rw[NA,NB]
   have s1:GP 3 4 (.tup [.int k,t]) [.va (.tup [.int sure,.tup rows]),.ow (.lst (ps.map Y1)),.va J6,h,s4,s5,s6,s7,b]=b3 (NJ (.tup [.int sure,.tup rows]) ps k (.va t) s5 s6 s7 b):=by simp[NJ]
   have s2:V6 (NJ (.tup [.int sure,.tup rows]) ps k (.va t) s5 s6 s7 b)=b3 (.nx (NJ (.tup [.int sure,.tup rows]) (ps++f) k (.va t) q o n m)):=by
    unfold V6;have hc:=OH (ds:=rows) (k:=k);rw[dP];have:KQ (fSl (f2 bG (fV 0) (fC (.int 1))) pNo (pSo (fV 3))) (NJ (.tup [.int sure,.tup rows]) ps k (.va t) s5 s6 s7 b)=b3 (XW 0 (rows.take k),NJ (.tup [.int sure,.tup rows]) ps k (.va t) s5 s6 s7 b):=by simp[NJ,hc]
    rw[this,qF_s];exact e
   rw[s1,IL,s2,IM];simp only[NJ];rw[M,Df]
theorem AZ{α:Type}{g:α->cH}{k:α->List Int}:∀xs:List α,(∀a∈xs,tpD (g a)=b3 (k a))->QG (xs.map g)=b3 (xs.map k)
 |[],_=>rfl
 |x::xs,h=>by show(tpD (g x)).bind (λq=>(QG (xs.map g)).map λqs=>q::qs)=_;rw[AZ xs λa b=>h a (Aq _ b),h x At];rfl
def mD{α:Type}(z:α)(xs:List α):(As xs.length).map (λi=>xs.getD i z)=xs:=by refine List.ext_getElem (by simp) λi h1 h2=>?_;simp at h1;simp[h1]
def ji{α:Type}(g:α->cH)(k:α->List Int)(z:α)(xs:List α)(d:∀a∈xs,tpD (g a)=b3 (k a))(c:xs.length<64):∃ys:List α,ys.Perm xs/\NM (.lst (xs.map g))=b3 (.lst (ys.map g)):=by
 have b:=NO (xs.map k);rw[Bm]at b;have lt:∀i∈EM (xs.map k),i<xs.length:=λi hi=>Dh.mp (b.mem_iff.mp hi);have e:((if(xs.map g).length<64 then(QG (xs.map g)).bind λps=>b3 (cH.lst ((EM ps).map λi=>(xs.map g).getD i cH.non))else b4):Option cH)=b3 (.lst (((EM (xs.map k)).map λi=>xs.getD i z).map g)):=by
  rw[if_pos (by simpa using c),AZ xs d,Ap,Lc];congr 2;refine Oi λi hi=>?_;have:=lt i hi
  simp[this]
 have h:=b.map λi=>xs.getD i z;rw[mD]at h;exact⟨_,h,e⟩
def kG(ps:List (Int×Int))(a:ps.length<64):∃qs:List (Int×Int),qs.Perm ps/\NM (.lst (ps.map Y1))=b3 (.lst (qs.map Y1)):=
 ji Y1 (λp=>[p.1,p.2]) (0,0) ps (λ_ _=>rfl) a
def iD{sure:Int}{rows:List cH}{kds:List Kd}(f:Bl [] rows kds)(a:rows.length<=10):∃ps:List (Int×Int),Prs rows ps/\ps.length<=1600/\SY [.tup [.int sure,.tup rows]]=b3 (.lst (ps.map Y1),[]):=by obtain⟨qs,o,n,m,l,k,g,q1,q2,q3,e⟩:=Yp (sure:=sure) f a rows 0 [] 0 .no .no .no .no .no .no (by simp) (by simp) (by simp;lia);simp only[Ef,Fk,J6]at e;obtain⟨ps,c,es⟩:=kG qs (by have:=iE a;lia);refine⟨ps,⟨λp h=>q1 p (c.mem_iff.mp h),λj b as h1 h2 i hi d i1=>c.mem_iff.mpr (q2 j b as (by lia) h1 h2 i hi d i1)⟩,by rw[c.length_eq];lia,?_⟩;unfold SY;rw[bN,P2.eq_1];simp[bF,e,es]
theorem OG(c:Nat)(tb:VB)(p:cH->Bool)(fe:VF)(f:cH->cH)(δ:Ev)(g:δ.length=c):∀(ds acc:List cH),(∀d∈ds,∃a b,d=.tup [a,b]/\tb (δ++[Sl.va a,Sl.va b])=b3 (p d,δ++[Sl.va a,Sl.va b])/\(p d=ba->fe (δ++[Sl.va a,Sl.va b])=b3 (f d,δ++[Sl.va a,Sl.va b])))->acc.length+ds.length<16777216->Y0 c 2 (GP c (c+1)) tb fe ds acc δ=b3 (acc++(ds.filter p).map f,δ)
 |[],acc,_,_=>by simp
 | d :: ds,acc,h,hl => by
  obtain⟨a,b,rfl,h1,h2⟩:=h d At;have l:GP c (c+1) (.tup [a,b]) (δ++[Sl.no,Sl.no])=b3 (δ++[Sl.va a,Sl.va b]):=by
   have o:(δ++[Sl.no,Sl.no]).set c (.va a)=δ++[Sl.va a,Sl.no]:=by rw[Gv _ _ (by lia)];simp[g]
   have n:(δ++[Sl.va a,Sl.no]).set (c+1) (.va b)=δ++[Sl.va a,Sl.va b]:=by rw[Gv _ _ (by lia),g,show c+1-c=1 by lia];rfl
   simp[o,n]
  have m:(δ++[Sl.va a,Sl.va b]).take c=δ:=by rw[Ea (by lia),Ce (by lia)]
  have q:acc.length<16777216:=by simp at hl;lia
  cases i:p (.tup [a,b])with
  |true=>
   have j:=OG c tb p fe f δ g ds (acc++[f (.tup [a,b])]) (λe k=>h e (Aq _ k)) (by simp at hl⊢;lia);have h2:=h2 i;rw[i]at h1;simp only[OF,Zv,l,EB,h1,Xd,h2,Wi,if_pos q,m,j];simp[i]
  |false=>
   have j:=OG c tb p fe f δ g ds acc (λe k=>h e (Aq _ k)) (by simp at hl⊢;lia);rw[i]at h1;simp only[OF,Zv,l,EB,h1,dX,m,j];simp[i]
noncomputable def ost(ns:List Int)(n:Nat)(a:cH)(ps:List (Int×Int))(left made:List Int)(s6:Sl):Ev:=
 [.va (YI ns),.ow (YQ n),.va a,.va (.lst (ps.map Y1)),.ow (.lst (left.map .int)),.ow (.lst (made.map .int)),s6]
noncomputable def pw(left:List Int)(r:Int):cH->Bool
 |.tup [.int a,.int b]=>decide (b=r)&&HS (.int a) (left.map .int)
 |_=>bb
theorem FW{i:Int}:∀{as:List Int},HS (.int i) (as.map .int)=ba↔i∈as
 |[]=>by simp
 |a::as=>by rw[Bg,Wf,Io,fQ,decide_eq_true_eq,FW (as:=as),Al];exact⟨λh=>h.imp Eq.symm id,λh=>h.imp Eq.symm id⟩
def m8(ps:List (Int×Int))(left:List Int)(r:Int)(g:ps.length<16777216):Y0 2 2 (GP 2 3) (M6 (fB (f2 V0 (fV 3) (fV 1))) (fB (f2 (ZN bb) (fV 2) (fO 0)))) (fC (.int 1)) (ps.map Y1) [] [.ow (.lst (left.map .int)),.va (.int r)]=b3 (((ps.map Y1).filter (pw left r)).map λ_=>.int 1,[.ow (.lst (left.map .int)),.va (.int r)]):=by
 have e:∀a:Int,ZN bb (.int a) (.lst (left.map .int))=b3 (.bl (HS (.int a) (left.map .int))):=λa=>by rw[F7 (j:=0) (k:=0) X1 (RQ left)];simp
 have:=OG 2 (M6 (fB (f2 V0 (fV 3) (fV 1))) (fB (f2 (ZN bb) (fV 2) (fO 0)))) (pw left r) (fC (.int 1)) (λ_=>.int 1) [.ow (.lst (left.map .int)),.va (.int r)] rfl (ps.map Y1) [] (λd h=>by
  obtain⟨⟨a,b⟩,_,rfl⟩:=Cv.mp h;refine⟨.int a,.int b,rfl,?_,λ_=>by simp⟩;have hi:=e a;have c:pw left r (Y1 (a,b))=(decide (b=r)&&HS (.int a) (left.map .int)):=rfl;rw[c];generalize left.map cH.int=L at*;by_cases f:b=r
  ·simp[f,hi]
  ·simp[f]) (by simpa using g)
 simpa using this
def BS{ds:List cH}:eqD (.lst ds) (.lst [])=ds.isEmpty:=by cases ds<;>rfl
def rdD(ps:List (Int×Int))(left:List Int):cH->Bool
 |.int r=>((ps.map Y1).filter (pw left r)).isEmpty
 |_=>bb
theorem K7{x:Int}:∀{ns:List Int},x∈ns->∃j,T4 x ns=b3 j/\ns.eraseIdx j=ns.erase x
 | i :: ns,h => by
  unfold T4;by_cases e:i=x
  ·rw[if_pos e];exact⟨0,rfl,by simp[e]⟩
  ·rw[if_neg e]
   obtain⟨j,h1,h2⟩:=K7 (ns:=ns) (by
    rcases Al.mp h with z|z
    ·exact absurd z.symm e
    ·exact z)
   refine⟨j+1,by rw[h1];rfl,?_⟩;rw[List.eraseIdx_cons_succ,h2,List.erase_cons_tail (by simpa using e)]
def fY{x:Int}{ns:List Int}(h:x∈ns):mRem (ns.map .int) [.int x]=b3 ((ns.erase x).map .int):=by obtain⟨j,h1,h2⟩:=K7 h;show(WS (ns.map .int)).bind (λns=>(T4 x ns).map λj=>(ns.eraseIdx j).map cH.int)=_;rw[NF,Ap,h1,So,h2]
def AI{ps:List (Int×Int)}{left:List Int}{r:Int}:rdD ps left (.int r)=ba↔ ∀p∈ps,p.2=r->p.1∉left:=by
 show((ps.map Y1).filter (pw left r)).isEmpty=ba↔_;rw[Rb,List.filter_eq_nil_iff];constructor
 ·intro h p a b hl
  have:=h (Y1 p) (Cv.mpr ⟨p,a,rfl⟩)
  refine this ?_;show(decide (p.2=r)&&HS (.int p.1) (left.map .int))=ba;rw[FW.mpr hl,b];simp
 ·intro h d c z
  obtain⟨p,a,rfl⟩:=Cv.mp c;have z:(decide (p.2=r)&&HS (.int p.1) (left.map .int))=ba:=z;rw[Af,decide_eq_true_eq,FW]at z;exact h p a z.1 z.2
def hJ(ps:List (Int×Int))(left:List Int)(e:ps.length<16777216)(a:left.length<16777216):Y0 2 1 (gN 2) (fB (f2 V0 (ZZ [1,2] 2 (YG (fV 0)) (E6 2 (aG (gN 2) (aG (gN 3) WI))) (M6 (fB (f2 V0 (fV 3) (fV 1))) (fB (f2 (ZN bb) (fV 2) (fO 0)))) (fC (.int 1))) (Y8 bH))) (fV 2) (left.map .int) [] [.va (.lst (ps.map Y1)),.ow (.lst (left.map .int))]=b3 ((left.filter λr=>rdD ps left (.int r)).map .int,[.va (.lst (ps.map Y1)),.ow (.lst (left.map .int))]):=by
 have:=LU 2 (fB (f2 V0 (ZZ [1,2] 2 (YG (fV 0)) (E6 2 (aG (gN 2) (aG (gN 3) WI))) (M6 (fB (f2 V0 (fV 3) (fV 1))) (fB (f2 (ZN bb) (fV 2) (fO 0)))) (fC (.int 1))) (Y8 bH))) (rdD ps left) (fV 2) id [.va (.lst (ps.map Y1)),.ow (.lst (left.map .int))] rfl (left.map .int) [] (λd b=>by
  obtain⟨r,_,rfl⟩:=Cv.mp b;refine⟨?_,λ_=>by simp⟩;have w:=m8 ps left r e;have c:V0 (.lst (((ps.map Y1).filter (pw left r)).map λ_=>cH.int 1)) (.lst [])=b3 (.bl (rdD ps left (.int r))):=by
   rw[o8 (j:=1) (k:=1) (WU λd b=>by obtain⟨_,_,rfl⟩:=Cv.mp b;exact X1) (WU YD),BS,List.isEmpty_map]
   rfl
  generalize ((ps.map Y1).filter (pw left r)).map (λ_=>cH.int 1)=W at*;generalize rdD ps left (.int r)=B at*;generalize left.map cH.int=L at*;generalize ps.map Y1=Q at*;simp[aI,w,c]) (by simpa using a)
 rw[this,List.filter_map];simp[Function.comp_def]
def nR(ns:List Int)(n:Nat)(c:cH)(ps:List (Int×Int))(left made:List Int)(s6:Sl)(hl:ns.length<=63)(F:n<800000)(h:left≠[])(g:left.Pairwise (· < ·))(i:∀p∈ps,p.1<p.2)(w:left.length<1000)(u:made.length<1000)(q:ps.length<10000):∃x∈left,(∀p∈ps,p.2=x->p.1∉left)/\∃e,ZA (ost ns n c ps left made s6)=b3 (.nx (ost ns (n+1) c ps (left.erase x) (made++[x]) e)):=by
 have o:=hJ ps left (by lia) (by lia);have B:0<((left.filter λr=>rdD ps left (.int r)).map cH.int).length:=by
  match left,h,g with
  |a::t,_,g=>
   have:a∈((a::t).filter λr=>rdD ps (a::t) (.int r)):=by
    refine Ie.mpr ⟨At,AI.mpr λp s y hi=>?_⟩;have h1:=i p s;rw[y]at h1;rcases Al.mp hi with z|z
    ·lia
    ·have:=(List.pairwise_cons.mp g).1 _ z
     lia
   rw[Bm];exact List.length_pos_of_mem this
 obtain⟨d,A,C⟩:=WE ns n ((left.filter λr=>rdD ps left (.int r)).map .int) hl (by lia) B;obtain⟨x,m,rfl⟩:=Cv.mp A;obtain⟨b,f⟩:=Ie.mp m;have v:=fY b;have j:=OB (made.map cH.int) (.int x);have k:made.length<16777216:=by lia
 refine⟨x,b,AI.mp f,.va (.lst ((left.filter λr=>rdD ps left (.int r)).map .int)),?_⟩;unfold ZA;simp only[ost,Cu,Bg,Ef];generalize (left.filter λr=>rdD ps left (.int r)).map cH.int=R at*;generalize (left.erase x).map cH.int=E at*;generalize left.map cH.int=L at*;generalize ps.map Y1=Q at*;have l:(made.map cH.int).length<16777216:=by simpa using k
 generalize made.map cH.int=D at*;simp[aI,o,C,v,j,l]
theorem dE(ns:List Int)(b:cH)(ps:List (Int×Int))(hl:ns.length<=63)(i:∀p∈ps,p.1<p.2)(g:ps.length<10000):∀(f n:Nat) (left made:List Int) (s6:Sl),left.length=f->n+f<700000->left.Pairwise (· < ·)->made.length+left.length<1000->(∀p∈ps,p.1∈made∨p.1∈left)->(∀p∈ps,∀k:Nat,made[k]?=b3 p.2->p.1∈made.take k)->∃(order:List Int) (c:Sl),order.Perm (made++left)/\(∀p∈ps,∀k:Nat,order[k]?=b3 p.2->p.1∈order.take k)/\Z0 (fB (f2 QE (fO 4) (Y8 bH))) ZA (f+1) (ost ns n b ps left made s6)=b3 (.nx (ost ns (n+f) b ps [] order c))
 |0,n,left,made,s6,m,y,o,A,h1,h2=>by
  have:left=[]:=Gf.mp m
  subst this;refine⟨made,s6,by simp,h2,LP ?_⟩;have e:QE (.lst []) (.lst [])=b3 (.bl bb):=by rw[Vx (j:=1) (k:=1) (WU YD) (WU YD),BS];rfl
  simp[ost,e]
 | f + 1,n,left,made,s6,m,y,o,A,h1,h2 => by
  have h:left≠[]:=λz=>by rw[z]at m;simp at m
  obtain⟨x,s,w,t,D⟩:=nR ns n b ps left made s6 hl (by lia) h o i (by lia) (by lia) g;have B:=List.length_erase_of_mem s;obtain⟨order,c,v,u,C⟩:=dE ns b ps hl i g f (n+1) (left.erase x) (made++[x]) t (by lia) (by lia) (o.sublist (List.erase_sublist)) (by simp;lia) (λp a=>by
   rcases h1 p a with z|z
   ·exact .inl (Db.mpr (.inl z))
   ·by_cases d:p.1=x
    ·exact .inl (by simp[d])
    ·exact .inr ((List.mem_erase_of_ne d).mpr z)) (λp a k l=>by
   by_cases r:k<made.length
   ·rw[Ar r]at l
    rw[Ea (by lia)];exact h2 p a k l
   ·have E:=(Ah.mp l).1
    simp at E;have:k=made.length:=by lia
    subst this;simp at l;have q:=w p a l.symm;rw[Sv];exact(h1 p a).resolve_right q)
  refine⟨order,c,?_,u,?_⟩
  ·refine v.trans ?_
   rw[Df,List.singleton_append];exact(List.perm_cons_erase s).symm.append_left made
  ·have e:QE (.lst (left.map .int)) (.lst [])=b3 (.bl ba):=by
    rw[Vx (j:=1) (k:=1) (WU (RQ left)) (WU YD),BS];cases left with
    |nil=>exact absurd rfl h
    |cons=>rfl
   rw[E2 (δ1:=ost ns n b ps left made s6) (by simp[ost,e]) D,C,show n+1+f=n+(f+1) by lia]
def oG{f:VF}{δ δ1:Ev}{j:Int}(h:f δ=b3 (.int j,δ1))(a:0<=j)(h1:j<=16777216):Q1 f δ=b3 (.lst (YR 0 j.toNat),δ1):=by unfold Q1;rw[h,Ap];exact if_pos ⟨a,h1⟩
def rgI(k:Nat):List Int:=(As k).map λi:Nat=>(i:Int)
def qZ(k:Nat):YR 0 k=(rgI k).map .int:=by simp[YR,rgI]
def AM{k:Nat}{a:Int}:a∈rgI k↔0<=a/\a<k:=by
 unfold rgI;rw[Cv];constructor
 ·rintro ⟨i,hi,rfl⟩
  have:=Dh.mp hi
  lia
 ·rintro ⟨b,h1⟩
  exact⟨a.toNat,Dh.mpr (by lia),by lia⟩
def CP(k:Nat):(rgI k).Pairwise (· < ·):=Ls _ (λa b h=>by lia) (List.pairwise_lt_range)
def GR(k:Nat):(rgI k).length=k:=by simp[rgI]
def fW(ns:List Int)(n:Nat){sure:Int}{rows:List cH}{kds:List Kd}(hl:ns.length<=63)(l:n<500000)(h:Bl [] rows kds)(b:rows.length<=10):∃(ps:List (Int×Int)) (order:List Int),Prs rows ps/\order.Perm (rgI rows.length)/\(∀p∈ps,∀k:Nat,order[k]?=b3 p.2->p.1∈order.take k)/\YS [YI ns,YQ n,.tup [.int sure,.tup rows]]=b3 (.lst (order.map .int),[YQ (n+rows.length)]):=by
 obtain⟨ps,P,f,em⟩:=iD (sure:=sure) h b;obtain⟨order,s6,d,c,e⟩:=dE ns (.tup [.int sure,.tup rows]) ps hl (λp a=>(P.lt p a).2.1) (by lia) rows.length n (rgI rows.length) [] .no (GR _) (by lia) (CP _) (by simp[GR];lia) (λp a=>.inr (AM.mpr ⟨(P.lt p a).1,by have:=P.lt p a;lia⟩)) (λp a k g=>by simp at g);refine⟨ps,order,P,by simpa using d,c,?_⟩;have e:=Q8 e;simp only[ost,Ef]at e;have i:Q1 (f1 YW (f2 bG (fV 2) (fC (.int 1)))) [.va (YI ns),.ow (YQ n),.va (.tup [.int sure,.tup rows]),.no,.no,.no,.no]=b3 (.lst ((rgI rows.length).map .int),[.va (YI ns),.ow (YQ n),.va (.tup [.int sure,.tup rows]),.no,.no,.no,.no]):=by rw[<-qZ,oG (j:=(rows.length:Int)) (δ1:=[.va (YI ns),.ow (YQ n),.va (.tup [.int sure,.tup rows]),.no,.no,.no,.no]) (by simp) (by lia) (by lia)];simp
 unfold YS;rw[bN,XY.eq_1];generalize (rgI rows.length).map cH.int=L at*;generalize order.map cH.int=O at*;generalize ps.map Y1=Q at*;simp[bF,em,i,e]
def ZR.strong{M:Int->Prop}{f:cH}(h:ZR M f):∃as:List Int,(∀a∈as,M a)/\ZR (· ∈as) f/\Y6 [f]=b3 (.lst (as.map .int),[]):=by
 cases h with
 | @number n e h1=>exact⟨[],(λ_ h=>nomatch h),.number e h1,by kernel_rfl⟩
 | @two x a b g d i=>
  refine⟨[a,b],by simp[d,i],.two g (by simp) (by simp),?_⟩;simp only[Al,Bi,or_false]at g;rcases g with rfl|rfl|rfl|rfl|rfl|rfl|rfl<;>kernel_rfl
 | @pick c a b hc d i=>exact⟨[c,a,b],by simp[hc,d,i],.pick (by simp) (by simp) (by simp),by kernel_rfl⟩
 | @load p e h1=>exact⟨[],(λ_ h=>nomatch h),.load e h1,by kernel_rfl⟩
 | @take p c a e h1 hc d=>exact⟨[c,a],by simp[hc,d],.take e h1 (by simp) (by simp),by kernel_rfl⟩
 | @store p a e h1 d=>exact⟨[a],by simp[d],.store e h1 (by simp),by kernel_rfl⟩
 | @put p a c e h1 d hc=>exact⟨[a,c],by simp[d,hc],.put e h1 (by simp) (by simp),by kernel_rfl⟩
def CO{as:List Int}{j:cH}(h:ZR (· ∈as) j){ks:List Z5}{vs:List cH}(e:Int->Int)(f:∀a∈as,aD ks vs (.inl a)=b3 (.int (e a))):∃l,a7 [j,.dct ks vs]=b3 (l,[])/\ZR (λb=>∃a∈as,b=e a) l/\L6 .w l=L6 .w j:=by
 cases h with
 | @number n g h1=>
  refine⟨_,?_,.number g h1,rfl⟩;unfold a7;rw[bN];unfold ZY;simp[bF]
 | @two x a b i d k=>
  have s:=(dne i (y:= "number") (by decide)).1;have r:=(dne i (y:= "load") (by decide)).2;have q:=(dne i (y:= "take") (by decide)).2;have o:=(dne i (y:= "store") (by decide)).2;have m:=(dne i (y:= "put") (by decide)).2;refine⟨.tup [.str x,.int (e a),.int (e b)],?_,.two i ⟨a,d,rfl⟩ ⟨b,k,rfl⟩,?_⟩
  ·unfold a7
   rw[bN];unfold ZY;simp[bF,s,r,q,o,m,aI,f a d,f b k]
  ·simp only[Al,Bi,or_false]at i
   rcases i with rfl|rfl|rfl|rfl|rfl|rfl|rfl<;>rfl
 | @pick c a b hc d k=>
  refine⟨.tup [.str "pick",.int (e c),.int (e a),.int (e b)],?_,.pick ⟨c,hc,rfl⟩ ⟨a,d,rfl⟩ ⟨b,k,rfl⟩,rfl⟩;unfold a7;rw[bN];unfold ZY;simp[bF,aI,f a d,f b k,f c hc]
 | @load p g h1=>
  refine⟨.tup [.str "load",.int p],?_,.load g h1,rfl⟩;unfold a7;rw[bN];unfold ZY;simp[bF,aI]
 | @take p c a g h1 hc d=>
  refine⟨.tup [.str "take",.int p,.int (e c),.int (e a)],?_,.take g h1 ⟨c,hc,rfl⟩ ⟨a,d,rfl⟩,rfl⟩;unfold a7;rw[bN];unfold ZY;simp[bF,aI,f a d,f c hc]
 | @store p a g h1 d=>
  refine⟨.tup [.str "store",.int p,.int (e a)],?_,.store g h1 ⟨a,d,rfl⟩,rfl⟩;unfold a7;rw[bN];unfold ZY;simp[bF,aI,f a d]
 | @put p a c g h1 d hc=>
  refine⟨.tup [.str "put",.int p,.int (e a),.int (e c)],?_,.put g h1 ⟨a,d,rfl⟩ ⟨c,hc,rfl⟩,rfl⟩;unfold a7;rw[bN];unfold ZY;simp[bF,aI,f a d,f c hc]
theorem Bl.at{kds e:List Kd}{rows:List cH}(h:Bl kds rows e):∀{j:Nat}{b:cH},rows[j]?=b3 b->ZR (λa=>Nm e .w a/\a<kds.length+j) b/\e[kds.length+j]?=b3 (L6 .w b)/\∀a,Nm kds .w a->Nm e .w a:=by
 have keep:∀{k k':List Kd}{g:List cH},Bl k g k'->∀(i:Nat) (x:Kd),k[i]?=b3 x->k'[i]?=b3 x:=by
  intro k k' g h;induction h with
  |nil=>exact λ_ _ z=>z
  |cons _ _ f=>exact λi x z=>f i x (by rw[Ar (Ah.mp z).1];exact z)
 induction h with
 |nil=>intro j b d;simp at d
 | @cons kds e r rows a t f=>
  intro j b d;cases j with
  |zero=>
   simp at d;subst d;refine⟨a.imp λx c=>⟨⟨c.1,keep t _ _ (c.snoc (j:=L6 .w r)).2⟩,by have:=c.lt;lia⟩,keep t _ _ (by simp),λx c=>⟨c.1,keep t _ _ (c.snoc (j:=L6 .w r)).2⟩⟩
  |succ j=>
   obtain⟨h1,h2,l⟩:=f (by simpa using d);rw[Cc,Jq]at h1 h2;refine⟨h1.imp λx c=>⟨c.1,by have:=c.2;lia⟩,by rw[show kds.length+(j+1)=kds.length+1+j by lia];exact h2,λx c=>l x c.snoc⟩
noncomputable def swD:cH->cH
 |.tup [a,b]=>.tup [b,a]
 |_=>.non
noncomputable def kvz:Nat->List Int->List (Z5×cH)
 |_,[]=>[]
 |k,x::xs=>(.inl x,.int (k:Int))::kvz (k+1) xs
theorem DS:∀(xs:List Int) (k:Nat),OQ ((XW k (xs.map .int)).map swD)=b3 (kvz k xs)
 |[],_=>rfl
 |x::xs,k=>by rw[Bg,NA,Bg];show(kprD (.tup [.int x,.int (k:Int)])).bind (λp=>(OQ ((XW (k+1) (xs.map .int)).map swD)).map λps=>p::ps)=_;rw[DS xs (k+1)];rfl
theorem L5:∀(xs:List Int) (k:Nat),(kvz k xs).map Bw=xs.map .inl
 |[],_=>rfl
 |x::xs,k=>by rw[kvz,Bg,L5 xs (k+1)];rfl
theorem Zg:∀(xs:List Int) (k i:Nat),i<xs.length->((kvz k xs).map Cz)[i]?=b3 (.int ((k+i:Nat):Int))
 |[],_,i,h=>by simp at h
 |x::xs,k,0,_=>rfl
 |x::xs,k,i+1,h=>by
  have:=Zg xs (k+1) i (by simpa using h)
  rw[kvz,Bg,List.getElem?_cons_succ,this];congr 3;lia
def gS{order:List Int}(c:order.Nodup){a:Int}(d:a∈order):aD ((kvz 0 order).map Bw) ((kvz 0 order).map Cz) (.inl a)=b3 (.int (order.idxOf a:Int)):=by
 have hi:order.idxOf a<order.length:=Ks d;rw[DY _ _ (order.idxOf a) (.inl a) ?_ (by simp) ?_,Zg _ _ _ hi]
 ·simp
 ·rw[L5]
  exact Ls _ (λa b h e=>h (by injection e)) c
 ·rw[L5,Bt,Bx hi,Px hi]
  rfl
def SW(rows:List cH)(r:Int):cH:=(rows[r.toNat]?).getD .non
noncomputable def CN(rows:List cH)(names:cH):cH->cH
 |.int r=>match a7 [SW rows r,names]with
  |some (d,_)=>d
  |none=>.non
 |_=>.non
def AJ{rows os:List cH}{names a:cH}{r:Int}(e:a7 [SW rows r,names]=b3 (a,os)):CN rows names (.int r)=a:=by simp only[CN,e]
def FM(order:List Int):cH:=.dct ((kvz 0 order).map Bw) ((kvz 0 order).map Cz)
def dL{rows:List cH}{kds:List Kd}(o:Bl [] rows kds){ps:List (Int×Int)}(P:Prs rows ps){order:List Int}(s:order.Perm (rgI rows.length))(x:∀p∈ps,∀k:Nat,order[k]?=b3 p.2->p.1∈order.take k){c rest:List Int}{r:Int}(g:order=c++r::rest):∃j,a7 [SW rows r,FM order]=b3 (j,[])/\SJ rows r=b3 (SW rows r)/\ZR (Nm (c.map λa=>L6 .w (SW rows a)) .w) j/\L6 .w j=L6 .w (SW rows r):=by
 have y:order.Nodup:=s.nodup_iff.mpr ((CP _).imp λh=>by lia);have z:r∈order:=by rw[g];simp
 have l:=AM.mp (s.mem_iff.mp z);have q:rows[r.toNat]?=b3 (SW rows r):=by unfold SW;rw[Bx (by lia)];rfl
 obtain⟨h1,h2,_⟩:=o.at q;obtain⟨as,v,E,D⟩:=h1.strong;have u:∀a∈as,a∈c:=λa d=>by
  have f:=v a d;have F:a<r:=by have:=f.2;simp at this;lia
  have A:=P.nm r.toNat _ as q D a d f.1.1 (by lia);have:=x _ A c.length (by rw[g];simp;lia)
  rw[g,Sv]at this;exact this
 obtain⟨j,e,ok,mk⟩:=CO E (ks:=(kvz 0 order).map Bw) (vs:=(kvz 0 order).map Cz) (λa=>(order.idxOf a:Int)) (λa d=>gS y (by rw[g];exact Db.mpr (.inl (u a d))));refine⟨j,e,by rw[TK l.1 (by lia)];exact q,ok.imp λb n=>?_,mk⟩;obtain⟨a,d,rfl⟩:=n;have i:=u a d;have hi:c.idxOf a<c.length:=Ks i;have m:order.idxOf a=c.idxOf a:=by rw[g,List.idxOf_append,if_pos i]
 refine⟨by lia,?_⟩;rw[m,Ha,Bt,Bx hi,Px hi];have f:=(v a d).1;have B:=f.lt;have G:kds.length=rows.length:=by simpa using o.len
 have C:rows[a.toNat]?=b3 (SW rows a):=by unfold SW;rw[Bx (by have:=f.1;lia)];rfl
 obtain⟨_,t,_⟩:=o.at C;simp only[Mw,Jn]at t;have:=f.2
 rw[t]at this;injection this with this;rw[So,this]
theorem Zx{rows:List cH}{kds:List Kd}(g:Bl [] rows kds){ps:List (Int×Int)}(P:Prs rows ps){order:List Int}(f:order.Perm (rgI rows.length))(d:∀p∈ps,∀k:Nat,order[k]?=b3 p.2->p.1∈order.take k):∀(rest b:List Int),order=b++rest->Bl (b.map λa=>L6 .w (SW rows a)) ((rest.map .int).map (CN rows (FM order))) (order.map λa=>L6 .w (SW rows a))
 |[],b,c=>by rw[c,Dk];exact .nil
 |r::rest,b,c=>by obtain⟨j,e,_,ok,mk⟩:=dL g P f d c;have i:=AJ e;have h:=Zx g P f d rest (b++[r]) (by rw[c,Df];rfl);rw[Bg,Bg,i];refine .cons ok ?_;rw[mk];simpa using h
def l8(ns:List Int)(n:Nat)(c:Int)(hl:ns.length<=63)(hn:n<100000)(h0:0<=c)(U:c<=10):∃(sure:Int) (rows:List cH) (kds:List Kd) (t:Nat),Bl [] rows kds/\(rows.length:Int)<=c/\0<=sure/\sure<=64/\t<=n+1000/\X9 [YI ns,YQ n,.int c]=b3 (.tup [.int sure,.tup rows],[YQ t]):=by
 obtain⟨x,v,ex⟩:=WE ns n [.int 3,.int 6,.int 9,.int 64] hl (by lia) (by simp);obtain⟨f,rfl,K,J⟩:∃q:Int,x=.int q/\0<q/\q<=64:=by simp only[Al,Bi,or_false]at v;rcases v with rfl|rfl|rfl|rfl<;>exact⟨_,rfl,by lia,by lia⟩
 have G:=V8 ns (n+1) (f+1) hl (by lia) (by lia);have d1a:=J8 ns (n+1) (b:=f+1) (by lia);have Z:E5 ns (n+1) (f+1)<f+1:=Ez _ (by lia);obtain⟨y,u,A⟩:=WE ns (n+2) [.int 0,.int f,.int f,.int (E5 ns (n+1) (f+1))] hl (by lia) (by simp);obtain⟨sure,rfl,s0,s1⟩:∃q:Int,y=.int q/\0<=q/\q<=64:=by simp only[Al,Bi,or_false]at u;rcases u with rfl|rfl|rfl|rfl<;>exact⟨_,rfl,by lia,by lia⟩
 have F:=V8 ns (n+3) (c+1) hl (by lia) (by lia);have p:=J8 ns (n+3) (b:=c+1) (by lia);have Y:E5 ns (n+3) (c+1)<c+1:=Ez _ (by lia);obtain⟨rows,kds,g,l,ag,m1,m2,C⟩:=lp ns (n+4) (E5 ns (n+3) (c+1)) f hl (by lia) K J p (by lia);have E:=V8 ns g 3 hl (by lia) (by decide);have m:rows.length<=10:=by lia
 by_cases w:0<E5 ns g 3
 ·refine ⟨sure,rows,kds,g + 1,l,by lia,s0,s1,by lia,?_⟩
  unfold X9;rw[bN];unfold U4;simp[bF,ex,G,A,F,C,E,w]
 ·obtain ⟨ps,order,P,k,s,X⟩ := fW ns (g + 1) (sure := sure) hl (by lia) l m
  have O:order.length=rows.length:=by rw[k.length_eq,GR]
  have M:order.Nodup:=k.nodup_iff.mpr ((CP _).imp λh=>by lia);have I:=OG 0 X7 (λ_=>ba) (ZT (cA (fV 1) (cA (fV 0) bH))) swD [] rfl (XW 0 (order.map .int)) [] (λd j=>by obtain⟨i,hi,e⟩:=List.getElem_of_mem j;obtain⟨z,_,rfl⟩:=J9 (Ah.mpr ⟨hi,e⟩);exact⟨_,_,rfl,by simp,λ_=>by simp[swD]⟩) (by rw[KA];simp;lia)
  have f1:(XW 0 (order.map cH.int)).filter (λ_=>ba)=XW 0 (order.map .int):=List.filter_eq_self.mpr λ_ _=>rfl;rw[f1,Fk]at I;have j:Vq (.lst ((XW 0 (order.map .int)).map swD))=b3 (FM order):=by
   show(OQ ((XW 0 (order.map .int)).map swD)).bind (λkds=>if(kds.map Bw).Nodup then b3 (cH.dct (kds.map Bw) (kds.map Cz))else b4)=_;rw[DS,Ap,if_pos]
   ·rfl
   ·rw[L5]
    exact Ls _ (λa b h e=>h (by injection e)) M
  have H:=J7 2 (bZ 2 [] a7 (aE (f2 bG (f2 bG (fV 0) (fC (.int 1))) (fV 2)) (aE (fV 1) bT))) [.va (.tup [.int sure,.tup rows]),.va (FM order)] (CN rows (FM order)) rfl (order.map .int) [] (λd j=>by obtain⟨r,N,rfl⟩:=Cv.mp j;obtain⟨L,rest,Q⟩:=List.append_of_mem N;obtain⟨bq,e,W,_,_⟩:=dL l P k s Q;have V:=AJ e;rw[V];simp[W,e]) (by simp;lia)
  rw[Fk]at H;have B:=Zx l P k s order [] rfl;refine⟨sure,(order.map .int).map (CN rows (FM order)),_,g+1+rows.length,B,by simp;lia,s0,s1,by lia,?_⟩;have o:¬0<E5 ns g 3:=w;unfold X9;rw[bN];unfold U4;have T:((order.map cH.int).map (CN rows (FM order))).length<=16777216:=by simp;lia
  generalize (order.map cH.int).map (CN rows (FM order))=R at*;generalize (XW 0 (order.map cH.int)).map swD=S at*;generalize FM order=D at*;simp[bF,ex,G,A,F,C,E,o,X,aI,I,j,H]
noncomputable def ID:List cH:=[.non,.int 5,.tup [],.tup [.int 0],.tup [.int 0,.lst []],.lst [.int 0,.tup []],.tup [.int (-1),.tup []],.tup [.int 65,.tup []],.tup [.bl ba,.tup []],.tup [.str "0",.tup []],.tup [.int 0,.tup [],.tup []],.tup [.int 0,.tup [.tup []]],.tup [.int 0,.tup [.tup [.str "number"]]],.tup [.int 0,.tup [.tup [.str "number",.int 1000]]],.tup [.int 0,.tup [.tup [.str "plus",.int 0,.int 0]]],.tup [.int 0,.tup [.lst [.str "load",.int 0]]],.tup [.int 0,.tup [.tup [.str "load",.int 64]]],.tup [.int 0,.tup [.tup [.str "load",.int (-1)]]],.tup [.int 0,.tup [.tup [.str "halve",.int 0]]],.tup [.int 0,.tup [.tup [.int 5,.int 0]]],.tup [.int 0,.tup [.tup [.str "number",.int 1],.tup [.str "store",.int 0,.int 0],.tup [.str "plus",.int 0,.int 1]]],.tup [.int 0,.tup (Az 41 (.tup [.str "number",.int 1]))],.tup [.int 0,.tup [.tup [.str "number",.int 1],.tup [.str "plus",.int 0,.int 1]]]]
def lS(a b:cH):P4 [.va a,.ow b,.no]=bE (bZ 3 [1] Z6 (aE (fV 0) (aO 1 (aE (fV 2) bT)))) [.va a,.ow b,.va (.lst ID)]:=by kernel_rfl
def OT(ns:List Int)(n:Nat)(hl:ns.length<=63)(b:n<900000):∃x∈ID,VD [YI ns,YQ n]=b3 (x,[YQ (n+1)]):=by obtain⟨x,a,ex⟩:=WE ns n ID hl b (by simp[ID]);refine⟨x,a,?_⟩;unfold VD;rw[bN,show bF [1] 3 [YI ns,YQ n]=[.va (YI ns),.ow (YQ n),.no] from rfl,lS];simp[ex]
noncomputable def isW:Kd->Bool
 |.w=>ba
 |_=>bb
def li{kds:List Kd}{a:Int}(h:Nm kds .w a):Ab (kds.map isW) a:=⟨h.1,by rw[Bt,h.2];rfl⟩
def mkw{x:String}{t:List cH}:V2 [.tup (.str x::t)]=b3 (.bl (isW (L6 .w (.tup (.str x::t)))),[]):=by
 unfold V2;rw[bN];unfold TY;by_cases h:x= "store"
 ·subst h
  simp[bF,VY,L6,ZL,isW]
 ·by_cases h2:x= "put"
  ·subst h2
   simp[bF,VY,L6,ZL,isW]
  ·have b : ¬ "store" = x := λz => h z.symm
   have a:¬ "put"=x:=λz=>h2 z.symm;simp[bF,VY,L6,ZL,isW,h,h2,b,a]
def mo(rest:List cH)(c b:cH)(sure:Int){kds i:List Kd}{rows:List cH}(h:Bl kds rows i):kds.length+rows.length<1000->∀s:Sl,∃s',V9 (gN 4) XU (rows++rest) [.va c,.va (.int sure),.va b,.ow (.lst ((kds.map isW).map .bl)),s]=V9 (gN 4) XU rest [.va c,.va (.int sure),.va b,.ow (.lst ((i.map isW).map .bl)),s']:=by
 induction h with
 |nil=>exact λ_ s=>⟨s,rfl⟩
 | @cons kds i f rows ok h d=>
  intro j s;obtain⟨s',d⟩:=d (by simp at j⊢;lia) (.va f);refine⟨s',?_⟩;have e:=gE (ok.imp λa=>li);obtain⟨x,t,rfl,_⟩:=R0 ok;have g:kds.length<16777216:=by simp at j;lia
  rw[Cu,Cu]at d;simp only[Bg,Ef]at d;rw[Jv,NB,gN_e,IL];have k:XU [.va c,.va (.int sure),.va b,.ow (.lst ((kds.map isW).map .bl)),.va (.tup (.str x::t))]=b3 (.nx [.va c,.va (.int sure),.va b,.ow (.lst ((kds.map isW).map .bl++[.bl (isW (L6 .w (.tup (.str x::t))))])),.va (.tup (.str x::t))]):=by unfold XU;simp only[Lc]at e;simp[e,mkw,g,cH.hard]
  have s1:([.va c,.va (.int sure),.va b,.ow (.lst ((kds.map isW).map .bl)),s]:Ev).set 4 (.va (.tup (.str x::t)))=[.va c,.va (.int sure),.va b,.ow (.lst ((kds.map isW).map .bl)),.va (.tup (.str x::t))]:=rfl;rw[s1,k,IM];exact d
def BU{sure:Int}{rows:List cH}{kds:List Kd}(h:Bl [] rows kds)(s0:0<=sure)(s1:sure<=64)(c:rows.length<=40):ZD [.tup [.int sure,.tup rows]]=b3 (.bl ba,[]):=by
 obtain⟨s',b⟩:=mo [] (.tup [.int sure,.tup rows]) (.tup rows) sure h (by simp;lia) .no;rw[Dk]at b;simp only[Ef]at b;have a:¬(40:Int)<(rows.length:Int):=by lia
 unfold ZD;rw[bN,PZ.eq_1];simp[bF,MN,MM,s0,s1,a,b]
abbrev rf(k:Int):cH:=.tup [.str "refused",.int k]
abbrev Bk(sure:Int)(rows:List cH):cH:=.tup [.int sure,.tup rows]
def Wh{δ:Ev}:AF δ b4=b4:=(rfl)
def CL:qRet b4=b4:=(rfl)
def qS_0{g:VS}:qS b4 g=b4:=(rfl)
def K9{ml:List Nat}:qRun ml b4=b4:=(rfl)
def pl3{a b c:cH}:U6 [.d a,.d b,.d c]=b3 [a,b,c]:=(rfl)
def pl2{a b:cH}:U6 [.d a,.d b]=b3 [a,b]:=(rfl)
def rep1(k:Nat)(d:cH):U0 k [d]=Az k d:=by
 unfold U0;induction k with
 |zero=>rfl
 |succ k a=>rw[Ed,Gb,a,Ed];rfl
def AK(d:cH)(k:Int)(a:0<=k)(h1:k<=64):UN (.lst [d]) (.int k)=b3 (.lst (Az k.toNat d)):=by simp only[UN];rw[if_pos ⟨⟨a,by lia⟩,by simp;lia⟩,rep1]
def B7:ID.map (λx=>(bY [.int 0,x,.non,.non],bY [.int 1,x,.non,.non],bY [.int 2,x,.non,.non],bY [.int 3,x,.non,.non],bY [.int 4,x,.non,.non]))=Az 23 (b3 (rf 0,[]),b3 (rf 0,[]),b3 (rf 0,[]),b3 (rf 0,[]),b3 (rf 0,[])):=by kernel_rfl
def RG{x:cH}(a:x∈ID):(bY [.int 0,x,.non,.non],bY [.int 1,x,.non,.non],bY [.int 2,x,.non,.non],bY [.int 3,x,.non,.non],bY [.int 4,x,.non,.non])=(b3 (rf 0,[]),b3 (rf 0,[]),b3 (rf 0,[]),b3 (rf 0,[]),b3 (rf 0,[])):=
 List.eq_of_mem_replicate (B7▸Op a)
section
variable{b w p:cH}{c:Uv}{k:Int}
def kE(h1:bB [b,w,p]=b4)(h2:aW [b,w,p]=b3 ((c,b4):Xw)):(WX [b,w,p]=b4/\VH [b,w,p]=b3 ((c,b4):Xw))/\(QW [b,w,p]=b4/\TJ [b,w,p]=b3 ((c,b4):Xw))/\(M3 [b,w,p]=b4/\PN [b,w,p]=b3 ((c,b4):Xw))/\VW [b,w,p]=b4/\W3 [b,w,p]=b3 ((c,b4):Xw):=by
 refine⟨⟨?_,?_⟩,⟨?_,?_⟩,⟨?_,?_⟩,?_,?_⟩
 ·unfold WX
  rw[bN];unfold TU;simp[bF,h1];rfl
 ·unfold VH VN QI
  simp[bF,h2,YT,pl3]
 ·unfold QW
  rw[bN];unfold LY;simp[bF,h1];rfl
 ·unfold TJ VN MA
  simp[bF,h2,UC,YT,pl3]
 ·unfold M3
  rw[bN];unfold FU;simp[bF,h1];rfl
 ·unfold PN VN G5
  simp[bF,h2,UC,YT,pl3]
 ·unfold VW
  rw[bN];unfold Q3;simp[bF,h1];rfl
 ·unfold W3 VN RB
  simp[bF,h2,UC,YT,pl3]
def cK(hc:WN [FN (c,b4)]=b3 (rf k,[]))(a:¬c= "NotValid")(d:c= "NoBlock" ∨c= "NoLanes" ∨c= "NoPlan")(h1:bB [b,w,p]=b4)(h2:aW [b,w,p]=b3 ((c,b4):Xw)):bY [.int 1,b,w,p]=b3 (rf k,[])/\bY [.int 2,b,w,p]=b3 (rf k,[])/\bY [.int 3,b,w,p]=b3 (rf k,[])/\bY [.int 4,b,w,p]=b3 (rf k,[]):=by
 obtain⟨⟨m,l⟩,⟨j,i⟩,⟨h,g⟩,f,e⟩:=kE h1 h2;have a4:SJ [cH.fn "is_plan",.fn "is_valid",.fn "order",.fn "cost",.fn "lowered"] 4=b3 (.fn "lowered"):=by kernel_rfl
 refine⟨?_,?_,?_,?_⟩<;>
 ·unfold bY
  rw[bN];unfold W7;simp[bF,LG,MX,RL,NV,QO,R7,ZL,YT,m,l,j,i,h,g,f,e,a4,hc,a,d,Wh,CL,pl3]
end
section
variable{b w p:cH}
def pC(a:ZD [b]=b3 (.bl ba,[]))(hl:YO [w]=b3 (.bl bb,[])):a6 [b,w]=b4/\a8 [b,w]=b3 ((("NoLanes":Uv),b4):Xw):=by
 constructor
 ·unfold a6
  rw[bN];unfold WT;simp[bF,a,hl,K9]
 ·unfold a8 VN WW
  simp[bF,a,hl,UC,C8,QT,zNo]
def lD(h:a6 [b,w]=b4/\a8 [b,w]=b3 ((("NoLanes":Uv),b4):Xw)):bB [b,w,p]=b4/\aW [b,w,p]=b3 ((("NoLanes":Uv),b4):Xw):=by
 constructor
 ·unfold bB
  rw[bN];unfold XX;simp[bF,h.1];rfl
 ·unfold aW VN X6
  simp[bF,h.2,UC,YT,pl2]
def Zb(a:ZD [b]=b3 (.bl ba,[]))(hl:YO [w]=b3 (.bl ba,[])):a6 [b,w]=b3 (.non,[])/\a8 [b,w]=b4:=by
 constructor
 ·unfold a6
  rw[bN];unfold WT;simp[bF,a,hl]
 ·unfold a8 VN WW
  simp[bF,a,hl,UC,C8,QT,zNo]
def nk(h:a6 [b,w]=b3 (.non,[])/\a8 [b,w]=b4)(a:aQ [b,w,p]=b3 (.bl bb,[])):bB [b,w,p]=b4/\aW [b,w,p]=b3 ((("NoPlan":Uv),b4):Xw):=by
 constructor
 ·unfold bB
  rw[bN];unfold XX;simp[bF,h.1,a,K9]
 ·unfold aW VN X6
  simp[bF,h.1,h.2,a,UC,YT,C8,QT,zNo,pl2]
def FJ(h:a6 [b,w]=b3 (.non,[])/\a8 [b,w]=b4)(a:aQ [b,w,p]=b3 (.bl ba,[])):bB [b,w,p]=b3 (.non,[])/\aW [b,w,p]=b4:=by
 constructor
 ·unfold bB
  rw[bN];unfold XX;simp[bF,h.1,a]
 ·unfold aW VN X6
  simp[bF,h.1,h.2,a,UC,YT,C8,QT,zNo,pl2]
def oY(h:a6 [b,w]=b4/\a8 [b,w]=b3 ((("NoLanes":Uv),b4):Xw)):bY [.int 0,b,w,p]=b3 (rf 3,[]):=by
 have c:VV [b,w,p]=b4:=by unfold VV;rw[bN];unfold Q2;simp[bF,h.1];rfl
 have a:UF [b,w,p]=b3 ((("NoLanes":Uv),b4):Xw):=by unfold UF VN NW;simp[bF,h.2,YT,pl2]
 have hc:WN [FN (("NoLanes":Uv),b4)]=b3 (rf 3,[]):=by kernel_rfl
 unfold bY;rw[bN];unfold W7;simp[bF,LG,MX,RL,NV,QO,R7,ZL,YT,c,a,hc,Wh,CL,pl3]
def kY{x:Bool}(h:a6 [b,w]=b3 (.non,[])/\a8 [b,w]=b4)(c:aQ [b,w,p]=b3 (.bl x,[])):bY [.int 0,b,w,p]=b3 (.bl x,[]):=by
 have a:VV [b,w,p]=b3 (.bl x,[]):=by unfold VV;rw[bN];unfold Q2;simp[bF,h.1,c]
 unfold bY;rw[bN];unfold W7;simp[bF,LG,MX,RL,QO,ZL,a]
end
section
variable{sure:Int}{rows:List cH}
def len2{ds:List cH}(h:ds.length≠2)(hz:ds.length<=3):ZM [Bk sure rows,.int 2,.tup ds]=b3 (.bl bb,[]):=by
 have:¬(ds.length:Int)=2:=by lia
 unfold ZM;rw[bN];unfold UH;simp[bF,this]
def Yu{i:Int}:ZM [Bk sure rows,.int 2,.int i]=b3 (.bl bb,[]):=by kernel_rfl
def K6{d e:cH}{x y:Bool}(c:aR [d,.int 0,.int ((rows.length:Int)-1)]=b3 (.bl x,[]))(b:aR [e,.int 0,.int ((rows.length:Int)-1)]=b3 (.bl y,[]))(a:(x&&y)=bb):ZM [Bk sure rows,.int 2,.tup [d,e]]=b3 (.bl bb,[]):=by
 unfold ZM;rw[bN];unfold UH;cases x<;>cases y<;>first
  |(cases a;done)
  |simp[bF,c,b,aI,ZO]
def oK{x:String}{t a:List cH}:ZM [Bk sure (.tup (.str x::t)::a),.int 2,.tup [.int 0,.int 0]]=b3 (.bl bb,[]):=by
 have hw:aR [.int 0,.int 0,.int ((((.tup (.str x::t)::a:List cH).length:Nat):Int)-1)]=b3 (.bl ba,[]):=by
  rw[PL];have:(0:Int)<=((((.tup (.str x::t)::a:List cH).length:Nat):Int)-1):=by simp
  simp[this]
 have b:V3 [.tup (.tup (.str x::t)::a),.int 0,.int 0]=b3 (.bl bb,[]):=by unfold V3;rw[bN];unfold T0;simp[bF]
 unfold ZM;rw[bN];unfold UH;generalize cH.tup (.str x::t)::a=R at*;simp[bF,hw,b,aI,ZO]
def FQ{d:cH}(a:d=.non∨(∃i,d=.int i)∨(∃s,d=.str s)∨∃l,d=.lst l):aQ [Bk sure rows,.int 2,d]=b3 (.bl bb,[]):=by
 rcases a with rfl|⟨b,rfl⟩|⟨s,rfl⟩|⟨l,rfl⟩<;>kernel_rfl
def RN{d:cH}(h:ZM [Bk sure rows,.int 2,d]=b3 (.bl bb,[])):aQ [Bk sure rows,.int 2,.tup [d]]=b3 (.bl bb,[]):=by unfold aQ;rw[bN];unfold U3;generalize Bk sure rows=b at*;simp[bF,h,aI,ZO]
def mJ{d e:cH}(h:ZM [Bk sure rows,.int 2,d]=b3 (.bl bb,[]))(h':ZM [Bk sure rows,.int 2,e]=b3 (.bl bb,[])):aQ [Bk sure rows,.int 2,.tup [d,e]]=b3 (.bl bb,[]):=by unfold aQ;rw[bN];unfold U3;generalize Bk sure rows=b at*;simp[bF,h,h',aI,ZO]
end
abbrev tI(p:List Int):cH:=.tup (p.map .int)
noncomputable abbrev kR:List cH:=[.tup [.str "load",.int 0],.tup [.str "load",.int 1],.tup [.str "store",.int 5,.int 0],.tup [.str "load",.int 5],.tup [.str "store",.int 6,.int 3],.tup [.str "store",.int 0,.int 1],.tup [.str "store",.int 1,.int 0]]
noncomputable abbrev kP:cH:=.lst [tI [0,2],tI [0,5],tI [0,6],tI [1,5],tI [1,6],tI [2,3],tI [3,4]]
abbrev kN(zs:List (List Int)):cH:=.lst (zs.map tI)
noncomputable abbrev z24:List (List Int):=[[0],[1],[2,4],[3],[5],[6]]
noncomputable abbrev z56:List (List Int):=[[0],[1],[2],[3],[4],[5,6]]
def qQ:TF [Bk 9 kR,.tup [tI [2,4]]]=b3 (kN z24,[]):=by kernel_rfl
def pF:TF [Bk 9 kR,.tup [tI [5,6]]]=b3 (kN z56,[]):=by kernel_rfl
def Yk:TC [Bk 9 kR]=b3 (kP,[]):=by kernel_rfl
abbrev w24:cH:=.dcn (G4 z24) [.lst [],.lst [],kN [[0],[3]],kN [[2,4]],kN [[0],[1]],kN [[0],[1]]]
abbrev w56:cH:=.dcn (G4 z56) [.lst [],.lst [],kN [[0]],kN [[2]],kN [[3]],kN [[0],[0],[1],[1]]]
def lb:TH [kP,kN z24]=b3 (w24,[]):=by kernel_rfl
def lz:TH [kP,kN z56]=b3 (w56,[]):=by kernel_rfl
noncomputable abbrev kW:VS:=T8 (fB (f2 oLt (f1 Ws (fO 3)) (f1 YW (fV 1)))) RH
abbrev kT(zs:List (List Int)):Sl:=.ow (.dcn (G4 zs) (zs.map λ_=>.bl ba))
def nr:kW [.va kP,.va (kN z24),.va w24,.ow (.dcn [] []),.no]=b3 (.rt .non [.va kP,.va (kN z24),.va w24,kT [[0],[1],[5],[6]],.va .non]):=Q8 (n:=6) (by kernel_rfl)
def ro:kW [.va kP,.va (kN z56),.va w56,.ow (.dcn [] []),.no]=b3 (.nx [.va kP,.va (kN z56),.va w56,kT z56,.va (tI [5,6])]):=Q8 (n:=8) (by kernel_rfl)
def mT:YK [kP,kN z24]=b3 (.non,[]):=by unfold YK;rw[bN];unfold WA;generalize a:kP=P;have w:=nr;have h:=lb;rw[a]at w h;simp[bF,h,w]
def jk:YK [kP,kN z56]=b3 (kN z56,[]):=by
 have l:CA (.dcn (G4 z56) [.bl ba,.bl ba,.bl ba,.bl ba,.bl ba,.bl ba])=b3 (kN z56):=by kernel_rfl
 unfold YK;rw[bN];unfold WA;generalize a:kP=P;have w:=ro;have h:=lz;rw[a]at w h;simp[bF,h,w,l]
def Yx:ZU [Bk 9 kR,.tup [tI [2,4]]]=b3 (.non,[]):=by have h1:=Yk;have h2:=qQ;have a:=mT;unfold ZU;rw[bN];unfold Q4;generalize Bk 9 kR=b at*;generalize kP=P at*;simp[bF,h1,h2,a]
def qb:ZU [Bk 9 kR,.tup [tI [5,6]]]=b3 (kN z56,[]):=by have h1:=Yk;have h2:=pF;have a:=jk;unfold ZU;rw[bN];unfold Q4;generalize Bk 9 kR=b at*;generalize kP=P at*;simp[bF,h1,h2,a]
def Vt:a6 [Bk 9 kR,.int 2]=b3 (.non,[])/\a8 [Bk 9 kR,.int 2]=b4:=Zb (by kernel_rfl) (by kernel_rfl)
def FR:aQ [Bk 9 kR,.int 2,.tup [tI [2,4]]]=b3 (.bl ba,[]):=by kernel_rfl
def jJ:aQ [Bk 9 kR,.int 2,.tup [tI [5,6]]]=b3 (.bl ba,[]):=by kernel_rfl
section
variable{b w p d:cH}{x:Bool}
def dZ(h1:bB [b,w,p]=b3 (.non,[]))(h2:ZU [b,p]=b3 (d,[]))(n:OU d .non=b3 (.bl x)):bY [.int 1,b,w,p]=b3 (.bl x,[]):=by
 have a:WX [b,w,p]=b3 (.bl x,[]):=by unfold WX;rw[bN];unfold TU;simp[bF,h1,h2,n]
 unfold bY;rw[bN];unfold W7;simp[bF,LG,MX,RL,QO,ZL,a]
def gI(h1:bB [b,w,p]=b3 (.non,[]))(h2:aW [b,w,p]=b4)(a:ZU [b,p]=b3 (.non,[])):bY [.int 2,b,w,p]=b3 (.tup [.str "not",p],[])/\bY [.int 3,b,w,p]=b3 (.tup [.str "not",p],[])/\bY [.int 4,b,w,p]=b3 (.tup [.str "not",p],[]):=by
 have i:QS .non .non=b3 (.bl ba):=by kernel_rfl
 have h:QW [b,w,p]=b4:=by unfold QW;rw[bN];unfold LY;simp[bF,h1,a,i,qS_0,K9]
 have g:TJ [b,w,p]=b3 ((("NotValid":Uv),b3 (("packs":Uv),p)):Xw):=by unfold TJ VN MA;simp[bF,h1,h2,a,i,UC,YT,QT,C8,U8,pl3]
 have f:M3 [b,w,p]=b4:=by unfold M3;rw[bN];unfold FU;simp[bF,h1,a,i,qS_0,K9]
 have e:PN [b,w,p]=b3 ((("NotValid":Uv),b3 (("packs":Uv),p)):Xw):=by unfold PN VN G5;simp[bF,h1,h2,a,i,UC,YT,QT,C8,U8,pl3]
 have d:VW [b,w,p]=b4:=by unfold VW;rw[bN];unfold Q3;simp[bF,h1,a,i,qS_0,K9]
 have c:W3 [b,w,p]=b3 ((("NotValid":Uv),b3 (("packs":Uv),p)):Xw):=by unfold W3 VN RB;simp[bF,h1,h2,a,i,UC,YT,QT,C8,U8,pl3]
 have a4:SJ [cH.fn "is_plan",.fn "is_valid",.fn "order",.fn "cost",.fn "lowered"] 4=b3 (.fn "lowered"):=by kernel_rfl
 refine⟨?_,?_,?_⟩<;>
 ·unfold bY
  rw[bN];unfold W7;simp[bF,LG,MX,RL,NV,QO,R7,ZL,YT,h,g,f,e,d,c,a4,Wh,CL,pl3,FN,F9]
end
def jz:bY [.int 1,Bk 9 kR,.int 2,.tup [tI [5,6]]]=b3 (.bl ba,[]):=dZ (FJ Vt jJ).1 qb (by kernel_rfl)
def gG:bY [.int 1,Bk 9 kR,.int 2,.tup [tI [2,4]]]=b3 (.bl bb,[]):=dZ (FJ Vt FR).1 Yx (by kernel_rfl)
def lH:bY [.int 2,Bk 9 kR,.int 2,.tup [tI [2,4]]]=b3 (.tup [.str "not",.tup [tI [2,4]]],[])/\bY [.int 3,Bk 9 kR,.int 2,.tup [tI [2,4]]]=b3 (.tup [.str "not",.tup [tI [2,4]]],[])/\bY [.int 4,Bk 9 kR,.int 2,.tup [tI [2,4]]]=b3 (.tup [.str "not",.tup [tI [2,4]]],[]):=gI (FJ Vt FR).1 (FJ Vt FR).2 Yx
noncomputable def gl1:VS:=(aL 1 (xO (Y8 bH)))
noncomputable def gl2:VS:=(XS (fB (f2 QE (ZZ [0,1] 1 (iR1 (fC (.int 5))) (gN 2) X7 (bZ 4 [] bY (aE (fV 2) (aE (bZ 2 [1] VD (aE (fV 0) (aO 1 bT))) (aE (fC .non) (aE (fC .non) bT)))))) (f2 UN (fC (.lst [.tup [.str "refused",.int 0]])) (fC (.int 5))))) (bE (fC (.bl bb))) Z2)
noncomputable def gl3:VS:=(aL 2 (xV (bZ 3 [1] X9 (aE (fV 0) (aO 1 (aE (fC (.int 8)) bT))))))
noncomputable def gl4:VS:=(MI (YG (fC (.lst [.non,.int 1,.int 5,.str "2",.bl ba,.lst [.int 2],.tup [.int 2]]))) (gN 3) OC)
noncomputable def gl5:VS:=(aL 4 (xV (f1 YW (f2 bG (fV 2) (fC (.int 1))))))
noncomputable def gl6:VS:=(aL 5 (xV (Y8 (cA (fC .non) (cA (fC (.int 5)) (cA (Y8 bH) (cA (fC (.str "")) (cA (fC (.tup [.tup []])) (cA (fC (.tup [.tup [.int 0]])) (cA (fC (.tup [.tup [.str "0",.str "1"]])) (cA (fC (.tup [.tup [.int 0,.non]])) (cA (ZT (cA (ZT (cA (fC (.int 0)) (cA (fV 4) bH))) bH)) (cA (fC (.tup [.tup [.int (-1),.int 0]])) (cA (ZT (cA (fC (.int 0)) (cA (fC (.int 1)) bH))) (cA (fC (.tup [.tup [.int 0,.int 0]])) bH)))))))))))))))
noncomputable def gl7:VS:=(aL 6 (xV (bZ 3 [1] Z6 (aE (fV 0) (aO 1 (aE (fV 5) bT))))))
noncomputable def gl8:VS:=(XS (fB (f2 RW (bZ 4 [] bY (aE (fC (.int 0)) (aE (fV 2) (aE (fC (.int 2)) (aE (fV 6) bT))))) (fC (.bl bb)))) (bE (fC (.bl bb))) Z2)
noncomputable def gl9:VS:=(XS (fB (f2 QE (ZZ [2,6] 1 (iR2 (fC (.int 1)) (fC (.int 5))) (gN 2) X7 (bZ 4 [] bY (aE (fV 2) (aE (fV 0) (aE (fC (.int 2)) (aE (fV 1) bT)))))) (f2 UN (fC (.lst [.tup [.str "refused",.int 4]])) (fC (.int 4))))) (bE (fC (.bl bb))) Z2)
noncomputable def gl10:VS:=(aL 7 (xV (fC (.tup [.tup [.str "load",.int 0],.tup [.str "load",.int 1],.tup [.str "store",.int 5,.int 0],.tup [.str "load",.int 5],.tup [.str "store",.int 6,.int 3],.tup [.str "store",.int 0,.int 1],.tup [.str "store",.int 1,.int 0]]))))
noncomputable def gl11:VS:=(aL 8 (xV (ZT (cA (fC (.int 9)) (cA (fV 7) bH)))))
noncomputable def gl12(p q:cH):VS:=(XS (FC (fB (f2 RW (bZ 4 [] bY (aE (fC (.int 1)) (aE (fV 8) (aE (fC (.int 2)) (aE (fC p) bT))))) (fC (.bl bb)))) (fB (f2 RW (bZ 4 [] bY (aE (fC (.int 1)) (aE (fV 8) (aE (fC (.int 2)) (aE (fC q) bT))))) (fC (.bl ba))))) (bE (fC (.bl bb))) Z2)
noncomputable def gl13(p d:cH):VS:=(bE (f2 V0 (ZZ [8] 1 (YG (ZT (cA (fC (.int 2)) (cA (fC (.int 3)) (cA (fC (.int 4)) bH))))) (gN 1) X7 (bZ 4 [] bY (aE (fV 1) (aE (fV 0) (aE (fC (.int 2)) (aE (fC p) bT)))))) (f2 UN (fC (.lst [d])) (fC (.int 3)))))
def eV:Xg=bV gl1 (bV gl2 (bV gl3 (bV gl4 (bV gl5 (bV gl6 (bV gl7 (bV gl8 (bV gl9 (bV gl10 (bV gl11 (bV (gl12 (.tup [.tup [.int 2,.int 4]]) (.tup [.tup [.int 5,.int 6]])) (gl13 (.tup [.tup [.int 2,.int 4]]) (.tup [.str "not",.tup [.tup [.int 2,.int 4]]]))))))))))))):=rfl
section
variable{p q d C:cH}{s0 s1 s2 s3 s4 s5 s6 s7:Sl}
def jB(a:bY [.int 1,C,.int 2,p]=b3 (.bl bb,[]))(b:bY [.int 1,C,.int 2,q]=b3 (.bl ba,[])):gl12 p q [s0,s1,s2,s3,s4,s5,s6,s7,.va C]=b3 (.nx [s0,s1,s2,s3,s4,s5,s6,s7,.va C]):=by have d:RW (.bl bb) (.bl bb)=b3 (.bl bb):=rfl;have c:RW (.bl ba) (.bl ba)=b3 (.bl bb):=rfl;unfold gl12;simp[a,b,d,c]
def jA(h:bY [.int 2,C,.int 2,p]=b3 (d,[])/\bY [.int 3,C,.int 2,p]=b3 (d,[])/\bY [.int 4,C,.int 2,p]=b3 (d,[]))(e:V0 (.lst [d,d,d]) (.lst [d,d,d])=b3 (.bl ba)):gl13 p d [s0,s1,s2,s3,s4,s5,s6,s7,.va C]=b3 (.rt (.bl ba) [s0,s1,s2,s3,s4,s5,s6,s7,.va C]):=by obtain⟨a,b,c⟩:=h;have r:=AK d 3 (by decide) (by decide);rw[show(3:Int).toNat=3 from rfl]at r;unfold gl13;simp[a,b,c,r,e,aI,ZO]
end
def rng5:YR 0 5=[.int 0,.int 1,.int 2,.int 3,.int 4]:=by kernel_rfl
def lR{δ:Ev}:iR2 (fC (.int 1)) (fC (.int 5)) δ=b3 ([.int 1,.int 2,.int 3,.int 4],δ):=by kernel_rfl
def jr{d:cH}(h:NZ 2 (.lst [d,d,d,d,d])):QE (.lst [d,d,d,d,d]) (.lst [d,d,d,d,d])=b3 (.bl bb):=by rw[Vx h h,lL h];rfl
def ne_5(k:Int):QE (.lst [rf k,rf k,rf k,rf k,rf k]) (.lst [rf k,rf k,rf k,rf k,rf k])=b3 (.bl bb):=
 have h:NZ 1 (rf k):=OV (aK YN (aK X1 YD));jr (WU (aK h (aK h (aK h (aK h (aK h YD))))))
def KC{B:VS}{a T b s3 s4 s5 s6 s7 c:Sl}{w:cH}{ds:List cH}{r:Option Ou}(h:B [a,T,b,.va w,s4,s5,s6,s7,c]=b3 (.nx [a,T,b,.va w,s4,s5,s6,s7,c]))(k:V9 (gN 3) B ds [a,T,b,.va w,s4,s5,s6,s7,c]=r):V9 (gN 3) B (w::ds) [a,T,b,s3,s4,s5,s6,s7,c]=r:=by rw[NB,show gN 3 w [a,T,b,s3,s4,s5,s6,s7,c]=b3 [a,T,b,.va w,s4,s5,s6,s7,c] from rfl,IL,h,IM,k]
def nF{sure:Int}{rows:List cH}{w:cH}{a T s4 s5 s6 s7 d:Sl}(f:ZD [Bk sure rows]=b3 (.bl ba,[]))(hl:YO [w]=b3 (.bl bb,[])):OC [a,T,.va (Bk sure rows),.va w,s4,s5,s6,s7,d]=b3 (.nx [a,T,.va (Bk sure rows),.va w,s4,s5,s6,s7,d]):=by have c:=pC f hl;have a0:=oY (p:=.non) c;obtain⟨p1,p2⟩:=lD (p:=.non) c;obtain⟨i,h,g,a4⟩:=cK (k:=3) (by kernel_rfl) (by simp[ZL]) (.inr (.inl rfl)) p1 p2;have r:=AK (rf 3) 5 (by decide) (by decide);rw[show(5:Int).toNat=5 from rfl]at r;have e:=ne_5 3;unfold OC;generalize Bk sure rows=b at*;simp[a0,i,h,g,a4,aI,ZO,r,e,rng5]
noncomputable abbrev UO(m:Int):List cH:=[.non,.int 5,.lst [],.str "",.tup [.tup []],.tup [.tup [.int 0]],.tup [.tup [.str "0",.str "1"]],.tup [.tup [.int 0,.non]],.tup [.tup [.int 0,.int m]],.tup [.tup [.int (-1),.int 0]],.tup [.int 0,.int 1],.tup [.tup [.int 0,.int 0]]]
def mi{sure:Int}{rows:List cH}{kds:List Kd}(g:Bl [] rows kds){x:cH}(c:x∈UO rows.length):aQ [Bk sure rows,.int 2,x]=b3 (.bl bb,[]):=by
 have a:aR [.int 0,.int 0,.int ((rows.length:Int)-1)]=b3 (.bl (decide ((0:Int)<=(rows.length:Int)-1)),[]):=by rw[PL];simp
 have f:aR [.int rows.length,.int 0,.int ((rows.length:Int)-1)]=b3 (.bl bb,[]):=by
  rw[PL];have:¬(rows.length:Int)<=(rows.length:Int)-1:=by lia
  simp[this]
 have e:aR [.int (-1),.int 0,.int ((rows.length:Int)-1)]=b3 (.bl bb,[]):=by rw[PL];simp
 have b:∀s,aR [.str s,.int 0,.int ((rows.length:Int)-1)]=b3 (.bl bb,[]):=λs=>by kernel_rfl
 have d:aR [.non,.int 0,.int ((rows.length:Int)-1)]=b3 (.bl bb,[]):=by kernel_rfl
 simp only[Al,Bi,or_false]at c;rcases c with rfl|rfl|rfl|rfl|rfl|rfl|rfl|rfl|rfl|rfl|rfl|rfl
 ·exact FQ (.inl rfl)
 ·exact FQ (.inr (.inl ⟨_,rfl⟩))
 ·exact FQ (.inr (.inr (.inr ⟨_,rfl⟩)))
 ·exact FQ (.inr (.inr (.inl ⟨_,rfl⟩)))
 ·exact RN (len2 (by decide) (by decide))
 ·exact RN (len2 (by decide) (by decide))
 ·exact RN (K6 (b _) (b _) rfl)
 ·exact RN (K6 a d (Oe _))
 ·exact RN (K6 a f (Oe _))
 ·exact RN (K6 e a rfl)
 ·exact mJ Yu Yu
 ·cases g with
  |nil=>exact RN (K6 a a rfl)
  |cons ok _=>
   obtain⟨x,t,rfl,_⟩:=R0 ok;exact RN oK
end L2
namespace RR
open PySem L2
def gV(ns:List Int)(hl:ns.length<=63):G8 [.lst (ns.map .int)]=b3 (.bl ba,[]):=by
 obtain⟨sure,rows,kds,n,l,Z,s0,s1,Y,S⟩:=l8 ns 5 8 hl (by lia) (by lia) (by lia);have a:ZD [Bk sure rows]=b3 (.bl ba,[]):=BU l s0 s1 (by lia);obtain⟨pl,e,R⟩:=WE ns n (UO rows.length) hl (by lia) (by simp);have c:=mi (sure:=sure) l e;have ck:=Zb a (show YO [.int 2]=b3 (.bl ba,[]) by kernel_rfl);have q0:=kY ck c;obtain⟨p1,p2⟩:=nk ck c;obtain⟨q1,q2,q3,B⟩:=cK (k:=4) (by kernel_rfl) (by simp[ZL]) (.inr (.inr rfl)) p1 p2;have F:cH.lst (ns.map .int)=YI ns:=rfl;have d:bF [] 9 [YI ns]=[.va (YI ns),.no,.no,.no,.no,.no,.no,.no,.no]:=rfl;have P:gl1 [.va (YI ns),.no,.no,.no,.no,.no,.no,.no,.no]=b3 (.nx [.va (YI ns),.ow (YQ 0),.no,.no,.no,.no,.no,.no,.no]):=rfl;have O:gl2 [.va (YI ns),.ow (YQ 0),.no,.no,.no,.no,.no,.no,.no]=b3 (.nx [.va (YI ns),.ow (YQ 5),.no,.no,.no,.no,.no,.no,.no]):=by obtain⟨X,m0,m⟩:=OT ns 0 hl (by lia);obtain⟨W,m1,f1⟩:=OT ns 1 hl (by lia);obtain⟨V,m2,f2⟩:=OT ns 2 hl (by lia);obtain⟨U,m3,f3⟩:=OT ns 3 hl (by lia);obtain⟨T,m4,Q⟩:=OT ns 4 hl (by lia);have a0:=congrArg (·.1) (RG m0);have q:=congrArg (·.2.1) (RG m1);have p:=congrArg (·.2.2.1) (RG m2);have o:=congrArg (·.2.2.2.1) (RG m3);have a4:=congrArg (·.2.2.2.2) (RG m4);simp only at a0 q p o a4;have r:=AK (rf 0) 5 (by decide) (by decide);rw[show(5:Int).toNat=5 from rfl]at r;have D:=ne_5 0;rw[Jn]at m;unfold gl2;simp[m,f1,f2,f3,Q,a0,q,p,o,a4,aI,ZO,r,D,rng5]
 have N:gl3 [.va (YI ns),.ow (YQ 5),.no,.no,.no,.no,.no,.no,.no]=b3 (.nx [.va (YI ns),.ow (YQ n),.va (Bk sure rows),.no,.no,.no,.no,.no,.no]):=by unfold gl3;simp[S]
 have M:gl4 [.va (YI ns),.ow (YQ n),.va (Bk sure rows),.no,.no,.no,.no,.no,.no]=b3 (.nx [.va (YI ns),.ow (YQ n),.va (Bk sure rows),.va (.tup [.int 2]),.no,.no,.no,.no,.no]):=by have t:∀{w:cH},YO [w]=b3 (.bl bb,[])->OC [.va (YI ns),.ow (YQ n),.va (Bk sure rows),.va w,.no,.no,.no,.no,.no]=b3 (.nx [.va (YI ns),.ow (YQ n),.va (Bk sure rows),.va w,.no,.no,.no,.no,.no]):=λh=>nF a h;have A:=t (w:=.non) (by kernel_rfl);have z:=t (w:=.int 1) (by kernel_rfl);have y:=t (w:=.int 5) (by kernel_rfl);have x:=t (w:=.str "2") (by kernel_rfl);have v:=t (w:=.bl ba) (by kernel_rfl);have u:=t (w:=.lst [.int 2]) (by kernel_rfl);have s:=t (w:=.tup [.int 2]) (by kernel_rfl);clear t;unfold gl4;rw[dP,show∀δ,YG (fC (.lst [.non,.int 1,.int 5,.str "2",.bl ba,.lst [.int 2],.tup [.int 2]])) δ=b3 ([.non,.int 1,.int 5,.str "2",.bl ba,.lst [.int 2],.tup [.int 2]],δ) from λ_=>rfl,qF_s];exact KC A (KC z (KC y (KC x (KC v (KC u (KC s rfl))))))
 have K:gl5 [.va (YI ns),.ow (YQ n),.va (Bk sure rows),.va (.tup [.int 2]),.no,.no,.no,.no,.no]=b3 (.nx [.va (YI ns),.ow (YQ n),.va (Bk sure rows),.va (.tup [.int 2]),.va (.int rows.length),.no,.no,.no,.no]):=by unfold gl5;simp
 have J:gl6 [.va (YI ns),.ow (YQ n),.va (Bk sure rows),.va (.tup [.int 2]),.va (.int rows.length),.no,.no,.no,.no]=b3 (.nx [.va (YI ns),.ow (YQ n),.va (Bk sure rows),.va (.tup [.int 2]),.va (.int rows.length),.va (.lst (UO rows.length)),.no,.no,.no]):=by kernel_rfl
 have I:gl7 [.va (YI ns),.ow (YQ n),.va (Bk sure rows),.va (.tup [.int 2]),.va (.int rows.length),.va (.lst (UO rows.length)),.no,.no,.no]=b3 (.nx [.va (YI ns),.ow (YQ (n+1)),.va (Bk sure rows),.va (.tup [.int 2]),.va (.int rows.length),.va (.lst (UO rows.length)),.va pl,.no,.no]):=by unfold gl7;generalize cH.lst (UO rows.length)=L at*;simp[R]
 have H:gl8 [.va (YI ns),.ow (YQ (n+1)),.va (Bk sure rows),.va (.tup [.int 2]),.va (.int rows.length),.va (.lst (UO rows.length)),.va pl,.no,.no]=b3 (.nx [.va (YI ns),.ow (YQ (n+1)),.va (Bk sure rows),.va (.tup [.int 2]),.va (.int rows.length),.va (.lst (UO rows.length)),.va pl,.no,.no]):=by have C:RW (.bl bb) (.bl bb)=b3 (.bl bb):=rfl;unfold gl8;generalize Bk sure rows=b at*;generalize cH.lst (UO rows.length)=L at*;simp[q0,C]
 have G:gl9 [.va (YI ns),.ow (YQ (n+1)),.va (Bk sure rows),.va (.tup [.int 2]),.va (.int rows.length),.va (.lst (UO rows.length)),.va pl,.no,.no]=b3 (.nx [.va (YI ns),.ow (YQ (n+1)),.va (Bk sure rows),.va (.tup [.int 2]),.va (.int rows.length),.va (.lst (UO rows.length)),.va pl,.no,.no]):=by
  have r:=AK (rf 4) 4 (by decide) (by decide);rw[show(4:Int).toNat=4 from rfl]at r;have E:QE (.lst [rf 4,rf 4,rf 4,rf 4]) (.lst [rf 4,rf 4,rf 4,rf 4])=b3 (.bl bb):=by kernel_rfl
  unfold gl9;generalize Bk sure rows=b at*;generalize cH.lst (UO rows.length)=L at*;simp[q1,q2,q3,B,aI,ZO,r,E,lR]
 have j:gl10 [.va (YI ns),.ow (YQ (n+1)),.va (Bk sure rows),.va (.tup [.int 2]),.va (.int rows.length),.va (.lst (UO rows.length)),.va pl,.no,.no]=b3 (.nx [.va (YI ns),.ow (YQ (n+1)),.va (Bk sure rows),.va (.tup [.int 2]),.va (.int rows.length),.va (.lst (UO rows.length)),.va pl,.va (.tup kR),.no]):=rfl;have i:gl11 [.va (YI ns),.ow (YQ (n+1)),.va (Bk sure rows),.va (.tup [.int 2]),.va (.int rows.length),.va (.lst (UO rows.length)),.va pl,.va (.tup kR),.no]=b3 (.nx [.va (YI ns),.ow (YQ (n+1)),.va (Bk sure rows),.va (.tup [.int 2]),.va (.int rows.length),.va (.lst (UO rows.length)),.va pl,.va (.tup kR),.va (Bk 9 kR)]):=rfl;have g:gl12 (.tup [.tup [.int 2,.int 4]]) (.tup [.tup [.int 5,.int 6]]) [.va (YI ns),.ow (YQ (n+1)),.va (Bk sure rows),.va (.tup [.int 2]),.va (.int rows.length),.va (.lst (UO rows.length)),.va pl,.va (.tup kR),.va (Bk 9 kR)]=b3 (.nx [.va (YI ns),.ow (YQ (n+1)),.va (Bk sure rows),.va (.tup [.int 2]),.va (.int rows.length),.va (.lst (UO rows.length)),.va pl,.va (.tup kR),.va (Bk 9 kR)]):=jB gG jz;have f:gl13 (.tup [.tup [.int 2,.int 4]]) (.tup [.str "not",.tup [.tup [.int 2,.int 4]]]) [.va (YI ns),.ow (YQ (n+1)),.va (Bk sure rows),.va (.tup [.int 2]),.va (.int rows.length),.va (.lst (UO rows.length)),.va pl,.va (.tup kR),.va (Bk 9 kR)]=b3 (.rt (.bl ba) [.va (YI ns),.ow (YQ (n+1)),.va (Bk sure rows),.va (.tup [.int 2]),.va (.int rows.length),.va (.lst (UO rows.length)),.va pl,.va (.tup kR),.va (Bk 9 kR)]):=jA lH (by kernel_rfl);rw[F];unfold G8;rw[bN,eV,d,X3,P,OZ,X3,O,OZ,X3,N,OZ,X3,M,OZ,X3,K,OZ,X3,J,OZ,X3,I,OZ,X3,H,OZ,X3,G,OZ,X3,j,OZ,X3,i,OZ,X3,g,OZ,f];rfl
end RR
namespace KK
open PySem PySem.W
noncomputable abbrev g(a i:Nat)(n:Uv)(d m:Uq):Ve:=⟨.type "function",b4,.func (fnOf n n (L2.XV (RR.top i)) (L2.Z1 (RR.top i)) (L2.b5 (RR.top i)) d .none .none m b4 (.ref (a-1)) .none),#[]⟩
def p(P:Qq)(a i:Nat)(n:Uv)(m:Uq)(h1:nsIn (K P) Uw n=b3 (b3 (.ref a)):=by kernel_rfl)(h2:(K P).lookup a=b3 (g a i n .none m):=by kernel_rfl)(b:codeIn (K P) (.ref (a-1)) n=ba:=by kernel_rfl):L2.A4 (K P) n (RR.top i) a:=L2.a4 h1 h2 b (by unfold keepIn;simp only[h2])
end KK
namespace RR
open PySem L2
def zNA{l:Tx}{w:Uy}{K:Ai}{mg:Uv->Option Uq}{fa:Ur}(T:Txt w K mg)(e:mg "law"=b3 (.ref fa)):∃fd:Cj,(∀(s:Ae) (v:Uq),Qa s fd ⟨[v],[]⟩ [("_law_script",v)])/\∀base:Vb,K.In base->base.Ns Uw mg->W0 l.prog w K mg base CX0 10 fa fd ["_law_script"] (spV K [] 1 G8):=by obtain⟨i,od,kV,doc,h,j,g,ct,f,a,b,c,d⟩:=T.p_x50;cases e.symm.trans (T.fnm _ _ a);exact⟨_,λs v=>.of_eq rfl,λbase _ _=>lm T (FT (st:=top 90) b c d)⟩
def zDL(K:Ai)(H:Hp)(a:Ur)(ns:List Int)(hl:ns.length<=63)(h:XR K H a (ns.map V.int)):spV K [] 1 G8 [.ref a] H (λv _=>v=.bl ba) λ_ _ _=>False:=by
 have c:bQ K (Zp (λ_=>False) [] [.ref a]) H (ns.map V.int) (ns.map cH.int):=by
  clear h hl;induction ns with
  |nil=>exact .nil
  |cons n ns f=>exact .cons (.int n) f
 have hz:∀b,¬Zp (λ_=>False) [] [V.ref a] b:=λb h=>by
  rcases h with h|⟨i,h,_⟩
  ·exact h
  ·cases h
 refine⟨λ_=>False,[.lst (ns.map .int)],.bl ba,[],rfl,⟨rfl,(λi h=>nomatch h),λi d hi e=>?_,(λi d h=>nomatch h),(λi j b h=>nomatch h),λa h=>h.elim⟩,gV ns hl,λv H' _ _ r=>by cases r;rfl⟩;cases i with
 |zero=>
  cases e;refine⟨_,rfl,?_⟩;rcases h with(h|⟨o,h⟩)|h
  ·exact .lst h (hz a) c
  ·exact .fzl (.inl ⟨o,h⟩) c
  ·exact .fzl (.inr h) c
 |succ i=>cases i<;>cases e
end RR
open PySem PySem.W PyProof.Rows
set_option maxRecDepth 100000 in
set_option maxHeartbeats 0 in
theorem PySem.Challenge.cw_lanepacks_k12_plans_refused_holds : PySem.Challenge.rw_lanepacks_k12_plans_refused.Holds := by
 w_on;refine holds_law KK.said λsaid=>?_
 refine holds_open (q:=KK.view) (loose:=KK.lo) (Xt:=KK.X) (XP:=XL KK.view []) (Yf:=KK.H.obs) (Ya:=KK.H.val) (YP:=KK.H.says) (N:=11452) KK.hl (Hook.of _) (Hook.keeps _) (λs e=>xl_of s (Dv.mp e).1) XL.keeps (by rfl) (by rfl) (by rfl) (λs e=>recFacts_of (Dv.mp e).2) (by rfl) (by first|assumption|decide+kernel) (by decide+kernel) ⟨rfl,rfl,rfl,rfl,rfl,by decide+kernel⟩ ?hw ?hc
 case hw=>w_witness2
 refine L2.zCO (l:=Lk) (n:=63) (k:=10) (x:= "_law_script") (CX:=L2.CX0) (sp:=λK=>L2.spV K [] 1 L2.G8) rfl (by decide) rfl ⟨rfl,by decide,by decide⟩ (λw h Y=>W.kIn_of (K:=KK.K) (as:=KK.A) (e:=KK.kA) Y) ?F (λK H a ns hl _ hS=>RR.zDL K H a ns hl hS) λ_ _ _ _ z=>z
 case F=>
  intro w mg fa h KX G hmg;have N:∀{x},Ep (KK.K w.params) Uw x=some none->mg x=none:=λh=>W.mg_none_of KX G h;refine RR.zNA (K:=KK.K w.params) ?_ hmg;constructor;exact λ_ _ h=>W.mg_of KX G h;exact λ_ _ _ h=>W.mg_of KX G h;exact KK.p _ _ _ _ KK.m4;iterate 8 exact KK.p _ _ _ _ KK.m0
  iterate 6 exact KK.p _ _ _ _ KK.m2
  iterate 17 exact KK.p _ _ _ _ KK.m3
  exact KK.p _ _ _ _ KK.m1;iterate 17 exact KK.p _ _ _ _ KK.m
  iterate 18 exact N (by kernel_rfl)
  iterate 36 kernel_rfl
  iterate 3 exact⟨⟨by kernel_rfl,⟨by kernel_rfl,by kernel_rfl,by kernel_rfl,by kernel_rfl,by kernel_rfl,by kernel_rfl,by kernel_rfl⟩,by kernel_rfl,24,⟨by kernel_rfl,by kernel_rfl,by kernel_rfl,by kernel_rfl,by kernel_rfl⟩⟩,by kernel_rfl⟩
  exact⟨⟨by kernel_rfl,⟨by kernel_rfl,by kernel_rfl,by kernel_rfl,by kernel_rfl,by kernel_rfl,by kernel_rfl,by kernel_rfl⟩,by kernel_rfl,24,⟨by kernel_rfl,by kernel_rfl,by kernel_rfl,by kernel_rfl,by kernel_rfl⟩⟩,24,199,"NotValid.__init__",RR.mem 14 0,"the plan is not valid",_,by kernel_rfl,by kernel_rfl,by kernel_rfl,(RR.FX _ ⟨⟨.type "function",none,.none,.none,.str "lanepacks.errors" 187,none,.ref 198,.none,#[],rfl,by kernel_rfl,by kernel_rfl⟩,by kernel_rfl⟩),(L2.XG.of (by kernel_rfl) (by kernel_rfl) (by kernel_rfl)),⟨by kernel_rfl,by kernel_rfl,by kernel_rfl⟩⟩;iterate 2 kernel_rfl
  exact KK.p _ _ _ _ KK.m5
end
